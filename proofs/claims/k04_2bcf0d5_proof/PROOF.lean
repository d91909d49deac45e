import PyProof.Rows.All
import Wide.All
import OpenK.AllK
import Wide.FinOn
import Lean
import PyProof.EqAt
import PyProof.EqKinds
import PyProof.TupleCall
import PyProof.NeKinds
import PyProof.StationsW
import PyProof.ExcClass3
import PyProof.ExcBaseAll.ValueError
import PyProof.ExcArgsOwn
import KE.KIsAll
import PyProof.ZipIter
import PyProof.RulesAs
import KE.KLam
import PyProof.NsDelKeeps
import PyProof.Rows.Range3
import PyProof.SumWalkG
import PyProof.EnumMake
import PyProof.EnumFor
import PyProof.WalkInts
import PyProof.Rows.SortWalk
import KE.KSortAsk
import PySem.SetOps
import KE.KSortTup
import PyProof.Rows.SetFrom
import PyProof.SetRoads
import PyProof.Rows.CallKwBuiltin
import PySem.Challenge.RW_nearorders_k04_rows_known
abbrev y':=List (Int×Int)
abbrev A':=List (List Int)
abbrev Bd:=List Int
abbrev Be:=List Nat
abbrev Bf:=List PySem.Str
set_option genSizeOf false
set_option compiler.extract_closed false
noncomputable section
open Array renaming getElem?_eq_some_iff->dm,getElem?_eq_getElem->gp,getElem?_setIfInBounds_self_of_lt->jg,getD->kz,getElem?_toList->ly,length_toList->ni,getElem?_eq_none->tw,perm_iff_toList_perm->yn,getElem?_replicate->zd,mem_toList_iff->Aj,forIn_toList->Ba
open Bool renaming false_eq_true->cu,eq_iff_iff->cw,and_eq_true->cx,false_ne_true->gy,not_true->pg,and_false->qk,not_eq_true'->rz,true_and->vn
open Classical renaming em->rh
open False renaming elim->je
open ForInStep renaming yield->sf
open Function renaming comp->yc
open Int renaming toNat_natCast->fj
open List renaming mem_cons_of_mem->ar,size_toArray->av,getElem?_eq_some_iff->ax,mem_cons->az,getElem?_eq_getElem->ba,mem_cons_self->bf,length_map->bg,range->bo,replicate->bq,mem_append->br,mem_range->bu,length_append->bx,filterMap_cons->cf,mem_singleton->cg,mem_append_right->ck,getElem_mem->cm,mem_map->cp,mem_of_getElem?->cq,map_cons->da,length_cons->dg,getElem?_map->dj,pairwise_cons->dv,getElem?_append_left->dw,getElem?_set_self->dz,all_eq_true->ey,mem_filter->fg,mem_append_left->fh,getElem?_set_ne->fi,getElem?_append_right->gg,pairwise_iff_getElem->ic,replicate_succ->ig,flatMap_cons->ij,map_append->iu,lookup_cons->iw,take_succ_eq_append_getElem->jb,filter_eq_nil_iff->jc,length_filter_le->jd,length_take->jf,filter_cons->jh,nodup_cons->jq,getElem_of_mem->ju,mem_filterMap->jz,flatten_cons->kg,map_map->kh,length_set->lr,length_range->mm,any_eq_true->nh,getElem?_zip_eq_some->nj,length_filterMap_le->nq,length_nil->nr,length_drop->pb,length->pj,mem_of_mem_drop->pq,forIn_cons->pz,getD->qh,perm_ext_iff_of_nodup->ql,append_assoc->qw,pairwise_map->rj,reverse_cons->rn,getElem?_replicate->sr,getElem?_cons_succ->sv,countP_cons->tj,nodup_range->tm,mem_flatMap->tq,take_of_length_le->uc,append_nil->uf,length_singleton->uv,mem_iff_getElem->ux,drop_zero->uy,mem_of_mem_take->uz,forall_mem_cons->vc,forall_mem_nil->vg,map_drop->vp,map_nil->wg,any_map->wk,ext_getElem?->wo,nodup_append->wq,eraseIdx_eq_take_drop_succ->xg,not_mem_nil->xl,of_mem_zip->ya,range_succ->yd,nodup_iff_pairwise_ne->yr,length_eraseIdx_of_lt->yt,mem_or_eq_of_mem_set->ze,getElem?_take_of_lt->zg,map_take->zi,length_eq_zero_iff->zl,range_succ_eq_map->zu,pairwise_lt_range->zw,drop_of_length_le->Aa,length_replicate->Ac,take_append_drop->Ai,getElem?_eq_none->Al,getElem?_toArray->Am,map_congr_left->Bb,mem_map_of_mem->Bc
open List.Pairwise renaming nil->uh,imp_of_mem->wc
open List.Perm renaming refl->wz,append_left->yu,swap->Ay
open List.cons renaming injEq->As
open Nat renaming le_refl->ak,lt_of_lt_of_le->au,ne_of_lt->ay,le_trans->cz,zero_le->gr,le_of_lt->gu,lt_irrefl->gz,ne_of_gt->ji,lt_or_ge->jk,lt_succ_self->jy,lt_succ_of_lt->ki,mul_le_mul->ou,le_add_right->pf,succ_ne_self->ph,le_of_eq->qi,succ_mul->wy,min_self->Af,zero_add->Ag,lt_asymm->Ak,pow_le_pow_right->Az
open Ne renaming symm->de
open Option renaming isSome_iff_exists->yq,isSome_some->An
open Option.some renaming inj->cn,injEq->zf
open Prod renaming fst->fe,snd->qo
open PyProof.Rows renaming slot_tuple_getitem->df,callWith_type1->jm,IntsAre->lg,get?_update_seq->mw,AllBare->ua,listUpdate_at->um,tupleItemsOf_->xh,assignInOrder_cons->xm,size_push'->xw,IsTup->ye,lt_int->yg
open PyProof.Rows.IsTup renaming push->yp
open PySem renaming wpAny_bind->aa,Value->af,Shared->ag,wpAny_pure->ah,Addr->ai,starEach->aw,Program->bh,Expr->bj,FuncData->bp,Around->bw,sizeLine->cb,World->cj,Heap->cy,mainGlobals->di,wpAny_newObj_type->dk,bootBuiltins->dy,wpAny_field->ff,wpAny_call_entry->fq,mem_of_lookup->fw,wpAny_callSpecial?_slot->gm,Scope->gq,wpAny_holding->gv,IsTupleKey->gw,Stmt->ie,SetTable->iq,wpAny_setField_rec->jn,Comprehension->jo,sizeLine_eq->jr,wpAny_seqItems->jt,wpAny_setState_of->jw,Arguments->km,wpAny_mono->kn,NameKind->lh,Builtin->md,wpAny_passesOwn->mq,codeAny_builtin->mr,IsPair->my,wpAny_truthy_bool->nc,wpAny_typeOf->nu,wpAny_askSetting->nv,wpAny_execs_nil->oi,wpAny_pyIter_tuple->om,wpAny_execs_cons->qc,wpAny_forIn_list->qd,wpAny_pyIter_zip->qe,wpAny_standAt->qg,codeAny_call_builtin->qj,pushCells_keeps->qr,codeAny_mono->qu,wpAny_rule->si,wpAny_Call_Name_kw->sj,wpAny_pyIter_list->ub,IsPart->ug,wpAny_onRaise->ui,wpAny_comprehension_free->uj,wpAny_newList->uq,call_meets->ve,wpAny_updateSeq_pair->vz,wpAny_runValue->we,TriplesOk->wj,wpAny_setEntries_of->xc,wpAny_attempt->xi,Result->xq,Model->yf,wpAny_sequenceKey->yh,boot_len->yi,IsZip->yk,wpAny_eqBool_int->yv,PassesOwn->yw,noFill_tuple_add->yy,wpAny_isInstance->zc,wpAny_of_eq->zh,BindsTo->zq,wpAny_setField->Ah,wpAny_letOwnedTupleGo_zip->Aq,seq_tuple_add->Au,evalPart_none->Av,call->Aw
open PySem.Around renaming under_plainId->ka,frames_deeper->zt
open PySem.Builtin.Frozenset renaming updateFrom->ur
open PySem.Builtin.List renaming listExtendWith->kq,listTooLong->mn,listSameRef->wm,listTouch->xj
open PySem.Builtin.Slice renaming slicePlaces->fz,sliceAdjust->iz,sliceApplied->ku,sliceFields->vq
open PySem.Builtin.SmallTypes renaming nextOf->fv,ownedTupleIsFree->qt,stopIteration->sh
open PySem.Builtin.Tuple renaming tupleExact->gn,tupleItemsOf->vm
open PySem.Challenge renaming pw_nearorders_k04_rows_known->ae
open PySem.Code renaming quiet_builtin->vt
open PySem.EntryCells renaming newEntry->yz
open PySem.F renaming args_tuple_add_2->qp,entry_tuple_add->qv,plainAttrs_list->rf,slot_tuple_add->sk,args_tuple_getitem_2->xf,entry_tuple_getitem->xk,excBase_ValueError->xu,slot_tuple_index->ym
open PySem.Heap renaming get?_push_of_some->aj,lt_size->aq,get?_push_size->bc,size_push->gh,SameBut->ja,get?_update_ne->jv,get?_update_other->oj,get?_update_self->ow,ExtBut->Ap
open PySem.Heap.IsSliceOf renaming new->yb
open PySem.Heap.SameBut renaming update->oq,refl->uw
open PySem.IsL renaming update->Ae
open PySem.NameKind renaming free->bz,cell->du
open PySem.Obj renaming mapSeq->pd,data_mapFields->vv,isFreed_of_fields->Ao
open PySem.PassesOwn renaming leaving->zv
open PySem.SeqAt renaming EqAt->kr,RcAt->tu
open PySem.SetTable renaming insertAt->jl,turns->ud,below->ue,sizeAbove->zy
open PySem.Shared renaming TypeIs->oz
open PySem.Str renaming ofString->lj
open PySem.Value renaming ref->ik,none->jx,isInt_shape->oh,builtin->vf,bool->vh,type->vj
open PySem.W renaming Frag->ao,kitOne->dh,subIn->kd,keepIn->kj,kla_obj->kv,CodeHd->mf,envX->og,fnOf->pw,kla_fn->qf,tabObj->uk,methodObj->vk,codeIn->xr,kitCls->xv,excIn->yj,cellsFrom_some->yx,nsIn->zb,hideAll_size->zj,hideAll_none->zk,hideAll_get->zm,of_hideAll->Ab
open PySem.Walks renaming list->Ax
open PySem.pickOrder renaming go->yo
open Sum renaming inl->wu,inr->wx
set_option Elab.async false
set_option linter.all false
set_option maxRecDepth 100000
set_option maxHeartbeats 4000000
open PySem PySem.Spec PyProof.Rows
namespace L2.Mr
open PySem PySem.Spec PySem.Calls PyProof.Rows PySem.W
def P0 (o:Obj):Bool:=match o.cls,o.data with
 | .none,.fields _=>false
 |_,_=>true
def nZ (h:cy):List ai->Frag
 | []=>[]
 |a::as=>match h.get? a with
  |some o=>match P0 o with
   |true=>(a,o)::nZ h as
   |false=>nZ h as
  |none=>nZ h as
def sY (h:cy):Frag:=nZ h (bo h.objs.size)
theorem vU (h:cy):∀as,(nZ h as).In h
 | [],_,_,e=>nomatch e
 |a::as,b,o,e=>by
  unfold nZ at e
  split at e
  ·rename_i o' q
   split at e
   ·rw[iw]at e
    cases z:b==a with
    |true=>rw[z]at e;cases e;rw[eq_of_beq z];exact q
    |false=>rw[z]at e;exact vU h as b o e
   ·exact vU h as b o e
  ·exact vU h as b o e
theorem vV (h:cy):∀as,noTabs (nZ h as)=true
 | []=>rfl
 |a::as=>by
  unfold nZ
  split
  ·split
   ·rename_i q;show(_&&_)=true;rw[cx];refine⟨?_,vV h as⟩;exact q
   ·exact vV h as
  ·exact vV h as
def cY (K:Frag) (f:ai):Option bp:=match K.lookup f with
 |some o=>match o.data with
  | .func fd=>some { fd with kwdefaults:=.none,doc:=.none,pyModule:=.none,annotations:=none,closureTuple:=.none }
  |_=>none
 |none=>none
theorem P4 {K:Frag}{f:ai}{n q:Str}{A:km}{B:List ie}{S:gq}{dV cd:af}(h:cY K f=some (fnOf n q A B S dV .none .none .none none cd .none)):
  ∃(oc:af) (od:Option ai) (kV dc pm:af) (an:Option ai) (ct:af) (sl:Array (Option af)),K.lookup f=some ⟨oc,od,.func (fnOf n q A B S dV kV dc pm an cd ct),sl⟩:=by
 unfold cY at h
 split at h
 ·rename_i o e
  split at h
  ·rename_i fd q;obtain⟨oc,od,dt,sl⟩:=o;cases fd;simp only[zf,FuncData.mk.injEq]at h;obtain⟨rfl,rfl,rfl,rfl,rfl,rfl,rfl,rfl,_,_,_,_,rfl,_,rfl⟩:=h;simp only at q;subst q;exact⟨_,_,_,_,_,_,_,_,e⟩
  ·cases h
 ·cases h
theorem qR {F:List (Frag->Bool)}{K:Frag}(h:F.all (λf=>f K)=true) (i:Nat) {f:Frag->Bool}(e:F[i]?=some f):f K=true:=ey.mp h f (cq e)
theorem P5 {l m:List (Option bp)}(h:l=m) (i:Nat) {a b:Option bp}(e:l[i]?=some a) (e':m[i]?=some b):a=b:=by subst h;rw[e]at e';exact cn e'
def AJ (K:Frag) (q:ai):Bool:=match K.lookup q with
 |some ⟨_,_,.cls _,_⟩=>true
 |_=>false
theorem P6 {K:Frag}{q:ai}(h:AJ K q=true):∃lo ld lc ls,K.lookup q=some ⟨lo,ld,.cls lc,ls⟩:=by
 unfold AJ at h
 split at h
 ·exact⟨_,_,_,_,by assumption⟩
 ·cases h
def AK (K:Frag) (n:Str) (v:Int):Bool:=match nsIn K di n with
 |some (some (.int i _))=>i==v
 |_=>false
theorem P7 {K:Frag}{n:Str}{v:Int}(h:AK K n v=true):∃t,nsIn K di n=some (some (.int v t)):=by
 unfold AK at h
 split at h
 ·rename_i i t e;rw[eq_of_beq h]at e;exact⟨t,e⟩
 ·cases h
theorem AL (p:bh) (w:cj) (N:Nat) {α:Type}(f:ag->α):(openEnds treeTable p w N).map f=(((Fast.tw10274390034422433532 Fast.tw14364793385576792824 (opening p) w N (PySem.start (opening p)).1 (PySem.start (opening p)).2).bind (Fast.tw14289696077712309145 p)).bind λs₀=>match s₀.heap.isNs di&&s₀.gens.size==0 with
 |true=>(Fast.tw14082659384304107361 Fast.tw14364793385576792824 p w s₀.heap.objs.size (s₀.heap.nsMap di "__annotations__") N s₀ (topStub p)).bind λs₁=>match staticsOk (importedModules p.main.body) s₀.heap s₁.heap&&namesBound p s₁.heap&&gensDone s₁&&laidKept s₀.heap s₁.heap with
   |true=>some s₁
   |false=>none
 |false=>none).map f:=by
 rw[<-Fast.te10274390034422433532,<-Fast.te14364793385576792824,<-Fast.te14289696077712309145,<-Fast.te14082659384304107361];rfl
abbrev P8:List af:=[.type "ValueError",.type "Exception",.type "BaseException",.type "object"]
def P9 (s:ie) (cd:ai):Option bp:=match s with
 | .FunctionDef n a b _ _ _ sc _ _ _=>some (fnOf n n a b sc .none .none .none .none none (.ref cd) .none)
 |_=>none
def fE (p:bh) (i:Nat) (cd:ai):Option bp:=P9 (p.main.body.getD i (.Pass ⟨0,0,0,0⟩)) cd
def nR (K:Frag) (n:Str) (a:ai):Bool:=decide (nsIn K di n=some (some (.ref a)))
def nN (K:Frag) (n:Str):Bool:=decide (nsIn K di n=some none)
def sI (K:Frag) (a b:af) (v:Bool):Bool:=decide (subIn K a b=some v)
def kI (K:Frag) (a b:ai) (v:Bool):Bool:=decide (kitOne K (.ref a) (.ref b)=some v)
theorem dA {F:List (Frag->Bool)}{K:Frag}(h:F.all (λf=>f K)=true) (i:Nat) {g:Frag->Prop}[∀K,Decidable (g K)] (e:F[i]?=some (λK=>decide (g K))):g K:=of_decide_eq_true (qR h i e)
end L2.Mr
namespace L2.Mr.K04
open PySem PySem.Spec PySem.Calls PySem.W PyProof.Rows
def vw:bh:={ ae with main:={ ae.main with body:=List.filterMap (λi=>ae.main.body[i]?) [1,2,3,4,5,6,7,8,9,10,11,12,14,15,16,18,19,20,21,22,23,24,25,26,28,29,30,31,33,34,35,36,37,38,39,40,41,42,43,44,45,46,47] } }
def Xw:ag->Bool:=λs=>xlAt vw [] s&&recOk (RowW.records (OpenRow.toRowW PySem.Challenge.rw_nearorders_k04_rows_known.row)) s
def obF:List (Frag->Bool):=[(nR · "is_whole" 166),(nR · "is_between" 173),(nR · "is_rising" 178),(nR · "is_thing" 185),(nR · "are_things" 190),(nR · "is_pair" 197),(nR · "are_pairs" 202),(nR · "has_alike" 207),(nR · "is_complete" 212),(nR · "is_order" 219),(nR · "need_order" 226),(nR · "is_row" 231),(nR · "may_come" 236),(nR · "all_rows" 241),(nR · "rows_many" 248),(nR · "_law_cell_at" 255),(nR · "_law_state" 262),(nR · "_law_take" 269),(nR · "_law_mixed_row" 276),(nR · "_law_closed" 281),(nR · "_law_order" 286),(nR · "_law_rows" 291),(nR · "_law_whole" 298),(nR · "_law_is_row" 303),(nR · "_law_some_row" 308),(nR · "_law_bent_row" 315),(nR · "_law_bad_order" 322),(nR · "_law_same" 327),(nR · "_law_refused" 332),(nR · "law" 337),(nR · "NoOrder" 37),(nR · "NoNumber" 49),(nR · "NoPairs" 61),(nR · "Round" 73),(nR · "NoThing" 85),(nR · "NoRow" 97),(nR · "TooMany" 109),(nR · "TooFew" 121),(nR · "NoText" 133),(nR · "NoLine" 145),(nR · "NoDeed" 157),(nR · "NearError" 24),(nN · "ValueError"),(nN · "all"),(nN · "any"),(nN · "bool"),(nN · "int"),(nN · "isinstance"),(nN · "len"),(nN · "list"),(nN · "max"),(nN · "min"),(nN · "range"),(nN · "set"),(nN · "sorted"),(nN · "tuple"),(nN · "zip"),(codeIn · (.ref 165) "is_whole"),(codeIn · (.ref 172) "is_between"),(codeIn · (.ref 177) "is_rising"),(codeIn · (.ref 184) "is_thing"),(codeIn · (.ref 189) "are_things"),(codeIn · (.ref 196) "is_pair"),(codeIn · (.ref 201) "are_pairs"),(codeIn · (.ref 206) "has_alike"),(codeIn · (.ref 211) "is_complete"),(codeIn · (.ref 218) "is_order"),(codeIn · (.ref 225) "need_order"),(codeIn · (.ref 230) "is_row"),(codeIn · (.ref 235) "may_come"),(codeIn · (.ref 240) "all_rows"),(codeIn · (.ref 247) "rows_many"),(codeIn · (.ref 254) "_law_cell_at"),(codeIn · (.ref 261) "_law_state"),(codeIn · (.ref 268) "_law_take"),(codeIn · (.ref 275) "_law_mixed_row"),(codeIn · (.ref 280) "_law_closed"),(codeIn · (.ref 285) "_law_order"),(codeIn · (.ref 290) "_law_rows"),(codeIn · (.ref 297) "_law_whole"),(codeIn · (.ref 302) "_law_is_row"),(codeIn · (.ref 307) "_law_some_row"),(codeIn · (.ref 314) "_law_bent_row"),(codeIn · (.ref 321) "_law_bad_order"),(codeIn · (.ref 326) "_law_same"),(codeIn · (.ref 331) "_law_refused"),(codeIn · (.ref 336) "law"),(keepIn · (.ref 166)),(keepIn · (.ref 173)),(keepIn · (.ref 178)),(keepIn · (.ref 185)),(keepIn · (.ref 190)),(keepIn · (.ref 197)),(keepIn · (.ref 202)),(keepIn · (.ref 207)),(keepIn · (.ref 212)),(keepIn · (.ref 219)),(keepIn · (.ref 226)),(keepIn · (.ref 231)),(keepIn · (.ref 236)),(keepIn · (.ref 241)),(keepIn · (.ref 248)),(keepIn · (.ref 255)),(keepIn · (.ref 262)),(keepIn · (.ref 269)),(keepIn · (.ref 276)),(keepIn · (.ref 281)),(keepIn · (.ref 286)),(keepIn · (.ref 291)),(keepIn · (.ref 298)),(keepIn · (.ref 303)),(keepIn · (.ref 308)),(keepIn · (.ref 315)),(keepIn · (.ref 322)),(keepIn · (.ref 327)),(keepIn · (.ref 332)),(keepIn · (.ref 337)),(AK · "MOST_THINGS" 6),λK=>decide (tabIn K "law" = some (336,334)),(sI · (.ref 37) (.ref 24) true),(sI · (.ref 49) (.ref 24) true),(sI · (.ref 61) (.ref 24) true),(sI · (.ref 73) (.ref 24) true),(sI · (.ref 85) (.ref 24) true),(sI · (.ref 97) (.ref 24) true),(sI · (.ref 109) (.ref 24) true),(sI · (.ref 121) (.ref 24) true),(sI · (.ref 133) (.ref 24) true),(sI · (.ref 145) (.ref 24) true),(sI · (.ref 157) (.ref 24) true),(kI · 37 37 true),(kI · 37 49 false),(kI · 37 61 false),(kI · 37 73 false),(kI · 37 85 false),(kI · 37 97 false),(kI · 37 109 false),(kI · 37 121 false),(kI · 37 133 false),(kI · 37 145 false),(kI · 37 157 false),λK=>decide (findIn K (.ref 37) "__getattribute__" = some (some (.builtin "BaseException.__getattribute__"))),λK=>decide (findIn K (.ref 37) "__getattr__" = some none),λK=>decide (findIn K (.ref 37) "__class__" = some (some (.builtin "object.__class__"))),λK=>decide (mroIn K 37 (.type "object")=some true),(sI · (.ref 37) (.type "BaseException") true),λK=>decide (kitCls K (.ref 37) (.ref 37)=some true),(AJ · 37),(excIn · 37 P8 "ValueError.__new__"),λK=>decide (kitOne K (.ref 37) (.type "ValueError")=some true),(sI · (.ref 24) (.type "BaseException") true),(sI · (.type "type") (.type "tuple") false),λK=>decide (kitCls K (.ref 24) (.ref 24)=some true)]
def AM (K:Frag):List (Option bp):=[cY K 166,cY K 173,cY K 178,cY K 185,cY K 190,cY K 197,cY K 202,cY K 207,cY K 212,cY K 219,cY K 226,cY K 231,cY K 236,cY K 241,cY K 248,cY K 255,cY K 262,cY K 269,cY K 276,cY K 281,cY K 286,cY K 291,cY K 298,cY K 303,cY K 308,cY K 315,cY K 322,cY K 327,cY K 332,cY K 337]
def AN:List (Option bp):=[fE ae 14 165,fE ae 15 172,fE ae 16 177,fE ae 19 184,fE ae 20 189,fE ae 21 196,fE ae 22 201,fE ae 23 206,fE ae 24 211,fE ae 25 218,fE ae 26 225,fE ae 28 230,fE ae 29 235,fE ae 30 240,fE ae 31 247,fE ae 33 254,fE ae 34 261,fE ae 35 268,fE ae 36 275,fE ae 37 280,fE ae 38 285,fE ae 39 290,fE ae 40 297,fE ae 41 302,fE ae 42 307,fE ae 43 314,fE ae 44 321,fE ae 45 326,fE ae 46 331,fE ae 47 336]
def ob (K:Frag):Bool×List (Option bp):=(obF.all (λf=>f K),AM K)
abbrev obE:Bool×List (Option bp):=(true,AN)
theorem GF {α β γ:Type}{o:Option α}{f:α->β}{g:α->γ}{a:β}{b:γ}(h1:o.map f=some a) (h2:o.map g=some b):o.map (λs=>(f s,g s))=some (a,b):=by
 cases o with
 |none=>cases h1
 |some s=>cases h1;cases h2;rfl
theorem QA (w:cj):(openEnds treeTable ae w 8000).map (λs=>openSeen vw [] (importedModules (ae).main.body) Xw true s)=some (openGood vw []):=by rw[AL,Fast.te4187177175401517315];kernel_rfl
theorem QB (w:cj):(openEnds treeTable ae w 8000).map (λs=>obF.all (λf=>f (sY s.heap)))=some true:=by rw[AL];kernel_rfl
theorem QC (w:cj):(openEnds treeTable ae w 8000).map (λs=>AM (sY s.heap))=some AN:=by rw[AL];kernel_rfl
theorem left:LeftO ae vw [] Xw (λs=>ob (sY s.heap)) (λ_=>obE) 8000:=λw=>GF (QA w) (GF (QB w) (QC w))
end L2.Mr.K04
abbrev He:PySem.Str:="__debug__"
namespace L2
abbrev hW:=Sum Int Str
def GG:hW->af->Bool
 | .inl k,v=>Value.isInt k v
 | .inr x,v=>Value.isStrOf x v
def QD (w:cj):hW->Int
 | .inl k=>hashInt k
 | .inr x=>hashStr w x
theorem mO:∀{k:hW}{v:af},GG k v=true->(∃i t,k=wu i/\v=Value.int i t)∨(∃x t,k=wx x/\v=Value.str x t)
 | .inl i,v,h=>by obtain⟨t,e⟩:=oh (k:=i) (v:=v) h;exact .inl ⟨i,t,rfl,e⟩
 | .inr x,v,h=>by obtain⟨t,e⟩:=Value.isStrOf_shape (x:=x) (v:=v) h;exact .inr ⟨x,t,rfl,e⟩
theorem QE (a b:Int):decide ((wu a:hW)=wu b)=(a==b):=by
 by_cases e:a=b
 ·subst e;simp
 ·have h:¬ (wu a:hW)=wu b:=λq=>e (Sum.inl.inj q);rw[decide_eq_false h];exact(beq_eq_false_iff_ne.mpr e).symm
theorem QF (a b:Str):decide ((wx a:hW)=wx b)=decide (a=b):=by
 by_cases e:a=b
 ·subst e;simp
 ·have h:¬ (wx a:hW)=wx b:=λq=>e (Sum.inr.inj q);rw[decide_eq_false h,decide_eq_false e]
theorem QG (a:Int) (b:Str):decide ((wu a:hW)=wx b)=false:=decide_eq_false (λq=>nomatch q)
theorem QH (a:Str) (b:Int):decide ((wx a:hW)=wu b)=false:=decide_eq_false (λq=>nomatch q)
def AO (prog:bh) (w:cj):PySem.KeyKind prog w hW where
 is:=GG
 hash:=QD w
 inj:=λv a b ha hb=>by
  rcases mO ha with⟨i,t,rfl,rfl⟩|⟨x,t,rfl,rfl⟩
  ·rcases mO hb with⟨j,u,rfl,e⟩|⟨y,u,rfl,e⟩
   ·injection e with e1 _;rw[e1]
   ·exact nomatch e
  ·rcases mO hb with⟨j,u,rfl,e⟩|⟨y,u,rfl,e⟩
   ·exact nomatch e
   ·injection e with e1 _;rw[e1]
 byValue:=λk v h=>by rcases mO h with⟨i,t,rfl,rfl⟩|⟨x,t,rfl,rfl⟩ <;> rfl
 pyHash:=λhv h=>by
  rcases mO hv with⟨i,t,rfl,rfl⟩|⟨x,t,rfl,rfl⟩
  ·exact wpAny_pyHash_int h
  ·exact wpAny_pyHash_str h
 eqBool:=λhu hv h=>by
  rcases mO hu with⟨i,t,rfl,rfl⟩|⟨x,t,rfl,rfl⟩
  ·rcases mO hv with⟨j,u,rfl,rfl⟩|⟨y,u,rfl,rfl⟩
   ·rw[QE]at h;exact yv h
   ·rw[QG]at h;exact SeqAt.EqAt.int_str i t y u _ _ _ _ h
  ·rcases mO hv with⟨j,u,rfl,rfl⟩|⟨y,u,rfl,rfl⟩
   ·rw[QH]at h;exact SeqAt.EqAt.str_int x t j u _ _ _ _ h
   ·rw[QF]at h;exact wpAny_eqBool_str h
 «strs»:=λk x t v h=>by
  rcases mO h with⟨i,u,rfl,e⟩|⟨y,u,rfl,e⟩
  ·exact nomatch e
  ·injection e with e1 _;subst e1
   cases v <;> rfl
inductive V where
 |non|bl (b:Bool)|int (i:Int)|str (x:Str)|byt (b:Array UInt8)|flt (b:UInt64)|ref (a:ai)|ty (n:String)
 deriving DecidableEq
def RelV:V->af->Prop
 | .non,u=>u=jx
 | .bl b,u=>u=vh b
 | .int i,u=>∃t,u=Value.int i t
 | .str x,u=>∃t,u=Value.str x t
 | .byt b,u=>∃t,u=Value.bytes b t
 | .flt b,u=>∃t,u=Value.float b t
 | .ref a,u=>u=ik a
 | .ty n,u=>u=vj n
abbrev Bp:List V->List af->Prop:=Paired RelV
theorem Bp.length {xs:List V}{us:List af}(r:Bp xs us):xs.length=us.length:=Paired.length r
theorem Bp.get:∀{xs:List V}{us:List af}{i:Nat}{x:V},Bp xs us->xs[i]?=some x->∃u,us[i]?=some u/\RelV x u
 |_,_,_,_,.nil,e=>by simp at e
 |_,_,0,_,.cons r _,e=>by simp at e;subst e;exact⟨_,rfl,r⟩
 |_,_,i+1,x,.cons _ t,e=>by obtain⟨u,h1,h2⟩:=Bp.get (i:=i) (x:=x) t (by simpa using e);exact⟨u,by simpa using h1,h2⟩
theorem Bp.set {x:V}{u:af}(r:RelV x u):∀{xs:List V}{us:List af}(i:Nat),Bp xs us->Bp (xs.set i x) (us.set i u)
 |_,_,_,.nil=>.nil
 |_,_,0,.cons _ t=>.cons r t
 |_,_,i+1,.cons q t=>.cons q (Bp.set r i t)
theorem Bp.append:∀{xs ys:List V}{us ws:List af},Bp xs us->Bp ys ws->Bp (xs++ys) (us++ws)
 |_,_,_,_,.nil,s=>s
 |_,_,_,_,.cons r t,s=>.cons r (Bp.append t s)
theorem Bp.take:∀{xs:List V}{us:List af}(n:Nat),Bp xs us->Bp (xs.take n) (us.take n)
 |_,_,0,_=>.nil
 |_,_,_+1,.nil=>.nil
 |_,_,n+1,.cons r t=>.cons r (Bp.take n t)
theorem Bp.drop:∀{xs:List V}{us:List af}(n:Nat),Bp xs us->Bp (xs.drop n) (us.drop n)
 |_,_,0,r=>r
 |_,_,_+1,.nil=>.nil
 |_,_,n+1,.cons _ t=>Bp.drop n t
def GH:Option V->Option af->Prop
 |some v,some u=>RelV v u
 |none,none=>True
 |_,_=>False
def KV {κ:Type}:List (κ×V)->List (κ×af)->Prop:=Paired λ(p:κ×V) (q:κ×af)=>p.1=q.1/\RelV p.2 q.2
def kV:hW->V
 | .inl i=>.int i
 | .inr x=>.str x
inductive HO where
 |lst (xs:List V)
 |tup (xs:List V)
 |dK (kvs:List (hW×V))|dT (kvs:List (List hW×V))
 |set (S:Int->Bool) (n:Nat)
 |ins (C dx:ai) (fs:List (Str×V))
 |own (x:ai)
 |xd (fs:List (Str×V))
 |met (f x:ai)
 |rng (lo hi:Int)
 |frz (o:Obj) (u:HO)
 |tbl (ps:Array af)
 |ext (φ:cy->Prop)
abbrev Hp:=ai->Option HO
def upd (H:Hp) (a:ai) (o:HO):Hp:=λb=>if b=a then some o else H b
theorem cR {H:Hp}{a:ai}{o:HO}:upd H a o a=some o:=by unfold upd;rw[if_pos rfl]
theorem bU {H:Hp}{a b:ai}{o:HO}(h:b≠a):upd H a o b=H b:=by unfold upd;rw[if_neg h]
theorem oA {H:Hp}{a b:ai}{o u:HO}(h:H a=some o) (h':H b=some u) (d:o≠u):a≠b:=by intro e;subst e;rw[h]at h';exact d (cn h')
theorem fW {H:Hp}{a b:ai}{o:HO}(h:H a=some o) (h':H b=none):a≠b:=by intro e;subst e;rw[h]at h';cases h'
def Cj (h:cy) (a:ai) (items:Array af):Prop:=∃o,h.get? a=some o/\o.cls=.type "tuple"/\o.dict=none/\∃n,o.data=.seq items n
theorem Cj.tup {h:cy}{a:ai}{items:Array af}(x:Cj h a items):ye h a items:=let ⟨o,e,c,_,d⟩:=x;⟨o,e,c,d⟩
theorem Cj.lt {h:cy}{a:ai}{items:Array af}(x:Cj h a items):a<h.objs.size:=let ⟨_,e,_⟩:=x;aq e
theorem Cj.new (h:cy) (items:Array af):Cj (h.push { cls:=.type "tuple",data:=.seq items }) h.objs.size items:=⟨_,bc _ rfl,rfl,rfl,_,rfl⟩
section
variable(P:bh) (w:cj)
def Br (H:Hp) (h:cy) (a:ai):HO->Prop
 | .lst xs=>xs.length<=cb/\∃(its:List af) (n:Nat),Bp xs its/\h.get? a=some { cls:=.type "list",data:=.seq its.toArray n }
 | .tup xs=>xs.length<=cb/\∃its:List af,Bp xs its/\Cj h a its.toArray
 | .dK kvs=>kvs.length<=cb/\(a==sysModules)=false/\∃vs,KV kvs vs/\h.DictOf (AO P w) a vs
 | .dT kvs=>kvs.length<=cb/\(a==sysModules)=false/\∃xs:List (List hW×ai×af),
   Paired (λ(p:List hW×V) (q:List hW×ai×af)=>p.1=q.1/\H q.2.1=some (.tup (p.1.map kV))/\RelV p.2 q.2.2) kvs xs /\
   ∃o es ep,h.get? a=some o/\o.ExactDict/\o.data=.dict es ep/\es.toList=xs.map (entryOfKey (tupleKind (AO P w)))/\(xs.map (·.1)).Nodup
 | .set S n=>h.SetOf (intKind P w) a S n
 | .ins C dx fs=>H dx=some (.own a)/\fs.length<=1000/\dx≠a/\h.get? a=some (PySem.W.instObj C dx) /\
   ∃mA,h.Ns1 dx mA/\(∀f,GH (fs.lookup f) (mA f))/\PySem.Within mA (fs.map (·.1))
 | .own _=>∃o,h.get? a=some o
 | .xd fs=>∃mA,h.Ns1 a mA/\∀f,GH (fs.lookup f) (mA f)
 | .rng lo hi=>∃t u v,h.get? a=some { cls:=.type "range",data:=.fields #[.int lo t,.int hi u,.int 1 v] }
 | .frz o u=>h.get? a=some o/\Br H h a u
 | .tbl ps=>h.get? a=some { cls:=.none,data:=.fields ps }
 | .met f x=>h.get? a=some (vk (.ref f) (.ref x))
 | .ext φ=>φ h/\(∃o,h.get? a=some o)/\∀h1 h2:cy,φ h1->(∀o,h1.get? a=some o->h2.get? a=some o)->φ h2
def Cw (H:Hp) (h:cy):Prop:=∀a o,H a=some o->Br P w H h a o
end
section
variable{P:bh}{w:cj}{H H':Hp}{h h':cy}{a:ai}{o:HO}
theorem Br.lt (x:Br P w H h a o):a<h.objs.size:=by
 cases o with
 |lst xs=>obtain⟨_,_,_,_,e⟩:=x;exact aq e
 |tup xs=>obtain⟨_,_,_,p⟩:=x;exact p.lt
 |dK kvs=>obtain⟨_,_,_,_,o,_,_,e,_⟩:=x;exact aq e
 |dT kvs=>obtain⟨_,_,_,_,o,_,_,e,_⟩:=x;exact aq e
 |set S n=>obtain⟨o,_,_,_,e,_⟩:=x;exact aq e
 |ins C dx fs=>obtain⟨_,_,_,e,_⟩:=x;exact aq e
 |own y=>obtain⟨_,e⟩:=x;exact aq e
 |xd fs=>obtain⟨_,⟨_,_,_,e,_⟩,_⟩:=x;exact aq e
 |rng lo hi=>obtain⟨_,_,_,e⟩:=x;exact aq e
 |frz ob u=>obtain⟨e,_⟩:=x;exact aq e
 |tbl ps=>exact aq (show h.get? a=some _ from x)
 |met f y=>exact aq (show h.get? a=some _ from x)
 |ext φ=>obtain⟨_,⟨_,e⟩,_⟩:=x;exact aq e
theorem Paired.mapP {α β:Type}{F G:α->β->Prop}:∀{l₁:List α}{l₂:List β},Paired F l₁ l₂->(∀a b,F a b->G a b)->Paired G l₁ l₂
 |_,_,.nil,_=>.nil
 |_,_,.cons r t,f=>.cons (f _ _ r) (Paired.mapP t f)
theorem Br.stay (x:Br P w H h a o) (k:∀b u,(b=a∨H b=some (.own a))->h.get? b=some u->h'.get? b=some u)
  (ho:∀b,H b=some (.own a)->H' b=some (.own a)) (ht:∀b xs,H b=some (.tup xs)->H' b=some (.tup xs)):Br P w H' h' a o:=by
 induction o with
 |lst xs=>obtain⟨z,its,n,r,e⟩:=x;exact⟨z,its,n,r,k _ _ (.inl rfl) e⟩
 |tup xs=>obtain⟨z,its,r,ob,e,c⟩:=x;exact⟨z,its,r,ob,k _ _ (.inl rfl) e,c⟩
 |dK kvs=>obtain⟨z,y,vs,r,ob,es,ep,e,c⟩:=x;exact⟨z,y,vs,r,ob,es,ep,k _ _ (.inl rfl) e,c⟩
 |dT kvs=>obtain⟨z,y,xs,r,ob,es,ep,e,c⟩:=x;exact⟨z,y,xs,Paired.mapP r λp q z=>⟨z.1,ht _ _ z.2.1,z.2.2⟩,ob,es,ep,k _ _ (.inl rfl) e,c⟩
 |set S n=>obtain⟨ob,es,ep,t,e,c⟩:=x;exact⟨ob,es,ep,t,k _ _ (.inl rfl) e,c⟩
 |ins C dx fs=>obtain⟨d,z,ne,e,mA,⟨od,es,ep,e2,c⟩,r⟩:=x;exact⟨ho _ d,z,ne,k _ _ (.inl rfl) e,mA,⟨od,es,ep,k _ _ (.inr d) e2,c⟩,r⟩
 |own y=>obtain⟨ob,e⟩:=x;exact⟨ob,k _ _ (.inl rfl) e⟩
 |xd fs=>obtain⟨mA,⟨od,es,ep,e,c⟩,r⟩:=x;exact⟨mA,⟨od,es,ep,k _ _ (.inl rfl) e,c⟩,r⟩
 |rng lo hi=>obtain⟨t,u,v,e⟩:=x;exact⟨t,u,v,k _ _ (.inl rfl) e⟩
 |frz ob u ih=>obtain⟨e,q⟩:=x;exact⟨k _ _ (.inl rfl) e,ih q⟩
 |tbl ps=>have e:h.get? a=some { cls:=.none,data:=.fields ps }:=x;show h'.get? a=some { cls:=.none,data:=.fields ps };exact k a _ (.inl rfl) e
 |met f y=>have e:h.get? a=some (vk (.ref f) (.ref y)):=x;show h'.get? a=some (vk (.ref f) (.ref y));exact k a _ (.inl rfl) e
 |ext φ=>obtain⟨p,⟨o,e⟩,st⟩:=x;exact⟨st _ _ p λo q=>k _ _ (.inl rfl) q,⟨o,k _ _ (.inl rfl) e⟩,st⟩
theorem Cw.lt (x:Cw P w H h) (e:H a=some o):a<h.objs.size:=(x a o e).lt
theorem Cw.fresh (x:Cw P w H h) (e:h.objs.size<=a):H a=none:=by
 cases q:H a with
 |none=>rfl
 |some u=>exact absurd (au (x.lt q) e) (gz _)
theorem Cw.kept (x:Cw P w H h) (k:∀b u,h.get? b=some u->h'.get? b=some u):Cw P w H h':=λa o e=>(x a o e).stay (λb u _ q=>k b u q) (λ_ q=>q) λ_ _ q=>q
theorem Cw.laid (x:Cw P w H h) (k:∀b u,h.get? b=some u->h'.get? b=some u) (hp:h.objs.size<=a) (new:Br P w (upd H a o) h' a o):Cw P w (upd H a o) h':=λb u e=>by
 have hn:=x.fresh hp
 by_cases hb:b=a
 ·subst hb;rw[cR]at e;cases e;exact new
 ·rw[bU hb]at e;exact(x b u e).stay (λc v _ q=>k c v q) (λc q=>by rw[bU (fW q hn)];exact q) λc xs q=>by rw[bU (fW q hn)];exact q
end
def Rd (H:Hp) (a:ai) (u:HO):Prop:=H a=some u∨∃o,H a=some (.frz o u)
theorem Rd.ok {P:bh}{w:cj}{H:Hp}{h:cy}{a:ai}{u:HO}(r:Rd H a u) (x:Cw P w H h):Br P w H h a u:=by
 rcases r with r|⟨o,r⟩
 ·exact x a u r
 ·obtain⟨_,q⟩:=x a _ r;exact q
def vW:Option HO->Prop
 |some (.lst _)=>True
 |some (.dK _)=>True
 |some (.dT _)=>True
 |some (.set _ _)=>True
 |some (.ins _ _ _)=>True
 |some (.ext _)=>True
 |_=>False
section
variable{P:bh}{w:cj}{H:Hp}{h h':cy}{x e:ai}{o':HO}
theorem Cw.write (ok:Cw P w H h) (mu:vW (H x)) (he:e=x∨H e=some (.own x)) (k:∀b u,b≠e->h.get? b=some u->h'.get? b=some u) (heo:∃u,h'.get? e=some u)
  (new:Br P w (upd H x o') h' x o'):Cw P w (upd H x o') h':=λb u q=>by
 have nown:∀c y,H c=some (.own y)->c≠x:=λc y r z=>by subst z;rw[r]at mu;exact mu
 have ntup:∀c xs,H c=some (.tup xs)->c≠x:=λc xs r z=>by subst z;rw[r]at mu;exact mu
 by_cases hb:b=x
 ·subst hb;rw[cR]at q;cases q;exact new
 ·rw[bU hb]at q
  by_cases hbe:b=e
  ·have q':H b=some (.own x):=by
    rcases he with z|z
    ·exact absurd (hbe.trans z) hb
    ·rw[hbe];exact z
   rw[q]at q';cases q';obtain⟨v,hv⟩:=heo;exact⟨v,by rw[hbe];exact hv⟩
  ·refine(ok b u q).stay (λc v hc r=>k c v ?_ r) (λc r=>by rw[bU (nown c b r)];exact r) λc xs r=>by rw[bU (ntup c xs r)];exact r
   rcases hc with rfl|hc
   ·exact hbe
   ·rintro rfl
    rcases he with z|z
    ·exact nown c b hc z
    ·rw[hc]at z;cases z;exact hb rfl
end
structure Un (fs ex:List ai) (H H':Hp) (h h':cy):Prop where
 keep:∀b o,h.get? b=some o->H b=none->b∉fs->b∉ex->h'.get? b=some o
 slot:∀b o,h.get? b=some o->H b=none->b∈fs->b∉ex->∃sl,h'.get? b=some { o with slots:=sl }
 free:∀b o,h.get? b=some o->H b=none->b∉ex->H' b=none
 there:∀b o,h.get? b=some o->b∉ex->∃o',h'.get? b=some o'
 tups:∀b xs,H b=some (.tup xs)->H' b=some (.tup xs)
 frzs:∀b o u,H b=some (.frz o u)->H' b=some (.frz o u)
 tbls:∀b ps,H b=some (.tbl ps)->∃more,H' b=some (.tbl (ps++more))
section
variable{fs fs' ex ex':List ai}{H H1 H2:Hp}{h h1 h2 h':cy}{a x e:ai}{o:HO}
theorem Un.any (u:Un fs ex H H1 h h1) {b:ai}{ob:Obj}(q:h.get? b=some ob) (n:H b=none) (hx:b∉ex):∃sl,h1.get? b=some { ob with slots:=sl }:=by
 by_cases hb:b∈fs
 ·exact u.slot b ob q n hb hx
 ·exact⟨ob.slots,u.keep b ob q n hb hx⟩
theorem Un.kept (k:∀b u,h.get? b=some u->h'.get? b=some u):Un fs ex H H h h':=⟨λb ob q _ _ _=>k b ob q,λb ob q _ _ _=>⟨ob.slots,k b ob q⟩,λ_ _ _ n _=>n,λb ob q _=>⟨ob,k b ob q⟩,λ_ _ q=>q,λ_ _ _ q=>q,λ_ ps q=>⟨#[],by rw[q];simp⟩⟩
theorem Un.refl:Un fs ex H H h h:=Un.kept λ_ _ q=>q
theorem Un.laid (k:∀b u,h.get? b=some u->h'.get? b=some u) (hp:h.objs.size<=a) (hn:H a=none):Un fs ex H (upd H a o) h h' where
 keep:=λb u q _ _ _=>k b u q
 slot:=λb u q _ _ _=>⟨u.slots,k b u q⟩
 free:=λb u q n _=>by rw[bU (ay (au (aq q) hp))];exact n
 there:=λb u q _=>⟨u,k b u q⟩
 tups:=λb xs q=>by rw[bU (fW q hn)];exact q
 frzs:=λb u xs q=>by rw[bU (fW q hn)];exact q
 tbls:=λb ps q=>⟨#[],by rw[bU (fW q hn),q];simp⟩
theorem Un.write (mu:vW (H x)) (he:e=x∨H e=some (.own x)) (k:∀b u,b≠e->h.get? b=some u->h'.get? b=some u) (heo:∃u,h'.get? e=some u):Un fs ex H (upd H x o) h h':=by
 have hx:∀b,H b=none->b≠x:=λb n z=>by subst z;rw[n]at mu;exact mu
 have hb:∀b,H b=none->b≠e:=λb n z=>by
  subst z
  rcases he with r|r
  ·exact hx b n r
  ·rw[n]at r;cases r
 have hm:∀b u,H b=some u->¬ vW (some u)->b≠x:=λb u q nm z=>by subst z;rw[q]at mu;exact nm mu
 refine⟨λb u q n _ _=>k b u (hb b n) q,λb u q n _ _=>⟨u.slots,k b u (hb b n) q⟩,λb u q n _=>by rw[bU (hx b n)];exact n,λb u q _=>?_,
  λb xs q=>by rw[bU (hm b _ q λz=>z)];exact q,λb u xs q=>by rw[bU (hm b _ q λz=>z)];exact q,λb ps q=>⟨#[],by rw[bU (hm b _ q λz=>z),q];simp⟩⟩
 by_cases hbe:b=e
 ·subst hbe;exact heo
 ·exact⟨u,k b u hbe q⟩
end
def vX (h:cy) (H:Hp):List ai:=(bo h.objs.size).filter λa=>(H a).isSome
def kM (h:cy) (H:Hp):cy:=PySem.W.hideAll h (vX h H)
theorem QI (h:cy) (H:Hp):(kM h H).objs.size=h.objs.size:=zj _ _
theorem QJ {h:cy}{H:Hp}{b:ai}{o:Obj}(e:h.get? b=some o) (n:H b=none):(kM h H).get? b=some o:=zm _ e λhm=>by have q:(H b).isSome=true:=(fg.mp hm).2;rw[n]at q;simp at q
theorem QK {h:cy}{H:Hp}{b:ai}{o:Obj}(e:(kM h H).get? b=some o):h.get? b=some o/\H b=none:=by
 have e':h.get? b=some o:=Ab (vX h H) e;refine⟨e', ?_⟩
 cases q:H b with
 |none=>rfl
 |some x=>have hm:b∈vX h H:=fg.mpr ⟨bu.mpr (aq e'),by simp[q]⟩;have z:(kM h H).get? b=none:=zk (vX h H) hm;rw[z]at e;cases e
structure Mod (K:ao) (mg:Str->Option af) (base:cy):Prop where
 kin:K.In base
 glob:base.Ns di mg
 blt:∃mb,base.Ns builtinsNs mb/\∀x:Str,x ≠ "__name__"->mb x=dy x
 nolimit:base.NoLimit
structure Cx where
 prog:bh
 w:cj
 K:ao
 mg:Str->Option af
 base:cy
 A:bw
 N:Bf
 s₀:ag
 H₀:Hp
 env:Env
 outer:List Env
 stack:List Env
 ex:List ai
 fn:Str->Bool
 calm:Bool
 pn:List (ai×Obj)
 xe:af->ag->Prop
def dN (l:List Env):List ai:=l.filterMap (·.frame)
abbrev Cx.fs (X:Cx):List ai:=dN X.outer
def mP (sc:gq) (x:Str):Prop:=sc.names.lookup x=some .local∨sc.names.lookup x=some .cell∨sc.names.lookup x=some .free
def lF (sc:gq) (x:Str):Prop:=sc.names.lookup x=some .local∨sc.names.lookup x=some .cell
def GI (env:Env) (h:cy) (m:Str->Option af) (x:Str) (u:af):Prop:=(env.kindOf x=some .local/\m x=some u)∨((env.kindOf x=some .cell∨env.kindOf x=some .free)/\∃c,env.cells.lookup x=some c/\h.IsCell c (some u))
structure Cx.Ok (X:Cx):Prop where
 mod:Mod X.K X.mg X.base
 kind:X.env.scope.kind=.function
 glob:X.env.globals=di
 blt:X.env.builtins=builtinsNs
 above:X.s₀.heap.objs.size<=X.env.locals
 inj:∀x y c,X.env.cells.lookup x=some c->X.env.cells.lookup y=some c->x=y
 has:∀x,(X.env.kindOf x=some .cell∨X.env.kindOf x=some .free)->∃c,X.env.cells.lookup x=some c
 cab:∀x c,X.fn x=true->X.env.cells.lookup x=some c->X.s₀.heap.objs.size<=c
 hd:X.calm=true->X.A.handled=none
 frames:X.A.frames=some X.stack
 stk:X.stack=X.outer∨(X.stack=X.env::X.outer/\X.env.frame=some X.env.locals)
 exf:∀b∈X.ex,b≠X.env.locals/\∀x c,X.env.cells.lookup x=some c->c≠b
 bs:∀b o,X.base.get? b=some o->X.s₀.heap.get? b=some o/\X.H₀ b=none
 bsz:X.base.objs.size<=X.s₀.heap.objs.size
 noex:∀b o,X.base.get? b=some o->b∉X.ex
 exfs:∀b∈X.ex,b∉X.fs
 funs:X.s₀.heap.FunFrames X.base X.outer
 frf:∀b∈X.fs,X.H₀ b=none
structure Inv (X:Cx) (pins:List (ai×Obj)) (σ:List (Option V)) (H:Hp) (s:ag):Prop where
 ok:X.Ok
 os:s.os=X.s₀.os
 bare:ua s.gens
 base:Un X.fs X.ex X.H₀ H X.s₀.heap s.heap
 loc:∃m,s.heap.Ns X.env.locals m/\∀(i:Nat) (x:Str) (v:V),X.N[i]?=some x->σ[i]?=some (some v)->mP X.env.scope x->∃u,RelV v u/\GI X.env s.heap m x u
 cell:∀x c,X.env.cells.lookup x=some c->∃v,s.heap.IsCell c v
 free:H X.env.locals=none
 freeC:∀x c,X.env.cells.lookup x=some c->H c=none
 pin:∀p∈X.pn++pins,s.heap.get? p.1=some p.2/\H p.1=none/\p.1≠X.env.locals/\p.1∉X.fs/\∀v,p.2.data≠.cell v
 hok:Cw X.prog X.w H s.heap
 len:σ.length=X.N.length
section
variable{X:Cx}{pins:List (ai×Obj)}{σ:List (Option V)}{H H':Hp}{s:ag}{h':cy}
theorem Cx.Ok.nofr (ok:X.Ok) {b:ai}{o:Obj}(e:X.base.get? b=some o):b∉X.fs:=λhb=>by have:=(ok.funs.mem hb).1;rw[e]at this;cases this
theorem Inv.bs (I:Inv X pins σ H s):∀b o,X.base.get? b=some o->s.heap.get? b=some o/\H b=none:=λb o e=>⟨I.base.keep b o (I.ok.bs b o e).1 (I.ok.bs b o e).2 (I.ok.nofr e) (I.ok.noex b o e),I.base.free b o (I.ok.bs b o e).1 (I.ok.bs b o e).2 (I.ok.noex b o e)⟩
theorem Inv.bk (I:Inv X pins σ H s):∀b o,X.base.get? b=some o->s.heap.get? b=some o:=λb o e=>(I.bs b o e).1
theorem Inv.mod (I:Inv X pins σ H s):Mod X.K X.mg X.base:=I.ok.mod
theorem Inv.kIn (I:Inv X pins σ H s):X.K.In s.heap:=I.ok.mod.kin.keeps I.bk
theorem Inv.lt (I:Inv X pins σ H s):X.env.locals<s.heap.objs.size:=let ⟨_,hn,_⟩:=I.loc;hn.lt
theorem Inv.sz (I:Inv X pins σ H s):X.s₀.heap.objs.size<=s.heap.objs.size:=cz I.ok.above (gu I.lt)
theorem Inv.nofs (I:Inv X pins σ H s) {a:ai}(h:s.heap.objs.size<=a):a∉X.fs:=λhb=>by obtain⟨_,o,ho,_⟩:=I.ok.funs.mem hb;exact absurd (au (aq ho) (cz I.sz h)) (gz _)
theorem Inv.cne (I:Inv X pins σ H s):∀x c,X.env.cells.lookup x=some c->c≠X.env.locals:=λx c e z=>by obtain⟨v,o,ho,hd⟩:=I.cell x c e;obtain⟨m,⟨o',es,ep,Es,Dj,_⟩,_⟩:=I.loc;rw[z,Es]at ho;cases ho;rw[Dj]at hd;cases hd
theorem Inv.funs (I:Inv X pins σ H s):s.heap.FunFrames X.base X.outer:=by
 have all:∀(l:List Env),(∀b∈dN l,b∈X.fs)->X.s₀.heap.FunFrames X.base l->s.heap.FunFrames X.base l:=by
  intro l
  induction l with
  |nil=>intro _ _;trivial
  |cons env r ih=>intro hs hl;obtain⟨hk,⟨L,o,hf,hn,ho,hd⟩,hr⟩:=hl;have hL:L∈X.fs:=hs L (by unfold dN;rw[cf,hf];exact bf);obtain⟨sl,e⟩:=I.base.slot L o ho (I.ok.frf L hL) hL λz=>I.ok.exfs L z hL;exact⟨hk,⟨L,_,hf,hn,e,hd⟩,ih (λb hb=>hs b (by unfold dN;rw[cf,hf];exact ar _ hb)) hr⟩
 exact all X.outer (λ_ hb=>hb) I.ok.funs
theorem Inv.stack (I:Inv X pins σ H s):s.heap.FunFrames X.base X.stack:=by
 rcases I.ok.stk with e|⟨e,hf⟩
 ·rw[e];exact I.funs
 ·rw[e];obtain⟨m,hn,_⟩:=I.loc;refine .cons (by rw[I.ok.kind];decide) hf hn ?_ I.funs;exact Heap.get?_none_of_le (cz I.ok.bsz I.ok.above)
theorem Inv.stkSub (I:Inv X pins σ H s):∀b∈dN X.stack,b∈X.env.locals::X.fs:=λb hb=>by
 rcases I.ok.stk with e|⟨e,hf⟩
 ·rw[e]at hb;exact ar _ hb
 ·rw[e]at hb;unfold dN at hb;rw[cf,hf]at hb;exact hb
theorem Inv.stkFree (I:Inv X pins σ H s):∀b∈dN X.stack,H b=none:=λb hb=>by
 rcases az.mp (I.stkSub b hb)with e|hb
 ·rw[e];exact I.free
 ·obtain⟨_,o,ho,_⟩:=I.ok.funs.mem hb;exact I.base.free b o ho (I.ok.frf b hb) λz=>I.ok.exfs b z hb
theorem Inv.step {g':Array GenState}{t':Nat}{d':Drawn}{ch:List ai}(I:Inv X pins σ H s)
  (Et:∀b∈ch,(b∈X.ex∨X.s₀.heap.objs.size<=b)/\b≠X.env.locals/\(∀x c,X.env.cells.lookup x=some c->c≠b)/\∀p∈X.pn++pins,p.1≠b)
  (keep:∀b o,b≠X.env.locals->b∉X.fs->b∉ch->s.heap.get? b=some o->H b=none->h'.get? b=some o)
  (slot:∀b o,b≠X.env.locals->b∈X.fs->b∉ch->s.heap.get? b=some o->H b=none->∃sl,h'.get? b=some { o with slots:=sl }) (free:∀b o,b∉ch->s.heap.get? b=some o->H b=none->H' b=none)
  (there:∀b o,b∉ch->s.heap.get? b=some o->∃o',h'.get? b=some o')
  (tups:∀b xs,H b=some (.tup xs)->H' b=some (.tup xs)) (frzs:∀b o u,H b=some (.frz o u)->H' b=some (.frz o u)) (tbls:∀b ps,H b=some (.tbl ps)->∃more,H' b=some (.tbl (ps++more)))
  (ns:∀m,s.heap.Ns X.env.locals m->h'.Ns X.env.locals m) (hok:Cw X.prog X.w H' h') (hg:ua g'):
  Inv X pins σ H' { s with heap:=h',gens:=g',drawn:=d',toks:=t' }:=by
 have neL:∀b o,X.s₀.heap.get? b=some o->b≠X.env.locals:=λb o e=>ay (au (aq e) I.ok.above);have neC:∀b o,X.s₀.heap.get? b=some o->b∉X.ex->b∉ch:=λb o e hx hb=>by
  rcases(Et b hb).1 with z|z
  ·exact hx z
  ·exact absurd (au (aq e) z) (gz _)
 have cellK:∀x c,X.env.cells.lookup x=some c->∀v,s.heap.IsCell c v->h'.IsCell c v:=λx c e v ⟨o,ho,hd⟩=>by
  have nch:c∉ch:=λz=>(Et c z).2.2.1 x c e rfl
  by_cases hc:c∈X.fs
  ·obtain⟨sl,q⟩:=slot c o (I.cne x c e) hc nch ho (I.freeC x c e);exact⟨_,q,hd⟩
  ·exact⟨o,keep c o (I.cne x c e) hc nch ho (I.freeC x c e),hd⟩
 refine⟨I.ok,I.os,hg,⟨λb o e n hb hx=>?_,λb o e n hb hx=>?_,λb o e n hx=>?_,λb o e hx=>?_,λb xs e=>tups b xs (I.base.tups b xs e),λb o xs e=>frzs b o xs (I.base.frzs b o xs e),λb ps e=>?_⟩, ?_,λx c e=>?_, ?_,λx c e=>?_,λp hp=>?_,hok,I.len⟩
 ·exact keep b o (neL b o e) hb (neC b o e hx) (I.base.keep b o e n hb hx) (I.base.free b o e n hx)
 ·obtain⟨sl,e1⟩:=I.base.slot b o e n hb hx;obtain⟨sl',e2⟩:=slot b _ (neL b o e) hb (neC b o e hx) e1 (I.base.free b o e n hx);exact⟨sl',e2⟩
 ·obtain⟨o',e1⟩:=I.base.there b o e hx;exact free b o' (neC b o e hx) e1 (I.base.free b o e n hx)
 ·obtain⟨o',e1⟩:=I.base.there b o e hx;exact there b o' (neC b o e hx) e1
 ·obtain⟨m1,e1⟩:=I.base.tbls b ps e;obtain⟨m2,e2⟩:=tbls b _ e1;exact⟨m1++m2,by rw[e2,Array.append_assoc]⟩
 ·obtain⟨m,hn,hl⟩:=I.loc;refine⟨m,ns m hn,λi x v e1 e2 e3=>?_⟩;obtain⟨u,r,l⟩:=hl i x v e1 e2 e3;refine⟨u,r, ?_⟩
  rcases l with l|⟨k,c,e,z⟩
  ·exact .inl l
  ·exact .inr ⟨k,c,e,cellK x c e _ z⟩
 ·obtain⟨v,z⟩:=I.cell x c e;exact⟨v,cellK x c e v z⟩
 ·obtain⟨m,⟨o,_,_,ho,_⟩,_⟩:=I.loc;exact free _ o (λz=>(Et _ z).2.1 rfl) ho I.free
 ·obtain⟨v,o,ho,hd⟩:=I.cell x c e;exact free c o (λz=>(Et c z).2.2.1 x c e rfl) ho (I.freeC x c e)
 ·obtain⟨e,n,ne,nf,d⟩:=I.pin p hp;have nch:p.1∉ch:=λz=>(Et p.1 z).2.2.2 p hp rfl;exact⟨keep p.1 p.2 ne nf nch e n,free p.1 p.2 nch e n,ne,nf,d⟩
theorem Inv.un {t':Nat}(I:Inv X pins σ H s) (u:Un X.fs [] H H' s.heap h') (hok:Cw X.prog X.w H' h'):Inv X pins σ H' { s with heap:=h',toks:=t' }:=by obtain⟨m,⟨o,es,ep,ho,r⟩,_⟩:=id I.loc;obtain⟨sl,hL⟩:=u.any ho I.free (by simp);exact I.step (g':=s.gens) (d':=s.drawn) (ch:=[]) (λ_ z=>nomatch z) (λb o _ hb _ e n=>u.keep b o e n hb (by simp)) (λb o _ hb _ e n=>u.slot b o e n hb (by simp)) (λb o _ e n=>u.free b o e n (by simp)) (λb o _ e=>u.there b o e (by simp)) u.tups u.frzs u.tbls (λm' hm=>by obtain⟨o',es',ep',Es,r'⟩:=hm;rw[ho]at Es;cases Es;exact⟨_,es',ep',hL,r'⟩) hok I.bare
theorem Inv.call {g':Array GenState}{t':Nat}{d':Drawn}{ch:List ai}(I:Inv X pins σ H s) (u:Un (dN X.stack) ch H H' s.heap h') (hok:Cw X.prog X.w H' h') (hg:ua g')
  (Et:∀b∈ch,(b∈X.ex∨X.s₀.heap.objs.size<=b)/\b≠X.env.locals/\(∀x c,X.env.cells.lookup x=some c->c≠b)/\∀p∈X.pn++pins,p.1≠b):
  Inv X pins σ H' { s with heap:=h',gens:=g',drawn:=d',toks:=t' }:=by
 obtain⟨m,⟨o,es,ep,ho,r⟩,_⟩:=id I.loc;obtain⟨sl,hL⟩:=u.any ho I.free λz=>(Et _ z).2.1 rfl;exact I.step (ch:=ch) Et (λb o hL hb hc e n=>u.keep b o e n (λz=>(az.mp (I.stkSub b z)).elim hL hb) hc) (λb o _ _ hc e n=>u.any e n hc) (λb o hc e n=>u.free b o e n hc) (λb o hc e=>u.there b o e hc) u.tups u.frzs u.tbls (λm' hm=>by obtain⟨o',es',ep',Es,r'⟩:=hm;rw[ho]at Es;cases Es;exact⟨_,es',ep',hL,r'⟩) hok hg
theorem Inv.turned {t':Nat}{it:ai}(I:Inv X pins σ H s) (k:∀b o,b≠it->s.heap.get? b=some o->h'.get? b=some o) (hn:H it=none) (hL:it≠X.env.locals)
  (h1:it∈X.ex∨X.s₀.heap.objs.size<=it) (h2:∀x c,X.env.cells.lookup x=some c->c≠it) (h3:∀p∈X.pn++pins,p.1≠it):Inv X pins σ H { s with heap:=h',toks:=t' }:=by
 have nit:∀b u,H b=some u->b≠it:=λb u e z=>by rw[z,hn]at e;cases e
 refine I.step (g':=s.gens) (d':=s.drawn) (ch:=[it]) (λb hb=>?_) (λb o _ _ hc e _=>k b o (λz=>hc (by simp[z])) e) (λb o _ _ hc e _=>⟨o.slots,k b o (λz=>hc (by simp[z])) e⟩) (λ_ _ _ _ n=>n)
  (λb o hc e=>⟨o,k b o (λz=>hc (by simp[z])) e⟩) (λ_ _ e=>e) (λ_ _ _ e=>e) (λb ps e=>⟨#[],by rw[e];simp⟩) (λm hm=>?_) (λb u e=>?_) I.bare
 ·have e:b=it:=by simpa using hb
  subst e;exact⟨h1,hL,h2,h3⟩
 ·obtain⟨o,es,ep,ho,r⟩:=hm;exact⟨o,es,ep,k _ o (de hL) ho,r⟩
 ·refine(I.hok b u e).stay (λc v hc q=>k c v ?_ q) (λ_ q=>q) λ_ _ q=>q
  rcases hc with z|z
  ·rw[z];exact nit b u e
  ·exact nit c _ z
theorem Inv.tok (I:Inv X pins σ H s) (t:Nat):Inv X pins σ H { s with toks:=t }:=I.un (h':=s.heap) (t':=t) Un.refl I.hok
theorem Inv.kept {t':Nat}(I:Inv X pins σ H s) (k:∀b u,s.heap.get? b=some u->h'.get? b=some u):Inv X pins σ H { s with heap:=h',toks:=t' }:=I.un (Un.kept k) (I.hok.kept k)
theorem Inv.laid {a:ai}{o:HO}{t':Nat}(I:Inv X pins σ H s) (k:∀b u,s.heap.get? b=some u->h'.get? b=some u) (hp:s.heap.objs.size<=a) (new:Br X.prog X.w (upd H a o) h' a o):
  Inv X pins σ (upd H a o) { s with heap:=h',toks:=t' }:=I.un (Un.laid k hp (I.hok.fresh hp)) (I.hok.laid k hp new)
theorem Inv.write {x e:ai}{o:HO}{t':Nat}(I:Inv X pins σ H s) (mu:vW (H x)) (he:e=x∨H e=some (.own x)) (k:∀b u,b≠e->s.heap.get? b=some u->h'.get? b=some u) (heo:∃u,h'.get? e=some u)
  (new:Br X.prog X.w (upd H x o) h' x o):Inv X pins σ (upd H x o) { s with heap:=h',toks:=t' }:=I.un (Un.write mu he k heo) (I.hok.write mu he k heo new)
theorem Inv.pins_of {pins':List (ai×Obj)}(I:Inv X pins σ H s) (h:∀p∈pins',s.heap.get? p.1=some p.2/\H p.1=none/\p.1≠X.env.locals/\p.1∉X.fs/\∀v,p.2.data≠.cell v):Inv X pins' σ H s:=⟨I.ok,I.os,I.bare,I.base,I.loc,I.cell,I.free,I.freeC,λp hp=>(br.mp hp).elim (λz=>I.pin p (fh _ z)) (h p),I.hok,I.len⟩
theorem AQ {N:Bf}(hN:N.Nodup) {i j:Nat}{x:Str}(a:N[i]?=some x) (b:N[j]?=some x):i=j:=by obtain⟨h1,e1⟩:=ax.mp a;obtain⟨h2,e2⟩:=ax.mp b;exact(List.getElem_inj hN).mp (e1.trans e2.symm)
theorem GJ {M:yf}{A:bw}{E:af->ag->Prop}{i:Nat}{x:Str}{v:V}{u:af}{Q:Unit->ag->Prop}(I:Inv X pins σ H s) (hN:X.N.Nodup) (hi:X.N[i]?=some x) (hx:lF X.env.scope x) (r:RelV v u)
  (h:∀s',Inv X pins (σ.set i (some v)) H s'->(∃a,ja a s.heap s'.heap/\(a=X.env.locals∨X.env.cells.lookup x=some a))->Q () s') (hf:X.fn x=true∨X.env.scope.names.lookup x=some .local:=by first|exact .inl rfl|exact .inr rfl|assumption):wpAny M A (storeName X.env x u) Q E s:=by
 obtain⟨m,hn,hl⟩:=id I.loc;have hcls:(X.env.scope.kind==.class||(X.env.scope.kind==.module&&X.env.locals != X.env.globals))=false:=by rw[I.ok.kind];rfl
 have hiσ:i<σ.length:=by rw[I.len];exact(ax.mp hi).1
 have cne:=I.cne;have tracked:∀{a:ai}{h':cy},(∃o,s.heap.get? a=some o/\H a=none)->ja a s.heap h'->Cw X.prog X.w H h':=λ{a h'} ha hs b ob e=>by
  obtain⟨_,_,hfree⟩:=ha;refine(I.hok b ob e).stay (λc w' hc q=>(hs.2 c ?_).trans q) (λ_ q=>q) λ_ _ q=>q
  rintro rfl
  rcases hc with rfl|hc
  ·rw[hfree]at e;cases e
  ·rw[hfree]at hc;cases hc
 rcases hx with hk|hk
 ·refine wpAny_storeName_local hk hn (λh' hn' hs=>?_) hcls;obtain⟨oL,_,_,hoL,_⟩:=id hn;refine h _ ⟨I.ok,I.os,I.bare,⟨λb o e n hb hx=>?_,λb o e n hb hx=>?_,I.base.free,λb o e hx=>?_,I.base.tups,I.base.frzs,I.base.tbls⟩,⟨_,hn',λj y v' e1 e2 e3=>?_⟩,λy c e=>?_,I.free,I.freeC,λp hp=>?_,tracked ⟨oL,hoL,I.free⟩ hs,by simpa using I.len⟩ ⟨_,hs,.inl rfl⟩
  ·exact(hs.2 b (ay (au (aq e) I.ok.above))).trans (I.base.keep b o e n hb hx)
  ·obtain⟨sl,e1⟩:=I.base.slot b o e n hb hx;exact⟨sl,(hs.2 b (ay (au (aq e) I.ok.above))).trans e1⟩
  ·obtain⟨o',e1⟩:=I.base.there b o e hx;exact⟨o',(hs.2 b (ay (au (aq e) I.ok.above))).trans e1⟩
  ·by_cases hj:j=i
   ·subst hj;rw[hi]at e1;cases e1;rw[dz hiσ]at e2;cases e2;exact⟨u,r,.inl ⟨hk,by simp⟩⟩
   ·rw[fi (de hj)]at e2;obtain⟨u',r',q⟩:=hl j y v' e1 e2 e3;refine⟨u',r', ?_⟩
    rcases q with⟨k,e⟩|⟨k,c,e,z⟩
    ·refine .inl ⟨k, ?_⟩;have:y≠x:=λe=>hj (AQ hN e1 (e▸hi));simp[this,e]
    ·exact .inr ⟨k,c,e,z.sameBut hs (cne y c e)⟩
  ·obtain⟨w',z⟩:=I.cell y c e;exact⟨w',z.sameBut hs (cne y c e)⟩
  ·obtain⟨e,n,ne,nf,d⟩:=I.pin p hp;exact⟨(hs.2 p.1 ne).trans e,n,ne,nf,d⟩
 ·have hfn:X.fn x=true:=by
   rcases hf with z|z
   ·exact z
   ·rw[z]at hk;cases hk
  obtain⟨c,hc⟩:=I.ok.has x (.inl hk);obtain⟨w',z⟩:=I.cell x c hc;refine wpAny_storeName_cell I.ok.kind hk hc z (λh' hc' hs=>?_);obtain⟨oc,hoc,hocd⟩:=id z;refine h { s with heap:=h' } ⟨I.ok,I.os,I.bare,⟨λb o e n hb hx=>?_,λb o e n hb hx=>?_,I.base.free,λb o e hx=>?_,I.base.tups,I.base.frzs,I.base.tbls⟩,⟨m,hn.sameBut hs (de (cne x c hc)),λj y v' e1 e2 e3=>?_⟩,λy c' e=>?_,I.free,I.freeC,λp hp=>?_,tracked ⟨oc,hoc,I.freeC x c hc⟩ hs,by simpa using I.len⟩ ⟨c,hs,.inr hc⟩
  ·exact(hs.2 b (ay (au (aq e) (I.ok.cab x c hfn hc)))).trans (I.base.keep b o e n hb hx)
  ·obtain⟨sl,e1⟩:=I.base.slot b o e n hb hx;exact⟨sl,(hs.2 b (ay (au (aq e) (I.ok.cab x c hfn hc)))).trans e1⟩
  ·obtain⟨o',e1⟩:=I.base.there b o e hx;exact⟨o',(hs.2 b (ay (au (aq e) (I.ok.cab x c hfn hc)))).trans e1⟩
  ·by_cases hj:j=i
   ·subst hj;rw[hi]at e1;cases e1;rw[dz hiσ]at e2;cases e2;exact⟨u,r,.inr ⟨.inl hk,c,hc,hc'⟩⟩
   ·rw[fi (de hj)]at e2;obtain⟨u',r',q⟩:=hl j y v' e1 e2 e3;refine⟨u',r', ?_⟩
    rcases q with q|⟨k,c',e,z'⟩
    ·exact .inl q
    ·refine .inr ⟨k,c',e,z'.sameBut hs ?_⟩
     rintro rfl
     exact hj (AQ hN e1 (I.ok.inj _ _ _ e hc▸hi))
  ·by_cases hcc:c'=c
   ·subst hcc;exact⟨_,hc'⟩
   ·obtain⟨w2,z2⟩:=I.cell y c' e;exact⟨w2,z2.sameBut hs hcc⟩
  ·obtain⟨e,n,ne,nf,d⟩:=I.pin p hp;refine⟨(hs.2 p.1 ?_).trans e,n,ne,nf,d⟩;intro q;rw[q,hoc]at e;have q':oc=p.2:=cn e;exact d w' (by rw[<-q'];exact hocd)
theorem sZ {M:yf}{A:bw}{E:af->ag->Prop}{i:Nat}{x:Str}{v:V}{u:af}{Q:Unit->ag->Prop}(I:Inv X pins σ H s) (hN:X.N.Nodup) (hi:X.N[i]?=some x) (hx:lF X.env.scope x) (r:RelV v u)
  (h:∀s',Inv X pins (σ.set i (some v)) H s'->Q () s') (hf:X.fn x=true∨X.env.scope.names.lookup x=some .local:=by first|exact .inl rfl|exact .inr rfl|assumption):wpAny M A (storeName X.env x u) Q E s:=
 GJ I hN hi hx r (λs' I' _=>h s' I') hf
theorem Inv.call' {s':ag}{ch:List ai}(I:Inv X pins σ H s) (ho:s'.os=s.os) (u:Un (dN X.stack) ch H H' s.heap s'.heap) (hok:Cw X.prog X.w H' s'.heap) (hg:ua s'.gens)
  (Et:∀b∈ch,(b∈X.ex∨X.s₀.heap.objs.size<=b)/\b≠X.env.locals/\(∀x c,X.env.cells.lookup x=some c->c≠b)/\∀p∈X.pn++pins,p.1≠b):Inv X pins σ H' s':=by
 obtain⟨h',g',d',t',o'⟩:=s';have e:o'=s.os:=ho;subst e;exact I.call (g':=g') (t':=t') (d':=d') u hok hg Et
end
abbrev XK:=af->Option ai->Hp->Prop
abbrev St:=List (Option V)
abbrev VK:=V->Hp->Prop
abbrev TE:=St->Hp->VK->Prop
abbrev TT:=St->Hp->(Bool->Hp->Prop)->Prop
abbrev TA:=St->Hp->(List V->Hp->Prop)->Prop
structure Ends where
 nx:St->Hp->Prop
 rt:VK
 bk:St->Hp->Prop:=λ_ _=>False
 ct:St->Hp->Prop:=λ_ _=>False
abbrev TS:=Ends->St->Hp->Prop
def EP (X:Cx) (pins:List (ai×Obj)) (σ:St) (Q:VK) (u:af) (s':ag):Prop:=∃v H',Inv X pins σ H' s'/\RelV v u/\Q v H'
def TP (X:Cx) (pins:List (ai×Obj)) (σ:St) (Q:Bool->Hp->Prop) (b:Bool) (s':ag):Prop:=∃H',Inv X pins σ H' s'/\Q b H'
def AP (X:Cx) (pins:List (ai×Obj)) (σ:St) (Q:List V->Hp->Prop) (us:List af) (s':ag):Prop:=∃vs H',Inv X pins σ H' s'/\Bp vs us/\Q vs H'
def SP (X:Cx) (pins:List (ai×Obj)) (D:Ends) (f:Flow) (s':ag):Prop:=
 match f with
 | .next=>∃σ' H',Inv X pins σ' H' s'/\D.nx σ' H'
 | .brk=>∃σ' H',Inv X pins σ' H' s'/\D.bk σ' H'
 | .cont=>∃σ' H',Inv X pins σ' H' s'/\D.ct σ' H'
 | .ret u=>∃v σ' H',Inv X pins σ' H' s'/\RelV v u/\D.rt v H'
def PE (X:Cx) (e:bj) (t:TE):Prop:=∀(pins:List (ai×Obj)) (s:ag) (σ:St) (H:Hp) (Q:VK),Inv X pins σ H s->t σ H Q->wpAny (model X.prog X.w) X.A (eval e X.env) (EP X pins σ Q) X.xe s
def PT (X:Cx) (e:bj) (t:TT):Prop:=∀(pins:List (ai×Obj)) (s:ag) (σ:St) (H:Hp) (Q:Bool->Hp->Prop),Inv X pins σ H s->t σ H Q->wpAny (model X.prog X.w) X.A (isTrue e X.env (eval e X.env)) (TP X pins σ Q) X.xe s
def PW (X:Cx) (e:bj) (t:TT):Prop:=∀(whole:Sem af) (pins:List (ai×Obj)) (s:ag) (σ:St) (H:Hp) (Q:Bool->Hp->Prop),Inv X pins σ H s->t σ H Q->wpAny (model X.prog X.w) X.A (isTrue e X.env whole) (TP X pins σ Q) X.xe s
theorem PW.pt {X:Cx}{e:bj}{t:TT}(h:PW X e t):PT X e t:=h _
def PA (X:Cx) (es:List bj) (t:TA):Prop:=∀(pos:Pos) (pins:List (ai×Obj)) (s:ag) (σ:St) (H:Hp) (Q:List V->Hp->Prop),Inv X pins σ H s->t σ H Q->wpAny (model X.prog X.w) X.A (spliced (backTo pos (aw es X.env))) (AP X pins σ Q) X.xe s
def PS (X:Cx) (st:ie) (t:TS):Prop:=∀(pins:List (ai×Obj)) (s:ag) (σ:St) (H:Hp) (D:Ends),Inv X pins σ H s->t D σ H->wpAny (model X.prog X.w) X.A (exec st X.env) (SP X pins D) X.xe s
def Fw (X:Cx) (st:List ie) (t:TS):Prop:=∀(pins:List (ai×Obj)) (s:ag) (σ:St) (H:Hp) (D:Ends),Inv X pins σ H s->t D σ H->wpAny (model X.prog X.w) X.A (execs st X.env) (SP X pins D) X.xe s
theorem aW {α:Type}{t:Sem α}{Q Q':α->ag->Prop}{M:yf}{A:bw}{E:af->ag->Prop}{s:ag}(h:wpAny M A t Q E s) (hQ:∀a s,Q a s->Q' a s):wpAny M A t Q' E s:=kn h hQ λ_ _ x=>x
section
variable{X:Cx}
def QL (i:Nat):TE:=λσ H Q=>∃v,σ[i]?=some (some v)/\Q v H
def tC (v:V):TE:=λ_ H Q=>Q v H
theorem vY {i:Nat}{x:Str}{pos:Pos}(hN:X.N[i]?=some x) (hv:mP X.env.scope x) (hd:(x==He)=false:=by decide) (hcd:(x==("__classdict__" : Str))=false:=by decide):PE X (.Name x pos) (QL i):=by
 intro pins s σ H Q I h;obtain⟨v,e,h⟩:=h;obtain⟨m,hn,hl⟩:=I.loc;obtain⟨u,r,l⟩:=hl i x v hN e hv;have fin:EP X pins σ Q u s:=⟨v,H,I,r,h⟩
 rcases l with⟨hk,hm⟩|⟨hk,c,hc,hcell⟩
 ·exact wpAny_Name (wpAny_loadName_local I.ok.kind hk hn hm fin) hd
 ·rcases hk with hk|hk
  ·exact wpAny_Name (wpAny_loadName_cell I.ok.kind hk hc hcell fin) hd
  ·exact wpAny_Name (wpAny_loadName_free I.ok.kind hk hc hcell fin hcd) hd
theorem QM {i j pos}:PE X (.Constant (.int i) j pos) (tC (.int i)):=λ_ _ _ H _ I h=>wpAny_Constant_int ⟨.int i,H,I.tok _,⟨_,rfl⟩,h⟩
theorem QN {b j pos}:PE X (.Constant (.bool b) j pos) (tC (.bl b)):=λ_ _ _ H _ I h=>Constant_bool ⟨.bl b,H,I,rfl,h⟩
theorem GK {j pos}:PE X (.Constant .none j pos) (tC .non):=λ_ _ _ H _ I h=>Constant_none ⟨.non,H,I,rfl,h⟩
theorem QO {x j pos}:PE X (.Constant (.str x) j pos) (tC (.str x)):=λ_ _ _ H _ I h=>Calls.Constant_str ⟨.str x,H,I.tok _,⟨_,rfl⟩,h⟩
def Gl (X:Cx) (x:Str):Prop:=X.env.kindOf x=some .globalImplicit
theorem vZ {E:af->ag->Prop}{pins:List (ai×Obj)}{s:ag}{σ:St}{H:Hp}{x:Str}{u:af}{pos:Pos}{Q:af->ag->Prop}(I:Inv X pins σ H s) (hg:Gl X x) (hm:X.mg x=some u) (h:Q u s)
  (hd:(x==He)=false:=by decide):wpAny (model X.prog X.w) X.A (eval (.Name x pos) X.env) Q E s:=
 Calls.Name_function_global I.ok.kind hg (Calls.loadGlobal_global (by rw[I.ok.glob];exact I.mod.glob.keeps I.bk) hm h) hd
theorem pE {E:af->ag->Prop}{pins:List (ai×Obj)}{s:ag}{σ:St}{H:Hp}{x:Str}{u:af}{pos:Pos}{Q:af->ag->Prop}(I:Inv X pins σ H s) (hg:Gl X x) (hm:X.mg x=none) (hv:dy x=some u) (h:Q u s)
  (hn:x ≠ "__name__" := by decide) (hd:(x==He)=false:=by decide):wpAny (model X.prog X.w) X.A (eval (.Name x pos) X.env) Q E s:=by
 obtain⟨mb,h1,h2⟩:=I.mod.blt;exact Calls.Name_function_global I.ok.kind hg (Calls.loadGlobal_builtin (by rw[I.ok.glob];exact I.mod.glob.keeps I.bk) hm (by rw[I.ok.blt];exact h1.keeps I.bk) ((h2 x hn).trans hv) h) hd
theorem GL {x:Str}{v:V}{u:af}{pos:Pos}(hg:Gl X x) (hm:X.mg x=some u) (r:RelV v u) (hd:(x==He)=false:=by decide):PE X (.Name x pos) (tC v):=λ_ _ _ H _ I h=>vZ I hg hm ⟨v,H,I,r,h⟩ hd
variable{a b:bj}{ta tb:TE}{pos:Pos}
def tB (t:TE):TT:=λσ H Q=>t σ H λx H1=>∃c,x=.bl c/\Q c H1
variable{tA tB':TT}{rest:List bj}
def GN (t u:TT):TT:=λσ H Q=>t σ H λc H1=>if c=true then u σ H1 Q else Q false H1
def GO (t u:TT):TT:=λσ H Q=>t σ H λc H1=>if c=true then Q true H1 else u σ H1 Q
def QP (t:TT):TT:=λσ H Q=>t σ H λc H1=>Q (!c) H1
theorem QQ (ha:PT X a tA):PW X (.BoolOp .And [a] pos) tA:=by
 intro wh pins s σ H Q I h;refine isTrue_and (aW (ha pins s σ H Q I h) λc s1 e=>?_)
 cases c with
 |true=>exact isTrue_and_nil e
 |false=>exact e
theorem QR (ha:PT X a tA):PW X (.BoolOp .Or [a] pos) tA:=by
 intro wh pins s σ H Q I h;refine isTrue_or (aW (ha pins s σ H Q I h) λc s1 e=>?_)
 cases c with
 |false=>exact isTrue_or_nil e
 |true=>exact e
theorem QS (ha:PT X a tA) (hb:PW X (.BoolOp .And (b::rest) pos) tB'):PW X (.BoolOp .And (a::b::rest) pos) (GN tA tB'):=by
 intro wh pins s σ H Q I h;refine isTrue_and (aW (ha pins s σ H _ I h) λc s1 ⟨H1,I1,q1⟩=>?_)
 cases c with
 |true=>exact hb wh pins s1 σ H1 Q I1 q1
 |false=>exact⟨H1,I1,q1⟩
theorem QT (ha:PT X a tA) (hb:PW X (.BoolOp .Or (b::rest) pos) tB'):PW X (.BoolOp .Or (a::b::rest) pos) (GO tA tB'):=by
 intro wh pins s σ H Q I h;refine isTrue_or (aW (ha pins s σ H _ I h) λc s1 ⟨H1,I1,q1⟩=>?_)
 cases c with
 |true=>exact⟨H1,I1,q1⟩
 |false=>exact hb wh pins s1 σ H1 Q I1 q1
theorem QU (ha:PT X a tA):PT X (.UnaryOp .Not a pos) (QP tA):=by intro pins s σ H Q I h;exact isTrue_not (ha pins s σ H (λc H1=>Q (!c) H1) I h)
def QV (ta tb:TE):TE:=λσ H Q=>ta σ H λx H1=>∃c,x=.bl c/\if c=true then tb σ H1 Q else Q (.bl false) H1
def QW (ta:TE):TE:=λσ H Q=>ta σ H λx H1=>∃c,x=.bl c/\Q (.bl (!c)) H1
theorem QX {op} {t:TE}(h:PE X a t):PE X (.BoolOp op [a] pos) t:=λpins s σ H Q I hw=>BoolOp_one (h pins s σ H Q I hw)
theorem QY (ha:PE X a ta) (hb:PE X (.BoolOp .And (b::rest) pos) tb):PE X (.BoolOp .And (a::b::rest) pos) (QV ta tb):=by
 intro pins s σ H Q I h;refine BoolOp_and (aW (ha pins s σ H _ I h) λv s1 ⟨x,H1,I1,r1,q1⟩=>?_);obtain⟨c,rfl,q1⟩:=q1;cases r1;refine nc ?_
 cases c with
 |true=>exact hb pins s1 σ H1 Q I1 q1
 |false=>exact⟨.bl false,H1,I1,rfl,q1⟩
theorem QZ (ha:PE X a ta):PE X (.UnaryOp .Not a pos) (QW ta):=by intro pins s σ H Q I h;refine UnaryOp_ (aW (ha pins s σ H _ I h) λv s1 ⟨x,H1,I1,r1,q1⟩=>?_);obtain⟨c,rfl,q1⟩:=q1;cases r1;exact not_of (nc ⟨.bl (!c),H1,I1,rfl,q1⟩)
end
def Cg (K:ao) (H:Hp) (a:ai) (xs:List V):Prop:=
 Rd H a (.lst xs) ∨
  ∃(o:Obj) (its:Array af) (n:Nat),K.lookup a=some o/\o.cls=.type "list"/\o.dict=none/\o.data=.seq its n/\its.size<=cb/\Bp xs its.toList
def Ca (K:ao) (H:Hp) (a:ai) (xs:List V):Prop:=
 Rd H a (.tup xs) ∨
  ∃(o:Obj) (its:Array af) (n:Nat),K.lookup a=some o/\o.cls=.type "tuple"/\o.data=.seq its n/\its.size<=cb/\Bp xs its.toList
def Q0:af->Option V
 | .none=>some .non
 | .bool b=>some (.bl b)
 | .int i _=>some (.int i)
 | .str x _=>some (.str x)
 | .bytes b _=>some (.byt b)
 | .float b _=>some (.flt b)
 | .ref a=>some (.ref a)
 | .type n=>some (.ty n)
 |_=>none
theorem RelV.abs {x:V}{u:af}(r:RelV x u):Q0 u=some x:=by
 cases x with
 |non=>cases r;rfl
 |bl _=>cases r;rfl
 |int _=>obtain⟨t,rfl⟩:=r;rfl
 |str _=>obtain⟨t,rfl⟩:=r;rfl
 |byt _=>obtain⟨t,rfl⟩:=r;rfl
 |flt _=>obtain⟨t,rfl⟩:=r;rfl
 |ref _=>cases r;rfl
 |ty _=>cases r;rfl
theorem RelV.inj {x y:V}{u:af}(r:RelV x u) (q:RelV y u):x=y:=cn (r.abs.symm.trans q.abs)
theorem Bp.inj:∀{xs ys:List V}{us:List af},Bp xs us->Bp ys us->xs=ys
 |_,_,_,.nil,.nil=>rfl
 |_,_,_,.cons r t,.cons r' t'=>by rw[r.inj r',Bp.inj t t']
section
variable{X:Cx}{pins:List (ai×Obj)}{σ:St}{H:Hp}{s:ag}{a:ai}{xs ys:List V}
theorem Cg.of {K:ao}(h:H a=some (.lst xs)):Cg K H a xs:=.inl (.inl h)
theorem Ca.of {K:ao}(h:H a=some (.tup xs)):Ca K H a xs:=.inl (.inl h)
theorem Inv.list (I:Inv X pins σ H s) (h:Cg X.K H a xs):∃its:List af,Bp xs its/\PlainL s.heap a its.toArray/\xs.length<=cb:=by
 rcases h with h|⟨o,its,n,hk,hc,hd,hs,hz,r⟩
 ·obtain⟨z,its,n,r,e⟩:=h.ok I.hok;exact⟨its,r,⟨_,n,e,rfl,rfl,rfl⟩,z⟩
 ·refine⟨its.toList,r,⟨o,n,I.kIn a o hk,hc,hd,by simpa using hs⟩, ?_⟩;have e:=r.length;simp only[ni]at e;omega
theorem Inv.tuple (I:Inv X pins σ H s) (h:Ca X.K H a xs):∃its:List af,Bp xs its/\ye s.heap a its.toArray/\xs.length<=cb:=by
 rcases h with h|⟨o,its,n,hk,hc,hs,hz,r⟩
 ·obtain⟨z,its,r,p⟩:=h.ok I.hok;exact⟨its,r,p.tup,z⟩
 ·refine⟨its.toList,r,⟨o,I.kIn a o hk,hc,n,by simpa using hs⟩, ?_⟩;have e:=r.length;simp only[ni]at e;omega
theorem Inv.list_inj (I:Inv X pins σ H s) (h:Cg X.K H a xs) (h':Cg X.K H a ys):xs=ys:=by
 obtain⟨its,r,⟨o,n,e,_,_,d⟩,_⟩:=I.list h;obtain⟨its',r',⟨o',n',e',_,_,d'⟩,_⟩:=I.list h';rw[e]at e';cases e';rw[d]at d';injection d' with d1 _;have:its=its':=by simpa using congrArg Array.toList d1
 subst this;exact r.inj r'
theorem Inv.tuple_inj (I:Inv X pins σ H s) (h:Ca X.K H a xs) (h':Ca X.K H a ys):xs=ys:=by
 obtain⟨its,r,⟨o,e,_,n,d⟩,_⟩:=I.tuple h;obtain⟨its',r',⟨o',e',_,n',d'⟩,_⟩:=I.tuple h';rw[e]at e';cases e';rw[d]at d';injection d' with d1 _;have:its=its':=by simpa using congrArg Array.toList d1
 subst this;exact r.inj r'
end
abbrev Cx.wish (X:Cx) (E:af->ag->Prop):Cx:={ X with xe:=E }
abbrev Cx.nox (X:Cx):Cx:=X.wish λ_ _=>False
theorem Cx.Ok.wish {X:Cx}(ok:X.Ok) (E:af->ag->Prop):(X.wish E).Ok:=⟨ok.mod,ok.kind,ok.glob,ok.blt,ok.above,ok.inj,ok.has,ok.cab,ok.hd,ok.frames,ok.stk,ok.exf,ok.bs,ok.bsz,ok.noex,ok.exfs,ok.funs,ok.frf⟩
theorem Cx.Ok.unwish {X:Cx}{E:af->ag->Prop}(ok:(X.wish E).Ok):X.Ok:=⟨ok.mod,ok.kind,ok.glob,ok.blt,ok.above,ok.inj,ok.has,ok.cab,ok.hd,ok.frames,ok.stk,ok.exf,ok.bs,ok.bsz,ok.noex,ok.exfs,ok.funs,ok.frf⟩
section
variable{X:Cx}{pins:List (ai×Obj)}{σ:St}{H:Hp}{s:ag}{E:af->ag->Prop}
theorem Inv.wish (I:Inv X pins σ H s) (E:af->ag->Prop):Inv (X.wish E) pins σ H s:=⟨I.ok.wish E,I.os,I.bare,I.base,I.loc,I.cell,I.free,I.freeC,I.pin,I.hok,I.len⟩
theorem Inv.unwish (I:Inv (X.wish E) pins σ H s):Inv X pins σ H s:=⟨I.ok.unwish,I.os,I.bare,I.base,I.loc,I.cell,I.free,I.freeC,I.pin,I.hok,I.len⟩
end
section
variable{X:Cx}{st:ie}{rest:List ie}{t u:TS}{e:bj}{te:TE}{pos:Pos}
def Q2:TS:=λD σ H=>D.nx σ H
def Q3 (t u:TS):TS:=λD σ H=>t { D with nx:=u D } σ H
theorem Q4:Fw X [] Q2:=λ_ _ σ H _ I h=>oi ⟨σ,H,I,h⟩
theorem Q5 (h1:PS X st t) (h2:Fw X rest u):Fw X (st::rest) (Q3 t u):=by
 intro pins s σ H D I h;refine qc (aW (h1 pins s σ H { D with nx:=u D } I h) λf s1 q=>?_)
 cases f with
 |next=>obtain⟨σ',H',I',q⟩:=q;exact h2 pins s1 σ' H' D I' q
 |ret v=>exact q
 |brk=>exact q
 |cont=>exact q
theorem GP (h1:PS X st t):Fw X [st] t:=by
 intro pins s σ H D I h;refine qc (aW (h1 pins s σ H D I h) λf s1 q=>?_)
 cases f with
 |next=>exact oi q
 |ret v=>exact q
 |brk=>exact q
 |cont=>exact q
theorem Inv.quiet {pins:List (ai×Obj)}{σ:St}{H:Hp}{s:ag}(I:Inv X pins σ H s):interactive X.env=false:=by simp[interactive,I.ok.kind]
def Q6 (te:TE):TS:=λD σ H=>te σ H λ_ H1=>D.nx σ H1
theorem Q7 (he:PE X e te) (hs:swapsWith e none pos.line X.env=pure false:=by rfl):PS X (.Expr e pos) (Q6 te):=by intro pins s σ H D I h;exact wpAny_Expr_any (aW (he pins s σ H _ I h) λv s1 ⟨x,H1,I1,r1,q1⟩=>⟨σ,H1,I1,q1⟩) I.quiet hs
def Q8 (te:TE):TS:=λD σ H=>te σ H D.rt
theorem Q9 (he:PE X e te):PS X (.Return (some e) pos) (Q8 te):=by intro pins s σ H D I h;exact wpAny_Return_some (aW (he pins s σ H _ I h) λv s1 ⟨x,H1,I1,r1,q1⟩=>⟨x,σ,H1,I1,r1,q1⟩)
def RA (c:TT) (t u:TS):TS:=λD σ H=>c σ H λb H1=>if b=true then t D σ H1 else u D σ H1
theorem RC {c:bj}{a b:List ie}{tc:TT}(hc:PT X c tc) (ha:Fw X a t) (hb:Fw X b u):PS X (.If c a b pos) (RA tc t u):=by
 intro pins s σ H D I h;refine wpAny_If (aW (hc pins s σ H _ I h) λd s1 ⟨H1,I1,q1⟩=>?_)
 cases d with
 |true=>exact ha pins s1 σ H1 D I1 q1
 |false=>exact hb pins s1 σ H1 D I1 q1
end
abbrev TG:=V->St->Hp->(St->Hp->Prop)->Prop
abbrev mQ:=List V->St->Hp->(St->Hp->Prop)->Prop
def PG (X:Cx) (target:bj) (t:TG):Prop:=
 ∀(pins:List (ai×Obj)) (s:ag) (σ:St) (H:Hp) (v:V) (u:af) (Q:St->Hp->Prop),Inv X pins σ H s->RelV v u->t v σ H Q->
  wpAny (model X.prog X.w) X.A (assign target X.env u) (λ_ s'=>∃σ' H',Inv X pins σ' H' s'/\Q σ' H') X.xe s
def PGs (X:Cx) (ts:List bj) (t:mQ):Prop:=
 ∀(pins:List (ai×Obj)) (s:ag) (σ:St) (H:Hp) (vs:List V) (us:List af) (Q:St->Hp->Prop),Inv X pins σ H s->Bp vs us->t vs σ H Q->
  wpAny (model X.prog X.w) X.A (assignInOrder ((assignEach ts X.env).map (·.2)) us) (λ_ s'=>∃σ' H',Inv X pins σ' H' s'/\Q σ' H') X.xe s
abbrev AR:=V->V->V->Hp->(Hp->Prop)->Prop
def GQ (X:Cx) (t:AR):Prop:=
 ∀(pins:List (ai×Obj)) (s:ag) (σ:St) (H:Hp) (o i v:V) (ov iv u:af) (Q:Hp->Prop),Inv X pins σ H s->RelV o ov->RelV i iv->RelV v u->t o i v H Q->
  wpAny (model X.prog X.w) X.A (setItem ov iv u) (λ_ s'=>∃H',Inv X pins σ H' s'/\Q H') X.xe s
section
variable{X:Cx}{pos:Pos}
def AS (i:Nat):TG:=λv σ H Q=>Q (σ.set i (some v)) H
theorem RD {i:Nat}{x:Str}(hN:X.N.Nodup) (hi:X.N[i]?=some x) (hx:lF X.env.scope x) (hf:X.fn x=true∨X.env.scope.names.lookup x=some .local:=by first|exact .inl rfl|exact .inr rfl|assumption):PG X (.Name x pos) (AS i):=by intro pins s σ H v u Q I r h;exact wpAny_assign_Name (sZ I hN hi hx r (λs' I'=>⟨_,H,I',h⟩) hf)
def RE:mQ:=λvs σ H Q=>vs=[]/\Q σ H
def RF (t:TG) (u:mQ):mQ:=λvs σ H Q=>∃v r,vs=v::r/\t v σ H λσ' H'=>u r σ' H' Q
theorem GR:PGs X [] RE:=by intro pins s σ H vs us Q I r h;obtain⟨e,h⟩:=h;subst e;cases r;exact assignInOrder_nil ⟨σ,H,I,h⟩
theorem AU {e:bj}{es:List bj}{t:TG}{u:mQ}(h1:PG X e t) (h2:PGs X es u)
  (hs:(assignEach (e::es) X.env).map (·.2)=assign e X.env::(assignEach es X.env).map (·.2):=by rfl):PGs X (e::es) (RF t u):=by
 intro pins s σ H vs us Q I r h;obtain⟨v,vr,e1,h⟩:=h;subst e1
 cases r with
 |cons r rr=>rw[hs];refine xm (aW (h1 pins s σ H _ _ _ I r h) λ_ s1 ⟨σ1,H1,I1,q1⟩=>?_);exact h2 pins s1 σ1 H1 _ _ Q I1 rr q1
def RG (K:ao) (n:Nat) (t:mQ):TG:=λv σ H Q=>∃a xs,v=.ref a/\Ca K H a xs/\xs.length=n/\t xs σ H Q
theorem GS {es:List bj}{k:Nat}{t:mQ}{n:Nat}(hc:X.calm=true) (h:PGs X es t)
  (hn:(assignEach es X.env).length=n:=by rfl) (Fq:(assignEach es X.env).findIdx? (·.1)=none:=by rfl):PG X (.Tuple es k pos) (RG X.K n t):=by
 intro pins s σ H v u Q I r hw;obtain⟨a,xs,e1,hq,hl,hw⟩:=hw;subst e1;cases r;obtain⟨its,rv,ht,hz⟩:=I.tuple hq;refine assign_Tuple_tuple (I.ok.hd hc) ht (by simp[hn,<-hl,rv.length]) Fq λh' hx=>?_;have I1:Inv X pins σ H { s with heap:=h' }:=I.kept (t':=s.toks) λb o e=>hx b o (ay (aq e)) e;exact h pins _ σ H xs _ Q I1 (by simpa using rv) hw
def RH (to ti:TE) (t:AR):TG:=λv σ H Q=>to σ H λo H1=>ti σ H1 λi H2=>t o i v H2 λH3=>Q σ H3
theorem AV {o i:bj}{to ti:TE}{t:AR}(ho:PE X o to) (hi:PE X i ti) (hs:GQ X t)
  (ha:∀v,assign (.Subscript o i pos) X.env v=(do
   let ov <-holding [v] (eval o X.env)
   let iv <-holding [v,ov] (eval i X.env)
   standAt pos
   holding [v,ov,iv] (setItem ov iv v)
   release [v,ov,iv] []):=by intro _;rfl):PG X (.Subscript o i pos) (RH to ti t):=by
 intro pins s σ H v u Q I r h;rw[ha];refine aa (gv (aW (ho pins s σ H _ I h) λov s1 ⟨x,H1,I1,r1,q1⟩=>?_));refine aa (gv (aW (hi pins s1 σ H1 _ I1 q1) λiv s2 ⟨y,H2,I2,r2,q2⟩=>?_));refine aa (qg (aa (gv (aW (hs pins s2 σ H2 x y v ov iv u _ I2 r1 r2 r q2) λ_ s3 ⟨H3,I3,q3⟩=>?_))));exact wpAny_release ⟨σ,H3,I3,q3⟩
def wB (te:TE) (g:TG):TS:=λD σ H=>te σ H λx H1=>g x σ H1 D.nx
theorem AW {tg e:bj}{te:TE}{g:TG}(he:PE X e te) (hg:PG X tg g) (hs:swapsWithSole [tg] e pos.line X.env=pure false:=by rfl) (hw:swappedStores [tg] e X.env=pure none:=by rfl)
  (h1:(assignEach [tg] X.env).map (·.2)=[assign tg X.env]:=by rfl):PS X (.Assign [tg] e pos) (wB te g):=by
 intro pins s σ H D I h;refine wpAny_Assign_stores (aW (he pins s σ H _ I h) λv s1 ⟨x,H1,I1,r1,q1⟩=>?_) hs hw;rw[h1];exact aW (hg pins s1 σ H1 x v _ I1 r1 q1) λ_ s2 q=>q
theorem AX {i:Nat}{x:Str}{e:bj}{te:TE}{pos':Pos}(hN:X.N.Nodup) (hi:X.N[i]?=some x) (hx:lF X.env.scope x) (he:PE X e te) (hs:swapsWith e (some (.Name x pos')) pos.line X.env=pure false:=by rfl) (hf:X.fn x=true∨X.env.scope.names.lookup x=some .local:=by first|exact .inl rfl|exact .inr rfl|assumption):
  PS X (.Assign [.Name x pos'] e pos) (wB te (AS i)):=by
 intro pins s σ H D I h;refine wpAny_Assign_Name (aW (he pins s σ H _ I h) λv s1 ⟨y,H1,I1,r1,q1⟩=>?_) hs;exact sZ I1 hN hi hx r1 (λs2 I2=>⟨_,H1,I2,q1⟩) hf
def RI (i j:Nat) (ta:TA):TS:=λD σ H=>ta σ H λvs H1=>∃v w,vs=[v,w]/\D.nx ((σ.set i (some v)).set j (some w)) H1
theorem RJ {i j:Nat}{x y:Str}{a b:bj}{ta:TA}{px py pt:Pos}{kt k2 pt2} (hc:X.calm=true) (hN:X.N.Nodup) (hi:X.N[i]?=some x) (hj:X.N[j]?=some y) (C':i≠j)
  (hx:X.env.scope.names.lookup x=some .local) (hy:X.env.scope.names.lookup y=some .local) (ha:PA X [a,b] ta)
  (hw:swappedStores [.Tuple [.Name x px,.Name y py] kt pt] (.Tuple [a,b] k2 pt2) X.env=pure (some [x,y]))
  (hs:swapsWithSole [.Tuple [.Name x px,.Name y py] kt pt] (.Tuple [a,b] k2 pt2) pos.line X.env=pure false:=by rfl):
  PS X (.Assign [.Tuple [.Name x px,.Name y py] kt pt] (.Tuple [a,b] k2 pt2) pos) (RI i j ta):=by
 intro pins s σ H D I h;rw[exec_Assign_arm];refine aa (qg ?_);rw[hs];refine aa (ah ?_);rw[if_neg (by decide)];refine aa (Tuple_ (aW (ha _ pins s σ H _ I h) λus s1 ⟨vs,H1,I1,r1,q1⟩=>?_));obtain⟨v,w,e1,q1⟩:=q1;subst e1;obtain⟨u1,u2,rfl,rv,rw'⟩:∃u1 u2,us=[u1,u2]/\RelV v u1/\RelV w u2:=by
  cases r1 with
  |cons p q=>
   cases q with
   |cons p' q'=>cases q';exact⟨_,_,rfl,p,p'⟩
 refine dk ?_ (by show 2<=cb;decide);have I2:Inv X pins σ H1 { s1 with heap:=s1.heap.push { cls:=.type "tuple",data:=.seq [u1,u2].toArray } }:=I1.kept (t':=s1.toks) λb o e=>aj _ e;rw[hw];refine aa (ah ?_);show wpAny (model X.prog X.w) X.A (do rule "assign.swapped-stores"; let items <-unpackItems (.ref s1.heap.objs.size) 2 none;assignInOrder [λv=>bindName X.env y v,λv=>bindName X.env x v] items.reverse;pure Flow.next) _ _ _;refine aa (si (aa (unpackItems_tuple (items:=#[u1,u2]) (I.ok.hd hc) (IsTup.new s1.heap _) λh' Fp=>?_)));have I3:=I2.kept (h':=h') (t':=s1.toks) λb o e=>Fp b o (ay (aq e)) e;show wpAny _ _ (assignInOrder [λv=>bindName X.env y v,λv=>bindName X.env x v] [u2,u1] >>= λ_=>pure Flow.next) _ _ _;refine aa (xm (wpAny_bindName (sZ I3 hN hj (.inl hy) rw' (λs2 I4=>?_) (.inr hy))));refine xm (wpAny_bindName (sZ I4 hN hi (.inl hx) rv (λs3 I5=>assignInOrder_nil (ah ?_)) (.inr hx)));rw[List.set_comm _ _ (de C')]at I5;exact⟨_,H1,I5,q1⟩
end
section
variable{X:Cx}{pos:Pos}
def RK (c:TT) (tb:TS):TS:=λD σ H=>∃W:Nat->St->Hp->Prop,(∃m,W m σ H)/\∀m σ H,W m σ H->
 c σ H λb H1=>if b=true then ∃N:St->Hp->Prop,(∀σ' H',N σ' H'->∃m',m'<m/\W m' σ' H')/\tb { D with nx:=N,ct:=N,bk:=D.nx } σ H1 else D.nx σ H1
theorem RM {c:bj}{body:List ie}{tc:TT}{tb:TS}(hp:yw (model X.prog X.w) X.A X.env X.xe) (hc:PT X c tc) (hb:Fw X body tb):PS X (.While c body [] pos) (RK tc tb):=by
 intro pins s σ H D I h;obtain⟨W,⟨m0,w0⟩,turn⟩:=h;refine wpAny_While (codeAny_whileLoop (λn s'=>∃σ' H',Inv X pins σ' H' s'/\W n σ' H') ?_ m0 ⟨σ,H,I,w0⟩)
 rintro n s1 ⟨σ1,H1,I1,w1⟩
 refine mq hp (aW (hc pins s1 σ1 H1 _ I1 (turn n σ1 H1 w1)) λb s2 ⟨H2,I2,q2⟩=>?_)
 cases b with
 |true=>
  obtain⟨N,hN,q2⟩:=q2;rw[if_pos rfl];refine mq hp (aW (hb pins s2 σ1 H2 _ I2 q2) λf s3 q3=>?_)
  cases f with
  |next=>obtain⟨σ3,H3,I3,n3⟩:=q3;obtain⟨m',hm,w3⟩:=hN σ3 H3 n3;exact⟨m',hm,σ3,H3,I3,w3⟩
  |cont=>obtain⟨σ3,H3,I3,n3⟩:=q3;obtain⟨m',hm,w3⟩:=hN σ3 H3 n3;exact⟨m',hm,σ3,H3,I3,w3⟩
  |brk=>exact q3
  |ret v=>exact q3
 |false=>rw[if_neg gy];exact oi ⟨σ1,H2,I2,q2⟩
end
structure It where
 go:Nat->Hp->Prop
 yld:Nat->Hp->V->Hp->Prop
 stop:Nat->Hp->Prop
def cZ (X:Cx) (pins:List (ai×Obj)) (H:Hp) (b:ai):Prop:=H b=none/\b≠X.env.locals/\b∉X.fs/\(b∈X.ex∨X.s₀.heap.objs.size<=b)/\(∀x c,X.env.cells.lookup x=some c->c≠b)/\∀p∈X.pn++pins,p.1≠b
theorem Inv.fpOk {X:Cx}{pins:List (ai×Obj)}{σ:St}{H H':Hp}{s:ag}{b:ai}(I:Inv X pins σ H s) (hb:s.heap.objs.size<=b) (hn:H' b=none):cZ X pins H' b:=by
 refine⟨hn,ji (au I.lt hb),I.nofs hb,.inr (cz I.sz hb),λx c e z=>?_,λp hp z=>?_⟩
 ·obtain⟨v,q⟩:=I.cell x c e;exact absurd (au q.lt (by rw[z];exact hb)) (gz _)
 ·exact absurd (au (aq (I.pin p hp).1) (by rw[z];exact hb)) (gz _)
structure Turn (P:bh) (w:cj) (K:ao) (tg:bj) (J:It) (fp:List ai) (it:ai) (tn:Nat->cy->Prop):Prop where
 mem:it∈fp
 obj:∀i h,tn i h->∀b∈fp,∃o,h.get? b=some o/\∀v,o.data≠.cell v
 keep:∀i h h',tn i h->(∀b∈fp,∀o,h.get? b=some o->h'.get? b=some o)->tn i h'
 item:∀(X:Cx),X.prog=P->X.w=w->X.K=K->X.calm=true->∀(i:Nat) (pins:List (ai×Obj)) (s:ag) (σ:St) (H:Hp) (E:af->ag->Prop),Inv X pins σ H s->(∀b∈fp,cZ X pins H b)->tn i s.heap->J.go i H->
  wpAny (model P w) X.A (pyNext (.ref it)) (λr s1=>∃u,r=some u /\
   wpAny (model P w) X.A (letOwnedTupleGo tg (.ref it) u) (λ_ s2=>∃x H',Inv X pins σ H' s2/\RelV x u/\J.yld i H x H'/\tn (i+1) s2.heap/\∀b∈fp,H' b=none) E s1) E s
 done:∀(X:Cx),X.prog=P->X.w=w->X.K=K->X.calm=true->∀(i:Nat) (pins:List (ai×Obj)) (s:ag) (σ:St) (H:Hp) (E:af->ag->Prop),Inv X pins σ H s->(∀b∈fp,cZ X pins H b)->tn i s.heap->J.stop i H->
  wpAny (model P w) X.A (pyNext (.ref it)) (λr s1=>r=none/\Inv X pins σ H s1) E s
 self:∀(A:bw) (i:Nat) (s:ag) (Q:af->ag->Prop) (E:af->ag->Prop),tn i s.heap->Q (.ref it) s->wpAny (model P w) A (pyIter (.ref it)) Q E s
abbrev TI:=St->Hp->(It->Hp->Prop)->Prop
def GU (X:Cx) (pins:List (ai×Obj)) (σ:St) (tg:bj) (R:It->Hp->Prop) (itv:af) (s2:ag):Prop:=∃(it:ai) (fp:List ai) (tn:Nat->cy->Prop) (J:It) (H':Hp),itv=.ref it/\Inv X pins σ H' s2/\Turn X.prog X.w X.K tg J fp it tn/\tn 0 s2.heap/\(∀b∈fp,cZ X pins H' b)/\R J H'
def PI (X:Cx) (tg iter:bj) (wi:TI):Prop:=
 ∀(pins:List (ai×Obj)) (s:ag) (σ:St) (H:Hp) (R:It->Hp->Prop),Inv X pins σ H s->wi σ H R->
  wpAny (model X.prog X.w) X.A (eval iter X.env) (λv s1=>wpAny (model X.prog X.w) X.A (pyIter v) (GU X pins σ tg R) X.xe s1) X.xe s
theorem AY {M:yf}{A:bw}{E:af->ag->Prop}{s:ag}{tg:bj}{it:ai}{u:af}{o:Obj}{n:String}{vs:Array af}{Q:Unit->ag->Prop}(ho:s.heap.get? it=some o) (hc:o.cls=.type n) (hd:o.data=.fields vs)
  (hn:["enumerate","zip","dict_itemiterator","dict_reverseitemiterator","odict_iterator","itertools.zip_longest","itertools.pairwise"].contains n=false) (hQ:Q () s):wpAny M A (letOwnedTupleGo tg (.ref it) u) Q E s:=by
 unfold letOwnedTupleGo
 cases tg <;> first
  |exact ah hQ
  |(cases u <;> first
    |exact ah hQ
    |(refine aa (wpAny_load ho ?_);rw[hc,hd];show wpAny M A (if(["enumerate","zip","dict_itemiterator","dict_reverseitemiterator","odict_iterator","itertools.zip_longest","itertools.pairwise"].contains n&&vs[0]?==some (rawInt _))=true then _ else _) Q E s;rw[if_neg (by intro h;rw[hn,Bool.false_and]at h;cases h)];exact ah hQ))
def GV (K:ao) (a:ai):It:=⟨λi H=>∃xs x,Cg K H a xs/\xs[i]?=some x,λi H x H'=>H'=H/\∀xs,Cg K H a xs->xs[i]?=some x,λi H=>∃xs,Cg K H a xs/\xs.length<=i⟩
def AZ (K:ao) (a:ai):It:=⟨λi H=>∃xs x,Ca K H a xs/\xs[i]?=some x,λi H x H'=>H'=H/\∀xs,Ca K H a xs->xs[i]?=some x,λi H=>∃xs,Ca K H a xs/\xs.length<=i⟩
def tD (lo:Int) (n:Nat):It:=⟨λi _=>i<n,λi H x H'=>H'=H/\x=.int (lo+i),λi _=>n<=i⟩
theorem RN {P:bh}{w:cj}{K:ao}{tg:bj}(a it:ai):Turn P w K tg (GV K a) [it] it (λi h=>h.IsListIter it a i) where
 mem:=by simp
 obj:=λi h st b hb=>by
  have e:b=it:=by simpa using hb
  subst e;obtain⟨o,e,c,d⟩:=st;exact⟨o,e,λv z=>by rw[d]at z;cases z⟩
 keep:=λi h h' st k=>st.at λo e=>k it (by simp) o e
 item:=by intro X hP hw hK hc i pins s σ H E I hf st hg;subst hP hw hK;obtain⟨xs,x,hq,hx⟩:=hg;obtain⟨its,rv,p,hz⟩:=I.list hq;obtain⟨u,hu,ru⟩:=rv.get hx;obtain⟨f0,f1,f2,f3,f4,f5⟩:=hf it (by simp);refine wpAny_pyNext_list_item st p.isList (x:=u) (by simpa using hu) λh' Eh sb=>?_;have I1:Inv X pins σ H { s with heap:=h' }:=I.turned (t':=s.toks) (λb o hb e=>(sb.2 b hb).trans e) f0 f1 f3 f4 f5;obtain⟨o,e,c,d⟩:=id Eh;exact⟨u,rfl,AY (s:={ s with heap:=h' }) e c d (by decide) ⟨x,H,I1,ru,⟨rfl,λys hy=>by rw[I.list_inj hy hq];exact hx⟩,Eh,λb hb=>(hf b hb).1⟩⟩
 done:=by intro X hP hw hK hc i pins s σ H E I hf st hg;subst hP hw hK;obtain⟨xs,hq,hx⟩:=hg;obtain⟨its,rv,p,hz⟩:=I.list hq;obtain⟨f0,f1,f2,f3,f4,f5⟩:=hf it (by simp);have hl:=rv.length;exact wpAny_pyNext_list_end (I.ok.hd hc) st p.isList (by simp;omega) λh' eb=>⟨rfl,I.turned (t':=s.toks) (λb o hb e=>eb b o hb e) f0 f1 f3 f4 f5⟩
 self:=λ_ _ _ _ _ st h=>wpAny_pyIter_listiter st h
theorem RO {P:bh}{w:cj}{K:ao}{tg:bj}(a it:ai):Turn P w K tg (AZ K a) [it] it (λi h=>h.IsTupleIter it a i) where
 mem:=by simp
 obj:=λi h st b hb=>by
  have e:b=it:=by simpa using hb
  subst e;obtain⟨o,e,c,d⟩:=st;exact⟨o,e,λv z=>by rw[d]at z;cases z⟩
 keep:=λi h h' st k=>st.at λo e=>k it (by simp) o e
 item:=by intro X hP hw hK hc i pins s σ H E I hf st hg;subst hP hw hK;obtain⟨xs,x,hq,hx⟩:=hg;obtain⟨its,rv,p,hz⟩:=I.tuple hq;obtain⟨u,hu,ru⟩:=rv.get hx;obtain⟨f0,f1,f2,f3,f4,f5⟩:=hf it (by simp);refine wpAny_pyNext_tuple_item st (show s.heap.IsTuple a its.toArray from p) (x:=u) (by simpa using hu) λh' Eh sb=>?_;have I1:Inv X pins σ H { s with heap:=h' }:=I.turned (t':=s.toks) (λb o hb e=>(sb.2 b hb).trans e) f0 f1 f3 f4 f5;obtain⟨o,e,c,d⟩:=id Eh;exact⟨u,rfl,AY (s:={ s with heap:=h' }) e c d (by decide) ⟨x,H,I1,ru,⟨rfl,λys hy=>by rw[I.tuple_inj hy hq];exact hx⟩,Eh,λb hb=>(hf b hb).1⟩⟩
 done:=by intro X hP hw hK hc i pins s σ H E I hf st hg;subst hP hw hK;obtain⟨xs,hq,hx⟩:=hg;obtain⟨its,rv,p,hz⟩:=I.tuple hq;obtain⟨f0,f1,f2,f3,f4,f5⟩:=hf it (by simp);have hl:=rv.length;exact wpAny_pyNext_tuple_end (I.ok.hd hc) st (show s.heap.IsTuple a its.toArray from p) (by simp;omega) λh' eb=>⟨rfl,I.turned (t':=s.toks) (λb o hb e=>eb b o hb e) f0 f1 f3 f4 f5⟩
 self:=λ_ _ _ _ _ st h=>wpAny_pyIter_tupleiter st h
theorem RP {P:bh}{w:cj}{K:ao}{tg:bj}(it:ai) (lo:Int) (n:Nat):Turn P w K tg (tD lo n) [it] it (λi h=>IsRangeIter h it (lo+(i:Nat)*1) ((n:Int) - (i:Nat)) 1) where
 mem:=by simp
 obj:=λi h st b hb=>by
  have e:b=it:=by simpa using hb
  subst e;exact⟨_,st,λv z=>by
   have z':Data.fields _=Data.cell v:=z
   cases z'⟩
 keep:=λi h h' st k=>k it (by simp) _ st
 item:=by intro X hP hw hK hc i pins s σ H E I hf st hg;subst hP hw hK;obtain⟨f0,f1,f2,f3,f4,f5⟩:=hf it (by simp);have W:=Walks.range (prog:=X.prog) (w:=X.w) (I.ok.hd hc) it lo 1 n;refine W.item i s _ _ hg st λv h' tk hv Eh kk=>?_;obtain⟨t,rfl⟩:=hv;have I1:Inv X pins σ H { s with heap:=h',toks:=tk }:=I.turned (λb o hb e=>kk b o (by simpa using hb) e) f0 f1 f3 f4 f5;refine⟨_,rfl,AY (s:={ s with heap:=h',toks:=tk }) (n := "range_iterator") Eh rfl rfl (by decide) ⟨.int (lo+i),H,I1,⟨t, ?_⟩,⟨rfl,rfl⟩,Eh,λb hb=>(hf b hb).1⟩⟩;rw[Int.mul_one]
 done:=by intro X hP hw hK hc i pins s σ H E I hf st hg;subst hP hw hK;obtain⟨f0,f1,f2,f3,f4,f5⟩:=hf it (by simp);exact wpAny_pyNext_range_end (I.ok.hd hc) st (by have:n<=i:=hg;omega) λh' eb=>⟨rfl,I.turned (t':=s.toks) (λb o hb e=>eb b o hb e) f0 f1 f3 f4 f5⟩
 self:=λ_ _ _ _ _ st h=>wpAny_pyIter_rangeiter st h
section
variable{X:Cx}{tg:bj}
def RQ (K:ao) (tl:TE):TI:=λσ H R=>tl σ H λx H1=>∃a,x=.ref a/\(∃xs,Cg K H1 a xs)/\R (GV K a) H1
def RR (K:ao) (tl:TE):TI:=λσ H R=>tl σ H λx H1=>∃a,x=.ref a/\(∃xs,Ca K H1 a xs)/\R (AZ K a) H1
theorem RS {l:bj}{tl:TE}(hl:PE X l tl):PI X tg l (RQ X.K tl):=by
 intro pins s σ H R I h;refine aW (hl pins s σ H _ I h) λv s1 ⟨x,H1,I1,r1,q1⟩=>?_;obtain⟨a,e,⟨xs,hq⟩,q⟩:=q1;subst e;cases r1;obtain⟨its,rv,p,hz⟩:=I1.list hq;refine ub p.isList ?_;refine⟨s1.heap.objs.size,[s1.heap.objs.size],_,_,H1,rfl,I1.kept (t':=s1.toks) λb o e=>aj _ e,RN a _,⟨_,bc _ rfl,rfl,rfl⟩,λb hb=>?_,q⟩;have e:b=s1.heap.objs.size:=by simpa using hb
 subst e;exact I1.fpOk (ak _) (I1.hok.fresh (ak _))
theorem RT {l:bj}{tl:TE}(hl:PE X l tl):PI X tg l (RR X.K tl):=by
 intro pins s σ H R I h;refine aW (hl pins s σ H _ I h) λv s1 ⟨x,H1,I1,r1,q1⟩=>?_;obtain⟨a,e,⟨xs,hq⟩,q⟩:=q1;subst e;cases r1;obtain⟨its,rv,p,hz⟩:=I1.tuple hq;refine om (show s1.heap.IsTuple a its.toArray from p) ?_;refine⟨s1.heap.objs.size,[s1.heap.objs.size],_,_,H1,rfl,I1.kept (t':=s1.toks) λb o e=>aj _ e,RO a _,⟨_,bc _ rfl,rfl,rfl⟩,λb hb=>?_,q⟩;have e:b=s1.heap.objs.size:=by simpa using hb
 subst e;exact I1.fpOk (ak _) (I1.hok.fresh (ak _))
theorem GW {pins:List (ai×Obj)}{σ:St}{H:Hp}{s:ag}{R:It->Hp->Prop}{E:af->ag->Prop}{lo hi:Int}{t u v:Tok}{tk:Nat}(I:Inv X pins σ H s) (h1 : -(2 ^ 62)<=lo) (h2:lo<2 ^ 62) (h3 : -(2 ^ 62)<=hi) (h4:hi<2 ^ 62)
  (q:R (tD lo (hi - lo).toNat) H):wpAny (model X.prog X.w) X.A (pyIter (.ref s.heap.objs.size)) (GU X pins σ tg R) E { s with heap:=s.heap.push { cls:=.type "range",data:=.fields #[.int lo t,.int hi u,.int 1 v] },toks:=tk }:=by
 refine wpAny_pyIter_range (IsRange.new ..) (small_one h1 h2 h3 h4) ?_;have I1:Inv X pins σ H { s with heap:=s.heap.push { cls:=.type "range",data:=.fields #[.int lo t,.int hi u,.int 1 v] },toks:=tk }:=I.kept λb o e=>aj _ e;refine⟨(s.heap.push { cls:=.type "range",data:=.fields #[.int lo t,.int hi u,.int 1 v] }).objs.size,[(s.heap.push { cls:=.type "range",data:=.fields #[.int lo t,.int hi u,.int 1 v] }).objs.size],_,_,H,rfl,
  I1.kept (t':=tk) λb o e=>aj _ e,RP _ lo (hi - lo).toNat, ?_,λb hb=>?_,q⟩
 ·have e1:lo+((0:Nat):Int)*1=lo:=by simp
  have e2:(((hi - lo).toNat:Nat):Int) - ((0:Nat):Int)=Builtin.Range.rangeSize lo hi 1:=by rw[rangeSize_one];split <;> omega
  show IsRangeIter _ _ (lo+((0:Nat):Int)*1) ((((hi - lo).toNat:Nat):Int) - ((0:Nat):Int)) 1;rw[e1,e2];exact bc _ rfl
 ·have e:b=(s.heap.push { cls:=.type "range",data:=.fields #[.int lo t,.int hi u,.int 1 v] }).objs.size:=by simpa using hb
  subst e;exact I1.fpOk (ak _) (I1.hok.fresh (ak _))
def RU (ta:TA):TI:=λσ H R=>ta σ H λvs H1=>∃j:Int,vs=[.int j]/\-(2 ^ 62)<=j/\j<2 ^ 62/\R (tD 0 j.toNat) H1
def RV (ta:TA):TI:=λσ H R=>ta σ H λvs H1=>∃i j:Int,vs=[.int i,.int j]/\(-(2 ^ 62)<=i/\i<2 ^ 62/\-(2 ^ 62)<=j/\j<2 ^ 62)/\R (tD i (j - i).toNat) H1
theorem RW {a:bj}{ta:TA}{p pos:Pos}(hg:Gl X "range") (hm:X.mg "range" = none) (ha:PA X [a] ta) (hs:aw [a] X.env=[(false,eval a X.env)]:=by rfl):PI X tg (.Call (.Name "range" p) [a] [] pos) (RU ta):=by
 intro pins s σ H R I h;refine Call_ (pE I hg hm boot_range (jm (aW (ha pos pins s σ H _ I h) λus s1 ⟨vs,H1,I1,r1,q1⟩=>?_) hs rfl));obtain⟨j,e,q1,q2,q⟩:=q1;subst e
 cases r1 with
 |cons r rr=>cases rr;obtain⟨t,rfl⟩:=r;exact call_range_1 (GW I1 (by omega) (by omega) q1 q2 (by simpa using q))
theorem RX {a b:bj}{ta:TA}{p pos:Pos}(hg:Gl X "range") (hm:X.mg "range" = none) (ha:PA X [a,b] ta) (hs:aw [a,b] X.env=[(false,eval a X.env),(false,eval b X.env)]:=by rfl) (hs2:aw [b] X.env=[(false,eval b X.env)]:=by rfl):
  PI X tg (.Call (.Name "range" p) [a,b] [] pos) (RV ta):=by
 intro pins s σ H R I h;refine Call_ (pE I hg hm boot_range (jm (aW (ha pos pins s σ H _ I h) λus s1 ⟨vs,H1,I1,r1,q1⟩=>?_) (by rw[hs,hs2]) (by rw[hs2];rfl)));obtain⟨i,j,e,⟨q1,q2,q3,q4⟩,q⟩:=q1;subst e
 cases r1 with
 |cons r rr=>
  cases rr with
  |cons r' rr=>cases rr;obtain⟨t,rfl⟩:=r;obtain⟨t',rfl⟩:=r';exact call_range_2 (GW I1 q1 q2 q3 q4 q)
def RY (wi:TI) (g:TG) (tb:TS):TS:=λD σ H=>wi σ H λJ H1=>∃W:Nat->Nat->St->Hp->Prop,(∃m,W 0 m σ H1)/\∀i m σ H,W i m σ H->
 (J.stop i H/\D.nx σ H)∨(J.go i H/\∃N:St->Hp->Prop,(∀σ' H',N σ' H'->∃m',m'<m/\W (i+1) m' σ' H')/\∀x H',J.yld i H x H'->g x σ H' λσ2 H2=>tb { D with nx:=N,ct:=N,bk:=D.nx } σ2 H2)
def jT (fp:List ai) (h:cy):List (ai×Obj):=fp.filterMap λb=>(h.get? b).map λo=>(b,o)
theorem qS {fp:List ai}{h:cy}{b:ai}{o:Obj}(hb:b∈fp) (e:h.get? b=some o):(b,o)∈jT fp h:=jz.mpr ⟨b,hb,by rw[e];rfl⟩
theorem A0 {fp:List ai}{h:cy}{p:ai×Obj}(hp:p∈jT fp h):p.1∈fp/\h.get? p.1=some p.2:=by
 obtain⟨b,hb,e⟩:=jz.mp hp
 cases q:h.get? b with
 |none=>rw[q]at e;cases e
 |some o=>rw[q]at e;have e':(b,o)=p:=cn e;subst e';exact⟨hb,q⟩
theorem Inv.pinned {pins:List (ai×Obj)}{σ:St}{H:Hp}{s:ag}{fp:List ai}(I:Inv X pins σ H s) (hf:∀b∈fp,cZ X pins H b) (ho:∀b∈fp,∃o,s.heap.get? b=some o/\∀v,o.data≠.cell v):Inv X (pins++jT fp s.heap) σ H s:=I.pins_of λp hp=>(br.mp hp).elim (λz=>I.pin p (ck _ z)) λz=>by obtain⟨hb,e⟩:=A0 z;obtain⟨f0,f1,f2,_⟩:=hf p.1 hb;obtain⟨o,e',d⟩:=ho p.1 hb;rw[e]at e';cases e';exact⟨e,f0,f1,f2,d⟩
theorem Inv.unpinned {pins pl:List (ai×Obj)}{σ:St}{H:Hp}{s:ag}(I:Inv X (pins++pl) σ H s):Inv X pins σ H s:=I.pins_of λp hp=>I.pin p (ck _ (fh _ hp))
theorem RZ {iter:bj}{body:List ie}{wi:TI}{g:TG}{tb:TS}{pos:Pos}(hp:yw (model X.prog X.w) X.A X.env X.xe) (hc:X.calm=true) (hi:PI X tg iter wi) (hg:PG X tg g) (hb:Fw X body tb)
  (hs:∀x,foldedSetIterable iter X.env x=pure x:=by intro _;rfl):PS X (.For tg iter body [] pos) (RY wi g tb):=by
 intro pins s σ H D I h;refine wpAny_For (aW (hi pins s σ H _ I h) λv s1 h1=>aW h1 λitv s2 h2=>?_) hs;obtain⟨it,fp,tn,J,H2,e,I2,T,st2,f2,W,⟨m0,w0⟩,turn⟩:=h2;subst e;have stat:∀{H':Hp},(∀b∈fp,H' b=none)->∀b∈fp,cZ X pins H' b:=λhn b hb=>⟨hn b hb,(f2 b hb).2⟩
 refine codeAny_forLoop_any (λn s'=>∃i σ' H',Inv X pins σ' H' s'/\tn i s'.heap/\(∀b∈fp,H' b=none)/\W i n σ' H') ?_ m0 ⟨0,σ,H2,I2,st2,λb hb=>(f2 b hb).1,w0⟩
 rintro n s3 ⟨i,σ3,H3,I3,st3,fr3,w3⟩
 rcases turn i n σ3 H3 w3 with⟨stop,qn⟩|⟨go,N,hN,step⟩
 ·refine mq hp (aW (T.done X rfl rfl rfl hc i pins s3 σ3 H3 X.xe I3 (stat fr3) st3 stop) λr s4 ⟨hr,I4⟩=>?_);subst hr;exact oi ⟨σ3,H3,I4,qn⟩
 ·refine mq hp (aW (T.item X rfl rfl rfl hc i pins s3 σ3 H3 X.xe I3 (stat fr3) st3 go) λr s4 ⟨u,hr,h4⟩=>?_);subst hr;refine mq hp (aW h4 λ_ s5 ⟨x,H5,I5,r5,y5,st5,fr5⟩=>?_);have I5':=I5.pinned (stat fr5) (T.obj _ _ st5);refine mq hp (aW (hg _ s5 σ3 H5 x u _ I5' r5 (step x H5 y5)) λ_ s6 ⟨σ6,H6,I6,q6⟩=>?_);refine mq hp (aW (hb _ s6 σ6 H6 _ I6 q6) λf s7 q7=>?_);have again:∀{σ7:St}{H7:Hp},Inv X (pins++jT fp s5.heap) σ7 H7 s7->N σ7 H7->∃m,m<n/\∃i σ' H',Inv X pins σ' H' s7/\tn i s7.heap/\(∀b∈fp,H' b=none)/\W i m σ' H':=λ{σ7 H7} I7 n7=>by obtain⟨m',hm,w7⟩:=hN σ7 H7 n7;refine⟨m',hm,i+1,σ7,H7,I7.unpinned,T.keep _ _ _ st5 λb hb o e=>(I7.pin (b,o) (ck _ (ck _ (qS hb e)))).1,λb hb=>?_,w7⟩;obtain⟨o,e,d⟩:=T.obj _ _ st5 b hb;exact(I7.pin (b,o) (ck _ (ck _ (qS hb e)))).2.1
  cases f with
  |next=>obtain⟨σ7,H7,I7,n7⟩:=q7;exact again I7 n7
  |cont=>obtain⟨σ7,H7,I7,n7⟩:=q7;exact again I7 n7
  |brk=>obtain⟨σ7,H7,I7,q7⟩:=q7;exact⟨σ7,H7,I7.unpinned,q7⟩
  |ret v=>obtain⟨x7,σ7,H7,I7,r7,q7⟩:=q7;exact⟨x7,σ7,H7,I7.unpinned,r7,q7⟩
end
abbrev R2:=V->V->Hp->VK->Prop
def Cr (X:Cx) (f:af->af->Sem af) (r:R2):Prop:=
 ∀(pins:List (ai×Obj)) (s:ag) (σ:St) (H:Hp) (x y:V) (v u:af) (Q:VK),Inv X pins σ H s->RelV x v->RelV y u->r x y H Q->
  wpAny (model X.prog X.w) X.A (f v u) (EP X pins σ Q) X.xe s
def wC (X:Cx) (f:af->Sem af) (r:V->Hp->VK->Prop):Prop:=
 ∀(pins:List (ai×Obj)) (s:ag) (σ:St) (H:Hp) (x:V) (v:af) (Q:VK),Inv X pins σ H s->RelV x v->r x H Q->
  wpAny (model X.prog X.w) X.A (f v) (EP X pins σ Q) X.xe s
def Bv (X:Cx) (f:af) (r:List V->Hp->VK->Prop):Prop:=
 ∀(pins:List (ai×Obj)) (s:ag) (σ:St) (H:Hp) (xs:List V) (us:List af) (Q:VK),Inv X pins σ H s->Bp xs us->r xs H Q->
  wpAny (model X.prog X.w) X.A (call f us) (EP X pins σ Q) X.xe s
def R0 (X:Cx) (r:V->Hp->(Bool->Hp->Prop)->Prop):Prop:=
 ∀(pins:List (ai×Obj)) (s:ag) (σ:St) (H:Hp) (x:V) (v:af) (Q:Bool->Hp->Prop),Inv X pins σ H s->RelV x v->r x H Q->
  wpAny (model X.prog X.w) X.A (truthy v) (TP X pins σ Q) X.xe s
def tE (r:R2) (ta tb:TE):TE:=λσ H Q=>ta σ H λx H1=>tb σ H1 λy H2=>r x y H2 Q
def R3 (r:V->Hp->VK->Prop) (ta:TE):TE:=λσ H Q=>ta σ H λx H1=>r x H1 Q
def rI (C:Int->Int->Prop) (g:Int->Int->V):R2:=λx y H Q=>∃i j,x=.int i/\y=.int j/\C i j/\Q (g i j) H
def jU (g:Int->Int->V):R2:=λx y H Q=>∃i j,x=.int i/\y=.int j/\Q (g i j) H
def rU (g:Int->V):V->Hp->VK->Prop:=λx H Q=>∃i,x=.int i/\Q (g i) H
section
variable{X:Cx}{a b c:bj}{ta tb tc:TE}{pos:Pos}
theorem A1 (ha:PE X a ta) (hb:PE X b tb) {pins:List (ai×Obj)}{s:ag}{σ:St}{H:Hp}{R:V->V->Hp->Prop}(I:Inv X pins σ H s)
  (h:ta σ H λx H1=>tb σ H1 λy H2=>R x y H2) {Q:af->ag->Prop}{f:af->af->Sem af}
  (hf:∀v u s2 x y H2,Inv X pins σ H2 s2->RelV x v->RelV y u->R x y H2->wpAny (model X.prog X.w) X.A (f v u) Q X.xe s2):
  wpAny (model X.prog X.w) X.A (eval a X.env) (λv s₁=>wpAny (model X.prog X.w) X.A (eval b X.env) (λu s₂=>wpAny (model X.prog X.w) X.A (f v u) Q X.xe s₂) X.xe s₁) X.xe s:=by
 refine aW (ha pins s σ H _ I h) λv s1 ⟨x,H1,I1,r1,q1⟩=>?_;refine aW (hb pins s1 σ H1 _ I1 q1) λu s2 ⟨y,H2,I2,r2,q2⟩=>?_;exact hf v u s2 x y H2 I2 r1 r2 q2
theorem R4 {op:Operator}{r:R2}(ho:Cr X (binaryOp op) r) (ha:PE X a ta) (hb:PE X b tb):PE X (.BinOp a op b pos) (tE r ta tb):=by intro pins s σ H Q I h;exact wpAny_BinOp (A1 ha hb I h λv u s2 x y H2 I2 rx ry q=>ho pins s2 σ H2 x y v u Q I2 rx ry q)
theorem R5 {op:UnaryOp}{r:V->Hp->VK->Prop}(ho:wC X (unaryOp op) r) (ha:PE X a ta):PE X (.UnaryOp op a pos) (R3 r ta):=by intro pins s σ H Q I h;exact UnaryOp_ (aW (ha pins s σ H _ I h) λv s1 ⟨x,H1,I1,r1,q1⟩=>ho pins s1 σ H1 x v Q I1 r1 q1)
theorem wD {f:af->af->Sem af}{C:Int->Int->Prop}{g:Int->Int->Int}
  (rule:∀(i j:Int) (t u:Tok) (s:ag) (Q:af->ag->Prop) (E:af->ag->Prop),C i j->Q (.int (g i j) s.toks) { s with toks:=s.toks+1 }->wpAny (model X.prog X.w) X.A (f (.int i t) (.int j u)) Q E s):
  Cr X f (rI C λi j=>.int (g i j)):=by
 intro pins s σ H x y v u Q I rx ry h;obtain⟨i,j,rfl,rfl,hc,q⟩:=h;obtain⟨t,rfl⟩:=rx;obtain⟨t',rfl⟩:=ry;exact rule i j t t' s _ _ hc ⟨.int (g i j),H,I.tok _,⟨_,rfl⟩,q⟩
theorem GX {f:af->af->Sem af}{g:Int->Int->Int}
  (rule:∀(i j:Int) (t u:Tok) (s:ag) (Q:af->ag->Prop) (E:af->ag->Prop),Q (.int (g i j) s.toks) { s with toks:=s.toks+1 }->wpAny (model X.prog X.w) X.A (f (.int i t) (.int j u)) Q E s):
  Cr X f (jU λi j=>.int (g i j)):=by
 intro pins s σ H x y v u Q I rx ry h;obtain⟨i,j,rfl,rfl,q⟩:=h;obtain⟨t,rfl⟩:=rx;obtain⟨t',rfl⟩:=ry;exact rule i j t t' s _ _ ⟨.int (g i j),H,I.tok _,⟨_,rfl⟩,q⟩
theorem wF {f:af->af->Sem af}{g:Int->Int->Bool}
  (rule:∀(i j:Int) (t u:Tok) (s:ag) (Q:af->ag->Prop) (E:af->ag->Prop),Q (.bool (g i j)) s->wpAny (model X.prog X.w) X.A (f (.int i t) (.int j u)) Q E s):
  Cr X f (jU λi j=>.bl (g i j)):=by
 intro pins s σ H x y v u Q I rx ry h;obtain⟨i,j,rfl,rfl,q⟩:=h;obtain⟨t,rfl⟩:=rx;obtain⟨t',rfl⟩:=ry;exact rule i j t t' s _ _ ⟨.bl (g i j),H,I,rfl,q⟩
def A2 (i j:Int):Prop:=0<=j/\j<=1000000/\i.natAbs<2 ^ 64
def CMul (i j:Int):Prop:=(-(2 ^ 64)<i/\i<2 ^ 64)∨(-(2 ^ 64)<j/\j<2 ^ 64)
theorem CMul.ok {i j:Int}(h:CMul i j):IntMulOk i j:=by
 rcases h with⟨h1,h2⟩|⟨h1,h2⟩
 ·exact .of_left (intBits_le_64 h1 h2)
 ·exact .of_right (intBits_le_64 h1 h2)
theorem op_add:Cr X (binaryOp .Add) (jU λi j=>.int (i+j)):=GX λ_ _ _ _ _ _ _ q=>add_int q
theorem R6:Cr X (binaryOp .Sub) (jU λi j=>.int (i - j)):=GX λ_ _ _ _ _ _ _ q=>sub_int q
theorem R7:Cr X (binaryOp .Mult) (rI CMul λi j=>.int (i*j)):=wD λ_ _ _ _ _ _ _ hc q=>mul_int q hc.ok
theorem R8:Cr X (binaryOp .Mod) (rI (λ_ j=>0<j) λi j=>.int (i % j)):=wD λi j _ _ _ _ _ hc q=>by have h1:(0:Int)<j:=hc;exact mod_int' (by omega) (by rw[Int.fmod_eq_emod_of_nonneg i (by omega)];exact q)
theorem R9:Cr X (binaryOp .Pow) (rI A2 λi j=>.int (i ^ j.toNat)):=wD λ_ _ _ _ _ _ _ hc q=>pow_int_small hc.1 hc.2.1 hc.2.2 q
theorem SA {f:af->Sem af}{g:Int->Int}
  (rule:∀(i:Int) (t:Tok) (s:ag) (Q:af->ag->Prop) (E:af->ag->Prop),Q (.int (g i) s.toks) { s with toks:=s.toks+1 }->wpAny (model X.prog X.w) X.A (f (.int i t)) Q E s):
  wC X f (rU λi=>.int (g i)):=by
 intro pins s σ H x v Q I rx h;obtain⟨i,rfl,q⟩:=h;obtain⟨t,rfl⟩:=rx;exact rule i t s _ _ ⟨.int (g i),H,I.tok _,⟨_,rfl⟩,q⟩
theorem SD:wC X (unaryOp .USub) (rU λi=>.int (-i)):=SA λ_ _ _ _ _ q=>neg_int q
end
section
variable{X:Cx}{a b c:bj}{ta tb tc:TE}{pos:Pos}
theorem SE {pins:List (ai×Obj)}{σ:St}{H:Hp}{s:ag}{Q:VK}{k k':Bool}(I:Inv X pins σ H s) (q:Q (.bl k) H) (e:k=k'):EP X pins σ Q (.bool k') s:=by subst e;exact⟨.bl k,H,I,rfl,q⟩
theorem GY:Cr X (compareOp .Lt) (jU λi j=>.bl (decide (i<j))):=wF λ_ _ _ _ _ _ _ q=>lt_int q
theorem GZ:Cr X (compareOp .LtE) (jU λi j=>.bl (decide (i<=j))):=wF λ_ _ _ _ _ _ _ q=>le_int q
theorem G1:Cr X (compareOp .Gt) (jU λi j=>.bl (decide (j<i))):=wF λ_ _ _ _ _ _ _ q=>gt_int q
theorem SF:Cr X (compareOp .GtE) (jU λi j=>.bl (decide (j<=i))):=wF λ_ _ _ _ _ _ _ q=>ge_int q
theorem SG:Cr X (compareOp .IsNot) (λx y H Q=>y=.non/\Q (.bl (!decide (x=.non))) H):=by
 intro pins s σ H x y v u Q I rx ry h;obtain⟨rfl,q⟩:=h;cases ry;refine isnot_none_gen (SE I q ?_)
 cases x <;> first
  |(cases rx;rfl)
  |(obtain⟨t,rfl⟩:=rx;rfl)
theorem Cr.or {f:af->af->Sem af}{r r':R2}(h:Cr X f r) (h':Cr X f r'):Cr X f (λx y H Q=>r x y H Q∨r' x y H Q):=by
 intro pins s σ H x y v u Q I rx ry q
 rcases q with q|q
 ·exact h pins s σ H x y v u Q I rx ry q
 ·exact h' pins s σ H x y v u Q I rx ry q
theorem mR (b:bj) {op:CmpOp}(h:op≠.In:=by decide) (h2:op≠.NotIn:=by decide):behindInMarks op b=false:=by
 have e1:(op==CmpOp.In)=false:=by cases op <;> first|rfl|exact absurd rfl h
 have e2:(op==CmpOp.NotIn)=false:=by cases op <;> first|rfl|exact absurd rfl h2
 cases b <;> simp[behindInMarks,e1,e2]
theorem SH {op:CmpOp}{r:R2}(ho:Cr X (compareOp op) r) (ha:PE X a ta) (hb:PE X b tb) (hm:behindInMarks op b=false):PE X (.Compare a [op] [b] pos) (tE r ta tb):=by intro pins s σ H Q I h;exact wpAny_Compare1 (A1 ha hb I h λv u s2 x y H2 I2 rx ry q=>ho pins s2 σ H2 x y v u Q I2 rx ry q) hm
def SI (t:TE):TT:=λσ H Q=>t σ H λx H'=>∃k,x=.bl k/\Q k H'
theorem SJ {op:CmpOp}{r:R2}(ho:Cr X (compareOp op) r) (ha:PE X a ta) (hb:PE X b tb) (hm:behindInMarks op b=false):PT X (.Compare a [op] [b] pos) (SI (tE r ta tb)):=by intro pins s σ H Q I h;refine wpAny_isTrue_Compare1 (aW (ha pins s σ H _ I h) λv s1 ⟨x,H1,I1,r1,q1⟩=>aW (hb pins s1 σ H1 _ I1 q1) λu s2 ⟨y,H2,I2,r2,q2⟩=>aW (ho pins s2 σ H2 x y v u _ I2 r1 r2 q2) λc s3 ⟨z,H3,I3,r3,k,e,q3⟩=>?_) hm;subst e;cases r3;exact nc ⟨H3,I3,q3⟩
def G2 (r r':R2) (ta tb tc:TE):TE:=λσ H Q=>ta σ H λx H1=>tb σ H1 λy H2=>r x y H2 λz H3=>∃k,z=.bl k /\
 (if k=true then tc σ H3 λw' H4=>r' y w' H4 Q else Q (.bl false) H3)
theorem SK {op op':CmpOp}{r r':R2}(ho:Cr X (compareOp op) r) (Es:Cr X (compareOp op') r') (ha:PE X a ta) (hb:PE X b tb) (hc:PE X c tc)
  (hm:lastMarks [op,op'] [b,c]=false:=by with_unfolding_all rfl):PE X (.Compare a [op,op'] [b,c] pos) (G2 r r' ta tb tc):=by
 intro pins s σ H Q I h;refine Compare_chain (aW (ha pins s σ H _ I h) λv s1 ⟨x,H1,I1,r1,q1⟩=>chain_link (aW (hb pins s1 σ H1 _ I1 q1) λu s2 ⟨y,H2,I2,r2,q2⟩=>aW (ho pins s2 σ H2 x y v u _ I2 r1 r2 q2) λd s3 ⟨z,H3,I3,r3,k,e,q3⟩=>?_)) hm;subst e;cases r3;refine nc ?_
 cases k with
 |false=>exact ite_ff ⟨.bl false,H3,I3,rfl,q3⟩
 |true=>exact ite_tt (chain_last (aW (hc pins s3 σ H3 _ I3 q3) λw' s4 ⟨z',H4,I4,r4,q4⟩=>Es pins s4 σ H4 y z' u w' Q I4 r2 r4 q4))
def G3 (K:ao) (x:V) (H:Hp) (k:Bool):Prop:=
 match x with
 | .non=>k=false
 | .bl b=>k=b
 | .int i=>k=(i != 0)
 | .str y=>y.length<=cb/\k=((y.length:Int) != 0)
 | .byt y=>y.size<=cb/\k=((y.size:Int) != 0)
 | .ref p=>(∃xs,Cg K H p xs/\k=!xs.isEmpty)∨(∃xs,Ca K H p xs/\k=!xs.isEmpty)∨∃kvs,H p=some (.dK kvs)/\k=!kvs.isEmpty
 |_=>False
theorem SN {κ:Type}{kvs:List (κ×V)}{vs:List (κ×af)}(r:KV kvs vs):(!vs.isEmpty)=!kvs.isEmpty:=by cases r <;> rfl
theorem G4 {xs:List V}{its:List af}(r:Bp xs its):(!its.toArray.isEmpty)=!xs.isEmpty:=by cases r <;> simp
theorem qT:(cb:Nat)<2 ^ 63:=by rw[jr];decide
theorem SO:R0 X (λx H Q=>∃k,G3 X.K x H k/\Q k H):=by
 intro pins s σ H x v Q I rx h;obtain⟨k,e,q⟩:=h;have hl:=qT;have hs:cb=16777216:=jr
 cases x with
 |non=>cases rx;have e':k=false:=e;subst e';exact truthy_none ⟨H,I,q⟩
 |bl b=>cases rx;have e':k=b:=e;subst e';exact nc ⟨H,I,q⟩
 |int i=>obtain⟨t,rfl⟩:=rx;have e':k=(i != 0):=e;subst e';exact PySem.P.truthy_int ⟨H,I,q⟩
 |str y=>obtain⟨t,rfl⟩:=rx;obtain⟨hy,e'⟩:y.length<=cb/\k=((y.length:Int) != 0):=e;subst e';exact PySem.P.truthy_str (by omega) ⟨H,I.tok _,q⟩
 |byt y=>obtain⟨t,rfl⟩:=rx;obtain⟨hy,e'⟩:y.size<=cb/\k=((y.size:Int) != 0):=e;subst e';exact PySem.W.truthy_bytes (by omega) ⟨H,I.tok _,q⟩
 |ref p=>
  cases rx;have e':(∃xs,Cg X.K H p xs/\k=!xs.isEmpty)∨(∃xs,Ca X.K H p xs/\k=!xs.isEmpty)∨∃kvs,H p=some (.dK kvs)/\k=!kvs.isEmpty:=e
  rcases e' with⟨xs,hx,e'⟩|⟨xs,hx,e'⟩|⟨kvs,hx,e'⟩
  ·subst e';obtain⟨its,r,pl,hz⟩:=I.list hx;have hlen:=r.length;exact wpAny_truthy_list pl.isList (by simp only[av];omega) ⟨H,I.tok _,by rw[G4 r];exact q⟩
  ·subst e';obtain⟨its,r,pl,hz⟩:=I.tuple hx;have hlen:=r.length;exact truthy_tuple pl (by simp only[av];omega) ⟨H,I.tok _,by rw[G4 r];exact q⟩
  ·subst e';obtain⟨hz,hS,vs,r,m⟩:kvs.length<=cb/\(p==sysModules)=false/\∃vs,KV kvs vs/\s.heap.DictOf (AO X.prog X.w) p vs:=I.hok p _ hx;have hlen:kvs.length=vs.length:=Paired.length r;exact wpAny_truthy_dict hS m (by omega) ⟨H,I.tok _,by rw[SN r];exact q⟩
 |_=>exact(show False from e).elim
theorem SQ (ha:PE X a ta) (he:∀whole,isTrue a X.env whole=(do let v <-whole;standAt a.pos;holding [v] (truthy v))):
  PT X a (λσ H Q=>ta σ H λx H'=>∃k,G3 X.K x H' k/\Q k H'):=by
 intro pins s σ H Q I h;exact isTrue_plain (aW (ha pins s σ H _ I h) λv s1 ⟨x,H1,I1,r1,q1⟩=>SO pins s1 σ H1 x v Q I1 r1 q1) (he _)
theorem iU {x:V}{us:List af}(r:Bp [x] us):∃u,us=[u]/\RelV x u:=by
 cases r with
 |cons r1 r2=>cases r2;exact⟨_,rfl,r1⟩
theorem qU {x y:V}{us:List af}(r:Bp [x,y] us):∃u w',us=[u,w']/\RelV x u/\RelV y w':=by
 cases r with
 |cons r1 r2=>
  cases r2 with
  |cons r3 r4=>cases r4;exact⟨_,_,rfl,r1,r3⟩
theorem SS (hc:X.calm=true):Bv X (.builtin "max") (λxs H Q=>∃i j,xs=[.int i,.int j]/\Q (.int (if j>i then j else i)) H):=by
 intro pins s σ H xs us Q I r h;obtain⟨i,j,rfl,q⟩:=h;obtain⟨u,w',rfl,⟨t,rfl⟩,⟨t',rfl⟩⟩:=qU r;refine max_two_ints (I.ok.hd hc) λh' tk k=>⟨_,H,I.kept k, ?_,q⟩
 by_cases hj:j>i
 ·rw[if_pos hj,if_pos hj];exact⟨_,rfl⟩
 ·rw[if_neg hj,if_neg hj];exact⟨_,rfl⟩
theorem SU (hc:X.calm=true):Bv X (.builtin "min") (λxs H Q=>∃i j,xs=[.int i,.int j]/\Q (.int (if j<i then j else i)) H):=by
 intro pins s σ H xs us Q I r h;obtain⟨i,j,rfl,q⟩:=h;obtain⟨u,w',rfl,⟨t,rfl⟩,⟨t',rfl⟩⟩:=qU r;refine min_two_ints (I.ok.hd hc) λh' tk k=>⟨_,H,I.kept k, ?_,q⟩
 by_cases hj:j<i
 ·rw[if_pos hj,if_pos hj];exact⟨_,rfl⟩
 ·rw[if_neg hj,if_neg hj];exact⟨_,rfl⟩
end
section
variable{prog:bh}{w:cj}{A:bw}{E:af->ag->Prop}{s:ag}{K:ao}{x dx C f:ai}{mA:Str->Option af}{name:Str}{v:af}
end
section
variable{P:bh}{w:cj}{H H':Hp}{h h':cy}{a C dx:ai}{fs fs':List (Str×V)}
end
section
variable{X:Cx}{pins:List (ai×Obj)}{σ:St}{H:Hp}{s:ag}{a C dx:ai}{fs:List (Str×V)}{f:Str}{v:V}{A:bw}{E:af->ag->Prop}
end
section
variable{X:Cx}{o e value:bj}{f:Str}{pos pos' tpos:Pos}{ta tv:TE}
end
section
variable{X:Cx}{pins:List (ai×Obj)}{σ:St}{H:Hp}{s:ag}{A:bw}{E:af->ag->Prop}{Q:af->ag->Prop}{c:af}{b:Bool}
end
structure Ce (k:Nat) (A:bw):Prop where
 hd:A.handled=none
 dp:A.depth+3*k+5<recursionLimit
 un:A.units+16*k+200<cLine
theorem Ce.mono {j k:Nat}{A:bw}(r:Ce k A) (h:j<=k):Ce j A:=⟨r.hd,by have:=r.dp;omega,by have:=r.un;omega⟩
theorem Ce.deeper {k:Nat}{A:bw}(r:Ce (k+1) A) (env:Env):Ce k (A.deeper env):=⟨r.hd,by have:=r.dp;show A.depth+1+3*k+5<_;omega,by have:=r.un;show A.units+3+16*k+200<_;omega⟩
theorem Ce.depth {k:Nat}{A:bw}(r:Ce k A):A.depth<recursionLimit:=by have:=r.dp;omega
theorem Ce.units {k:Nat}{A:bw}(r:Ce k A):A.units+64<cLine:=by have:=r.un;omega
def G5:TA:=λ_ H Q=>Q [] H
def G6 (ta:TE) (tr:TA):TA:=λσ H Q=>ta σ H λx H1=>tr σ H1 λxs H2=>Q (x::xs) H2
section
variable{X:Cx}{e:bj}{es:List bj}{te:TE}{t:TA}{pos:Pos}
theorem jG:PA X [] G5:=λ_ _ _ _ H Q I h=>Calls.spliced_nil ⟨[],H,I,.nil,h⟩
theorem hY (ha:PE X e te) (hr:PA X es t) (hs:aw (e::es) X.env=(false,eval e X.env)::aw es X.env:=by rfl):PA X (e::es) (G6 te t):=by intro pos pins s σ H Q I h;rw[hs];show wpAny _ _ (spliced ((false,eval e X.env)::backTo pos (aw es X.env))) _ _ s;refine Calls.spliced_cons (aW (ha pins s σ H _ I h) λu s1 ⟨x,H1,I1,r1,q1⟩=>?_);exact aW (hr pos pins s1 σ H1 _ I1 q1) λus s2 ⟨xs,H2,I2,r2,q2⟩=>⟨x::xs,H2,I2,.cons r1 r2,q2⟩
def SV (t:TA):TE:=λσ H Q=>t σ H λxs H1=>xs.length<=cb/\∀p,H1 p=none->Q (.ref p) (upd H1 p (.tup xs))
def SX (t:TA):TE:=λσ H Q=>t σ H λxs H1=>xs.length<=cb/\∀p,H1 p=none->Q (.ref p) (upd H1 p (.lst xs))
theorem G7 {x1} (h:PA X es t):PE X (.Tuple es x1 pos) (SV t):=by intro pins s σ H Q I hq;refine wpAny_Tuple_spliced (aW (h pos pins s σ H _ I hq) λus s1 ⟨xs,H1,I1,r,z,q⟩=>⟨by rw[<-r.length];exact z, ?_⟩);have hf:H1 s1.heap.objs.size=none:=I1.hok.fresh (ak _);refine⟨.ref s1.heap.objs.size,upd H1 s1.heap.objs.size (.tup xs),I1.laid (t':=s1.toks) (λb u e=>aj _ e) (ak _) ?_,rfl,q _ hf⟩;exact⟨z,us,r,⟨_,bc _ rfl,rfl,rfl,_,rfl⟩⟩
theorem SY (h:PA X es t):PE X (.List es pos) (SX t):=by intro pins s σ H Q I hq;refine wpAny_List_spliced (aW (h pos pins s σ H _ I hq) λus s1 ⟨xs,H1,I1,r,z,q⟩=>⟨by rw[<-r.length];exact z, ?_⟩);have hf:H1 s1.heap.objs.size=none:=I1.hok.fresh (ak _);refine⟨.ref s1.heap.objs.size,upd H1 s1.heap.objs.size (.lst xs),I1.laid (t':=s1.toks) (λb u e=>aj _ e) (ak _) ?_,rfl,q _ hf⟩;exact⟨z,us,0,r,bc _ rfl⟩
end
abbrev Sp:=List V->Hp->VK->XK->Prop
abbrev mS:=List Env->Hp->ag->XK->af->ag->Prop
structure Env0 (P:bh) (w:cj) (K:ao) (mg:Str->Option af) (base:cy) (A:bw) (outer:List Env) (s:ag) (H:Hp):Prop where
 frames:A.frames=some outer
 mod:Mod K mg base
 bs:∀b o,base.get? b=some o->s.heap.get? b=some o/\H b=none
 bsz:base.objs.size<=s.heap.objs.size
 funs:s.heap.FunFrames base outer
 frf:∀b∈dN outer,H b=none
 hok:Cw P w H s.heap
 bare:ua s.gens
def CE (outer:List Env) (P:bh) (w:cj) (H:Hp) (s:ag) (Q:VK) (u:af) (s':ag):Prop:=∃v H',s'.os=s.os/\ua s'.gens/\Un (dN outer) [] H H' s.heap s'.heap/\Cw P w H' s'.heap/\RelV v u/\Q v H'
def CR (CX:mS) (outer:List Env) (P:bh) (w:cj) (H:Hp) (s:ag) (Q:VK) (E:XK) (r:xq) (s':ag):Prop:=
 match r with
 | .ok (.ret u)=>CE outer P w H s Q u s'
 | .ok _=>False
 | .error e=>CX outer H s E e s'
structure Bt (P:bh) (w:cj) (K:ao) (mg:Str->Option af) (base:cy) (CX:mS) (k:Nat) (f:ai) (fd:bp) (ps:Bf) (sp:Sp):Prop where
 len:∀vs H Q E,sp vs H Q E->vs.length=ps.length
 run:∀(A:bw) (outer:List Env) (s:ag) (H:Hp) (args:Args) (us:List af) (vs:List V) (Q:VK) (E:XK),Ce k A->Env0 P w K mg base A outer s H->zq s fd args (ps.zip us)->Bp vs us->sp vs H Q E->
  codeAny (model P w) A (.call (.ref f) args) (CR CX outer P w H s Q E) s
section
variable{X:Cx}{pins:List (ai×Obj)}{σ:St}{H:Hp}{s s':ag}
theorem Inv.env0 (I:Inv X pins σ H s):Env0 X.prog X.w X.K X.mg X.base X.A X.stack s H:=⟨I.ok.frames,I.ok.mod,I.bs,cz I.ok.bsz I.sz,I.stack,I.stkFree,I.hok,I.bare⟩
theorem Inv.after {Q:VK}{u:af}(I:Inv X pins σ H s) (h:CE X.stack X.prog X.w H s Q u s'):EP X pins σ Q u s':=by obtain⟨v,H',os,bare,un,hok,r,q⟩:=h;obtain⟨hh,g,d,t,os'⟩:=s';obtain rfl:os'=s.os:=os;exact⟨v,H',I.call (h':=hh) (g':=g) (d':=d) (t':=t) (ch:=[]) un hok bare (λb z=>absurd z (by simp)),r,q⟩
end
def S0 (sp:Sp) (dvs:List V) (E:XK) (t:TA):TE:=λσ H Q=>t σ H λvs H1=>sp (vs++dvs) H1 Q E
def Binds (K:ao) (fd:bp) (ps:Bf) (ds:List af):Prop:=∀(s:ag) (us:List af),K.In s.heap->(us++ds).length=ps.length->zq s fd ⟨us,[]⟩ (ps.zip (us++ds))
theorem Binds.all {K:ao}{fd:bp}{ps:Bf}(h:∀us:List af,us.length=ps.length->bindArgs fd ⟨us,[]⟩=pure (ps.zip us)):Binds K fd ps []:=λs us _ hl=>by rw[uf]at hl ⊢;exact .of_eq (h us hl)
def A3 (CX:mS) (X:Cx) (E:XK):Prop:=∀(pins:List (ai×Obj)) (σ:St) (H:Hp) (s:ag) (e:af) (s':ag),Inv X pins σ H s->CX X.stack H s E e s'->X.xe e s'
section
variable{X:Cx}{CX:mS}{k:Nat}{f C:ai}{fd:bp}{ps:Bf}{sp:Sp}{dvs:List V}{ds:List af}{E:XK}{x m:Str}{p pos apos:Pos}{e o:bj}{es:List bj}{ta:TE}{t:TA}
theorem S1 {pins:List (ai×Obj)}{σ:St}{H:Hp}{s:ag}{Q:VK}{us:List af}{vs:List V}(F:Bt X.prog X.w X.K X.mg X.base CX k f fd ps sp) (hr:Ce k X.A) (hb:Binds X.K fd ps ds) (hd:Bp dvs ds) (hx:A3 CX X E)
  (I:Inv X pins σ H s) (r:Bp vs us) (h:sp (vs++dvs) H Q E):wpAny (model X.prog X.w) X.A (call (.ref f) us) (EP X pins σ Q) X.xe s:=by
 have r2:Bp (vs++dvs) (us++ds):=r.append hd;have hl:(us++ds).length=ps.length:=by rw[<-r2.length];exact F.len _ _ _ _ h
 refine wpAny_call (qu (F.run X.A X.stack s H ⟨us,[]⟩ (us++ds) (vs++dvs) Q E hr I.env0 (hb s us I.kIn hl) r2 h) λr s' hq=>?_)
 cases r with
 |error e=>exact hx pins σ H s e s' I hq
 |ok fl=>
  cases fl with
  |ret u=>exact I.after hq
  |next=>exact je hq
  |brk=>exact je hq
  |cont=>exact je hq
theorem G8 (F:Bt X.prog X.w X.K X.mg X.base CX k f fd ps sp) (hr:Ce k X.A) (hg:Gl X x) (hm:X.mg x=some (.ref f)) (hk:kj X.K (.ref f)=true) (hb:Binds X.K fd ps ds) (hd:Bp dvs ds) (hx:A3 CX X E)
  (ha:PA X (e::es) t) (Ed:(x==He)=false:=by decide) (he:aw (e::es) X.env=(false,eval e X.env)::aw es X.env:=by rfl) (Dh:(backTo pos (aw es X.env)).any (·.1)=false:=by rfl):
  PE X (.Call (.Name x p) (e::es) [] pos) (S0 sp dvs E t):=by
 intro pins s σ H Q I h;refine sj (vZ I hg hm ?_ Ed);refine PySem.W.callWith_K (h₀:=X.base) I.ok.mod.kin hk (aW (ha pos pins s σ H _ I h) λus s1 ⟨vs,H1,I1,r,q⟩=>⟨I1.kIn, ?_⟩) he Dh;exact S1 F hr hb hd hx I1 r q
end
section
variable{X:Cx}{CX:mS}{k:Nat}{f C:ai}{fd:bp}{ps ks:Bf}{sp:Sp}{E:XK}{x m:Str}{p pos apos kpos:Pos}{e o:bj}{es:List bj}{kws:List Keyword}{te ta:TE}{t tk:TA}{nm:Option Str}
variable{g:List af->List af->List af}{gV:List V->List V->List V}
end
structure Bq (N P:Bf) (sc:gq):Prop where
 kind:sc.kind=.function
 co:sc.isCoroutine=false
 gen:sc.isGenerator=false
 nd:N.Nodup
 pre:N.take P.length=P
 par:∀x∈P,sc.names.lookup x=some .local∨sc.names.lookup x=some .cell
 nofree:∀y∈sc.names,y.2≠.free
theorem G9 {kindOf:Str->Option lh}{x:Str}:∀{binds:List (Str×af)}{m:Str->Option af},(∀v,(x,v)∉binds)->bindL kindOf binds m x=m x
 | [],_,_=>rfl
 |(n,v)::r,m,h=>by
  unfold bindL;rw[G9 λw hw=>h w (ar _ hw)]
  split
  ·have:x≠n:=by rintro rfl;exact h v bf
   simp[this]
  ·rfl
theorem HC {kindOf:Str->Option lh}{x:Str}:∀{binds:List (Str×af)}{m:Str->Option af},(∀v,(x,v)∉binds)->bindC kindOf binds m x=m x
 | [],_,_=>rfl
 |(n,v)::r,m,h=>by
  unfold bindC;rw[HC λw hw=>h w (ar _ hw)]
  split
  ·rfl
  ·have:x≠n:=by rintro rfl;exact h v bf
   simp[this]
theorem HD {kindOf:Str->Option lh}{x:Str}{v:af}:∀{P:Bf}{vs:List af}{i:Nat}{m:Str->Option af},P.Nodup->P[i]?=some x->vs[i]?=some v->kindOf x=some .local->
  bindL kindOf (P.zip vs) m x=some v
 | [],_,_,_,_,h,_,_=>by simp at h
 |_::_,[],_,_,_,_,h,_=>by simp at h
 |p::P,w::vs,0,m,nd,h1,h2,hk=>by simp at h1 h2;subst h1;subst h2;show bindL kindOf ((p,w)::P.zip vs) m p=_;unfold bindL;rw[G9 λv hv=>(jq.mp nd).1 (ya hv).1,if_pos hk];simp
 |p::P,w::vs,i+1,m,nd,h1,h2,hk=>by show bindL kindOf ((p,w)::P.zip vs) m x=_;unfold bindL;exact HD (i:=i) (jq.mp nd).2 (by simpa using h1) (by simpa using h2) hk
theorem HE {kindOf:Str->Option lh}{x:Str}{v:af}:∀{P:Bf}{vs:List af}{i:Nat}{m:Str->Option af},P.Nodup->P[i]?=some x->vs[i]?=some v->kindOf x≠some .local->
  bindC kindOf (P.zip vs) m x=some v
 | [],_,_,_,_,h,_,_=>by simp at h
 |_::_,[],_,_,_,_,h,_=>by simp at h
 |p::P,w::vs,0,m,nd,h1,h2,hk=>by simp at h1 h2;subst h1;subst h2;show bindC kindOf ((p,w)::P.zip vs) m p=_;unfold bindC;rw[HC λv hv=>(jq.mp nd).1 (ya hv).1,if_neg hk];simp
 |p::P,w::vs,i+1,m,nd,h1,h2,hk=>by show bindC kindOf ((p,w)::P.zip vs) m x=_;unfold bindC;exact HE (i:=i) (jq.mp nd).2 (by simpa using h1) (by simpa using h2) hk
def start (N:Bf) (vs:List V):St:=vs.map some++bq (N.length - vs.length) none
def fO (CX:mS) (P:bh) (w:cj) (K:ao) (mg:Str->Option af) (base:cy) (N:Bf) (qual:Str) (scope:gq) (f:ai) (cd:af) (A:bw) (outer:List Env) (s:ag) (H:Hp) (E:XK):Cx where
 prog:=P
 w:=w
 K:=K
 mg:=mg
 base:=base
 A:=A.deeper (envOfC qual scope s.heap.objs.size f cd)
 N:=N
 s₀:=s
 H₀:=H
 env:=envOfC qual scope s.heap.objs.size f cd
 outer:=outer
 stack:=envOfC qual scope s.heap.objs.size f cd::outer
 ex:=[]
 calm:=true
 fn:=λ_=>true
 pn:=[]
 xe:=λe s'=>wpAny (model P w) (A.deeper (envOfC qual scope s.heap.objs.size f cd)) (leaving (envOfC qual scope s.heap.objs.size f cd) e) (λ_ s''=>CX outer H s E e s'') (λe' s''=>CX outer H s E e' s'') s'
theorem HF {sc:gq}{n:Nat}{x:Str}(h:sc.names.lookup x=some .cell):∃c,(cellsFrom n sc.names []).lookup x=some c:=by have q:=yx sc.names n [] (.inl h);exact yq.mp q
theorem S3 {CX:mS}{P:bh}{w:cj}{K:ao}{mg:Str->Option af}{base:cy}{N ps:Bf}{qual:Str}{scope:gq}{f:ai}{cd:af}{A:bw}{outer:List Env}{s s1:ag}{H:Hp}{E:XK}{us:List af}{vs:List V}
  (S:Bq N ps scope) (hd:A.handled=none) (e0:Env0 P w K mg base A outer s H) (hl:vs.length=ps.length) (r:Bp vs us)
  (x:InCallC s s.heap.objs.size (bindL (envOfC qual scope s.heap.objs.size f cd).kindOf (ps.zip us) λ_=>none) (cellsFrom (s.heap.objs.size+1) scope.names []) (bindC (envOfC qual scope s.heap.objs.size f cd).kindOf (ps.zip us) λ_=>none) s1):
  Inv (fO CX P w K mg base N qual scope f cd A outer s H E) [] (start N vs) H s1:=by
 have Dh:ps.length<=N.length:=by have:=congrArg pj S.pre;rw[jf]at this;omega
 obtain⟨h1,tk,rfl,hk⟩:=x.done;have noA:∀b:ai,b∉(fO CX P w K mg base N qual scope f cd A outer s H E).ex:=λb z=>absurd (show b∈([]:List ai) from z) (by simp);refine⟨⟨e0.mod,S.kind,rfl,rfl,ak _,λy z c h1 h2=>?_,λy hy=>?_,λy c _ h=>?_,λ_=>hd,zt e0.frames,.inr ⟨rfl,rfl⟩,λb z=>absurd z (noA b),e0.bs,e0.bsz,λb _ _=>noA b,λb z=>absurd z (noA b),e0.funs,e0.frf⟩,
  rfl,e0.bare,Un.kept hk,⟨_,x.toInCall.ns,λi y v h1 h2 h3=>?_⟩,λy c h=>⟨_,x.cell y c h⟩,e0.hok.fresh (ak _),λy c h=>?_,λp hp=>absurd (show p∈([]:List (ai×Obj)) from hp) (by simp),e0.hok.kept hk, ?_⟩
 ·exact name_of_addr x.apart (fw h1) (fw h2)
 ·have hy:scope.names.lookup y=some .cell∨scope.names.lookup y=some .free:=hy
  rcases hy with hy|hy
  ·exact HF hy
  ·exact absurd rfl (S.nofree _ (fw hy))
 ·exact gu (x.above y c (fw h))
 ·have hi:i<vs.length:=by
   unfold start at h2
   by_cases hi:i<vs.length
   ·exact hi
   ·rw[gg (by simpa using hi)]at h2;rw[sr]at h2
    split at h2 <;> cases h2
  have ha:vs[i]?=some v:=by
   unfold start at h2;rw[dw (by simpa using hi),dj]at h2
   cases e:vs[i]? with
   |none=>rw[e]at h2;cases h2
   |some a=>rw[e]at h2;cases h2;rfl
  obtain⟨u,hu,rv⟩:=r.get ha;have hp:ps[i]?=some y:=by rw[<-S.pre,zg (by omega)];exact h1
  have ndP:ps.Nodup:=by rw[<-S.pre];exact S.nd.sublist (List.take_sublist _ _)
  refine⟨u,rv, ?_⟩
  rcases S.par y (cq hp)with k|k
  ·exact .inl ⟨k,HD ndP hp hu k⟩
  ·obtain⟨c,e⟩:=HF (n:=s.heap.objs.size+1) k;refine .inr ⟨.inl k,c,e, ?_⟩;have q:=x.cell y c e;rw[HE ndP hp hu (by show scope.names.lookup y≠_;rw[k];decide)]at q;exact q
 ·exact e0.hok.fresh (gu (x.above y c (fw h)))
 ·unfold start;show _=N.length;rw[bx,bg,Ac];omega
theorem A4 {CX:mS}{P:bh}{w:cj}{K:ao}{mg:Str->Option af}{base:cy}{k:Nat}{f:ai}{name qual:Str}{params:km}{body:List ie}{scope:gq}{dV kV doc pm cdv ct oc:af}{an od:Option ai}
  {osl:Array (Option af)}{N ps:Bf}{sp:Sp}(lk:K.lookup f=some ⟨oc,od,.func (pw name qual params body scope dV kV doc pm an cdv ct),osl⟩) (hcd:xr K cdv qual=true) (S:Bq N ps scope)
  (len:∀vs H Q E,sp vs H Q E->vs.length=ps.length)
  (Cm:∀(A:bw) (outer:List Env) (s:ag) (H:Hp) (vs:List V) (Q:VK) (E:XK),Ce k (A.deeper (envOfC qual scope s.heap.objs.size f cdv))->sp vs H Q E->
   ∃t,Fw (fO CX P w K mg base N qual scope f cdv A outer s H E) body t/\t { nx:=λ_ H'=>Q .non H',rt:=Q } (start N vs) H):
  Bt P w K mg base CX (k+1) f (pw name qual params body scope dV kV doc pm an cdv ct) ps sp:=by
 refine⟨len,λA outer s H args us vs Q E hr e0 hb r hsp=>?_⟩;have hl:=len _ _ _ _ hsp;have KX:K.In s.heap:=e0.mod.kin.keeps λb o e=>(e0.bs b o e).1;have lim:s.heap.NoLimit:=e0.mod.nolimit.keeps λb o e=>(e0.bs b o e).1;have Ej:∀y∈ps.zip us,scope.names.lookup y.1=some .local∨(scope.names.lookup y.1=some .cell/\((cellsFrom (s.heap.objs.size+1) scope.names []).lookup y.1).isSome=true):=λ⟨n,v⟩ hy=>by
  rcases S.par n (ya hy).1 with q|q
  ·exact .inl q
  ·exact .inr ⟨q,yx _ _ _ (.inl q)⟩
 refine codeAny_call_function hr.depth (KX _ _ lk) rfl S.co S.gen rfl (PySem.W.codeRec_of KX hcd) (hb _ _ _ _ ?_);refine wpAny_newFunctionEnv_cells S.kind Ej λenv he s1 x=>?_;subst he;refine⟨lim.keeps x.toInCall.keep,codeAny_func ?_⟩;obtain⟨t,ht,hq⟩:=Cm A outer s H vs Q E (hr.deeper _) hsp;have I:Inv (fO CX P w K mg base N qual scope f cdv A outer s H E) [] (start N vs) H s1:=S3 S hr.hd e0 hl r x;refine kn (ht [] s1 (start N vs) H _ I hq) (λfl s' hs=>?_) λe s' hs=>hs;have fin:∀{σ':St}{H':Hp}{v:V}{u:af},Inv (fO CX P w K mg base N qual scope f cdv A outer s H E) [] σ' H' s'->RelV v u->Q v H'->CE outer P w H s Q u s':=λ{σ' H' v u} J rv q=>⟨v,H',J.os,J.bare,J.base,J.hok,rv,q⟩
 cases fl with
 |ret u=>obtain⟨v,σ',H',J,rv,q⟩:=hs;exact fin J rv q
 |next=>obtain⟨σ',H',J,q⟩:=hs;exact fin (v:=V.non) (u:=jx) J rfl q
 |brk=>obtain⟨_,_,_,q⟩:=hs;exact je q
 |cont=>obtain⟨_,_,_,q⟩:=hs;exact je q
section
variable{X:Cx}{x:Str}{p pos:Pos}{e:bj}{es:List bj}{t:TA}{id T:String}{r:List V->Hp->VK->Prop}
def wG (r:List V->Hp->VK->Prop) (t:TA):TE:=λσ H Q=>t σ H λvs H1=>r vs H1 Q
theorem qV (hc:Bv X (.builtin id) r) (hg:Gl X x) (hm:X.mg x=none) (hv:dy x=some (.builtin id)) (ha:PA X (e::es) t) (hn:x ≠ "__name__" := by decide) (Ed:(x==He)=false:=by decide)
  (he:aw (e::es) X.env=(false,eval e X.env)::aw es X.env:=by rfl) (Dh:(backTo pos (aw es X.env)).any (·.1)=false:=by rfl):PE X (.Call (.Name x p) (e::es) [] pos) (wG r t):=by
 intro pins s σ H Q I h;refine sj (pE I hg hm hv ?_ hn Ed);exact PyProof.Rows.callWith_builtin1 (aW (ha pos pins s σ H _ I h) λus s1 ⟨vs,H1,I1,r1,q1⟩=>hc pins s1 σ H1 vs us Q I1 r1 q1) he Dh
theorem tF (hc:Bv X (.type T) r) (hg:Gl X x) (hm:X.mg x=none) (hv:dy x=some (.type T)) (ha:PA X (e::es) t) (hn:x ≠ "__name__" := by decide) (Ed:(x==He)=false:=by decide)
  (he:aw (e::es) X.env=(false,eval e X.env)::aw es X.env:=by rfl) (Dh:(backTo pos (aw es X.env)).any (·.1)=false:=by rfl):PE X (.Call (.Name x p) (e::es) [] pos) (wG r t):=by
 intro pins s σ H Q I h;refine sj (pE I hg hm hv ?_ hn Ed);exact jm (aW (ha pos pins s σ H _ I h) λus s1 ⟨vs,H1,I1,r1,q1⟩=>hc pins s1 σ H1 vs us Q I1 r1 q1) he Dh
end
end L2
abbrev Hf:=List L2.V
open L2.Ca renaming of->Gb
open L2.V renaming int->Gh,ref->Gx
open L2.Cg renaming of->Gn
namespace HT
open PySem PyProof.Rows
def lexLt:Bd->Bd->Bool
 | [],[]=>false
 | [],_::_=>true
 |_::_,[]=>false
 |x::xs,y::ys=>if x=y then lexLt xs ys else decide (x<y)
theorem lexLt_cons (x y:Int) (xs ys:Bd):lexLt (x::xs) (y::ys)=if x=y then lexLt xs ys else decide (x<y):=rfl
theorem S4:lexLt [] []=false:=rfl
theorem S5 (y:Int) (ys:Bd):lexLt [] (y::ys)=true:=rfl
theorem S6 (x:Int) (xs:Bd):lexLt (x::xs) []=false:=rfl
theorem S7 (A:bw) (s:ag) (a:Int) (t:Tok) (c:Int) (u:Tok):∃e,kr A s (.int a t) (.int c u) e/\(e=true↔a=c):=⟨(a==c),SeqAt.EqAt.int_int a t c u,by simp⟩
theorem S8 (A:bw) (s:ag) (a:Int) (t:Tok) (c:Int) (u:Tok) (prog:bh) (w:cj) (E:af->ag->Prop) (Q:af->ag->Prop) (h:Q (.bool (decide (a<c))) s):
  wpAny (model prog w) A (richCompare .Lt (.int a t) (.int c u)) Q E s:=
 (yg h:wpAny (model prog w) A (compareOp .Lt (.int a t) (.int c u)) Q E s)
section
open PySem.SeqAt
open PySem.AutoSeq1 (wpAny_loadPart')
open PySem.MeetsSeq PySem.MeetsSeq2 PySem.MeetsSeq3
theorem S9 (l b:ai) (items Cq:Array af) (n n2:Nat) (dd dd2:Option ai) (sl sl2:Array (Option af)) (ns ms:Bd) (hi:lg items.toList ns) (hj:lg Cq.toList ms):
  Meets (md.«tuple.__lt__» ⟨[.ref l,.ref b],[]⟩)
   (λ_ R s=>s.heap.get? l=some { cls:=.type "tuple",dict:=dd,data:=.seq items n,slots:=sl }/\s.heap.get? b=some { cls:=.type "tuple",dict:=dd2,data:=.seq Cq n2,slots:=sl2 } /\
    R (.ok (.ret (.bool (lexLt ns ms)))) s):=
 .of_wp λprog w A R s h=>by
  obtain⟨hp,g,d,tk,os⟩:=s;obtain⟨hl,hb,h⟩:=h;have f2:=AutoSeq1.sub_tuple_tuple;have z1:items.size=ns.length:=by rw[<-hi.length];simp
  have z2:Cq.size=ms.length:=by rw[<-hj.length];simp
  wp_walk using wpAny_loadPart' hl,wpAny_loadPart' hb,qd _ (λrest b s'=>b.1=none/\s'=⟨hp,g,d,tk,os⟩/\∃(vs ws:List af) (ns' ms':Bd),rest=vs.zip ws /\
   lg vs ns'/\lg ws ms'/\ns'.length+Cq.size=ms'.length+items.size/\R (.ok (.ret (.bool (lexLt ns' ms')))) ⟨hp,g,d,tk,os⟩) _
  case turn=>
   rintro ⟨y,x⟩ rest b s' ⟨hb',rfl,vs,ws,ns',ms',hz,hvi,hwi,hlen,hR⟩
   cases hvi with
   |nil=>rw[List.zip_nil_left]at hz;cases hz
   |cons a t hvi'=>
    cases hwi with
    |nil=>rw[List.zip_nil_right]at hz;cases hz
    |cons c u hwi'=>
     rw[List.zip_cons_cons]at hz;injection hz with hyx Ew;injection hyx with hy hx;subst hy hx;rw[lexLt_cons]at hR;simp only[dg]at hlen;obtain⟨e,he,hiff⟩:=S7 A.in1 ⟨hp,g,d,tk,os⟩ a t c u;refine aa (he prog w _ _ ?_)
     cases e with
     |true=>
      rw[if_pos (hiff.mp rfl)]at hR
      wp_walk
      exact⟨rfl,rfl,_,_,_,_,Ew,hvi',hwi',by omega,hR⟩
     |false=>
      rw[if_neg (λq=>absurd (hiff.mpr q) gy)]at hR;have hri:=S8 A.in1 ⟨hp,g,d,tk,os⟩ a t c u prog w
      wp_walk using hri
      exact⟨_,rfl,by simpa using hR⟩
  case fin=>
   rintro ⟨b1,b2⟩ s' ⟨hb',rfl,vs,ws,ns',ms',hz,hvi,hwi,hlen,hR⟩
   simp only at hb';subst hb';have hv:lexLt ns' ms'=decide (items.size<Cq.size):=by
    cases hvi with
    |nil=>
     cases hwi with
     |nil=>simp only[nr]at hlen;rw[S4];exact(decide_eq_false (by omega)).symm
     |cons c u hw=>simp only[nr,dg]at hlen;rw[S5];exact(decide_eq_true (by omega)).symm
    |cons a t hv=>
     cases hwi with
     |nil=>simp only[nr,dg]at hlen;rw[S6];exact(decide_eq_false (by omega)).symm
     |cons c u hw=>rw[List.zip_cons_cons]at hz;cases hz
   rw[hv]at hR
   wp_walk
   exact⟨_,rfl,by simpa[Builtin.Tuple.tupleCompareSizes]using hR⟩
  case h=>exact⟨rfl,rfl,items.toList,Cq.toList,ns,ms,rfl,hi,hj,by omega,h⟩
end
section
variable{prog:bh}{w:cj}{A:bw}{E:af->ag->Prop}{s:ag}
theorem lt_tupInts {l b:ai}{items Cq:Array af}{ns ms:Bd}{Q:af->ag->Prop}(hl:ye s.heap l items) (hb:ye s.heap b Cq) (hi:lg items.toList ns) (hj:lg Cq.toList ms)
  (hu:A.units<cLine) (h:Q (.bool (lexLt ns ms)) s):wpAny (model prog w) A (compareOp .Lt (.ref l) (.ref b)) Q E s:=by
 obtain⟨⟨cls,dd,data,sl⟩,ho,hc,n,hd⟩:=id hl;obtain⟨⟨cls2,dd2,data2,sl2⟩,ho2,hc2,n2,hd2⟩:=id hb;simp only at hc hd hc2 hd2;subst hc hd hc2 hd2;exact richCompare_meets_room (op:=.Lt) ⟨_,ho,rfl⟩ ⟨_,ho2,rfl⟩ PySem.F.slot_tuple_lt PySem.F.entry_tuple_lt (PySem.F.args_tuple_lt_2 _ _) (S9 l b items Cq n n2 dd dd2 sl sl2 ns ms hi hj)
  ⟨ho,ho2,show vh (lexLt ns ms)≠Value.notImplemented/\Q (.bool (lexLt ns ms)) s from⟨(λx=>nomatch x),h⟩⟩ hu
theorem cat_tup {t b:ai}{vs ws:List af}{Q:af->ag->Prop}(ht:ye s.heap t vs.toArray) (hb:ye s.heap b ws.toArray) (hv:vs≠[])
  (h1:ws=[]->Q (.ref t) s) (h2:ws≠[]->Q (.ref s.heap.objs.size) { s with heap:=s.heap.push { cls:=.type "tuple",data:=.seq (vs++ws).toArray } })
  (Cu:vs.length+ws.length<=cb):wpAny (model prog w) A (binaryOp .Add (.ref t) (.ref b)) Q E s:=by
 obtain⟨⟨cls,dd,data,sl⟩,ho,hc,n,hd⟩:=id ht;obtain⟨⟨cls2,dd2,data2,sl2⟩,ho2,hc2,n2,hd2⟩:=id hb;simp only at hc hd hc2 hd2;subst hc hd hc2 hd2;have e:vs.toArray++ws.toArray=(vs++ws).toArray:=by simp
 by_cases hw:ws=[]
 ·exact concat_meets ⟨_,ho,rfl⟩ ⟨_,ho2,rfl⟩ yy Au sk qv (qp _ _)
   (tuple_addW1 t b vs.toArray ws.toArray n n2 dd dd2 sl sl2 (by simpa using hv) (by simp[hw])) ⟨ho,ho2,h1 hw⟩
 ·refine concat_meets ⟨_,ho,rfl⟩ ⟨_,ho2,rfl⟩ yy Au sk qv (qp _ _)
   (tuple_addW2 t b vs.toArray ws.toArray n n2 dd dd2 sl sl2 (by simpa using hv) (by simpa using hw) (by rw[av,av];exact Cu)) ⟨ho,ho2, ?_⟩
  rw[e];exact h2 hw
def sIx (n d:Nat):Option Int->Nat
 |none=>d
 |some v=>if v<0 then(v+(n:Int)).toNat else min v.toNat n
theorem sIx_none (n d:Nat):sIx n d none=d:=rfl
theorem sIx_nat (n d k:Nat):sIx n d (some (k:Int))=min k n:=by show(if(k:Int)<0 then((k:Int)+(n:Int)).toNat else min (k:Int).toNat n)=min k n;rw[if_neg (by omega),fj]
theorem TB (n d:Nat) (hd:d<=n) (o:Option Int):sIx n d o<=n:=by
 cases o with
 |none=>exact hd
 |some v=>
  show(if v<0 then(v+(n:Int)).toNat else min v.toNat n)<=n
  by_cases hv:v<0
  ·rw[if_pos hv];omega
  ·rw[if_neg hv];exact Nat.min_le_right _ _
theorem HG (v:Int) (n d:Nat):(if v<0 then max (v+(n:Int)) 0 else min v (n:Int))=((sIx n d (some v):Nat):Int):=by
 show(if v<0 then max (v+(n:Int)) 0 else min v (n:Int))=(((if v<0 then(v+(n:Int)).toNat else min v.toNat n):Nat):Int)
 by_cases hv:v<0
 ·simp only[if_pos hv];omega
 ·simp only[if_neg hv];omega
theorem TF (lo hi:Option Int) (n:Nat):iz lo hi 1 (n:Int)=(((sIx n 0 lo:Nat):Int),((sIx n n hi:Nat):Int)):=by
 have h1:¬ ((1:Int)<0):=by omega
 unfold iz;simp only[h1,if_false];refine Prod.ext ?_ ?_
 ·cases lo with
  |none=>rfl
  |some v=>exact HG v n 0
 ·cases hi with
  |none=>rfl
  |some v=>exact HG v n n
theorem TH (i j:Nat):fz (i:Int) (j:Int) 1=j - i:=by
 unfold fz;have h1:(1:Int)>0:=by omega
 simp only[h1,if_true,Int.ediv_one]
 split <;> omega
theorem slicePart_ {v:af}{o:Option Int}{Q:Option Int->ag->Prop}(p:ug v o) (h:Q o s):wpAny (model prog w) A (Builtin.Slice.slicePartIndex v) Q E s:=by
 cases p with
 |none=>exact slicePart_none h
 |int i t=>exact slicePart_int h
theorem sliceApplied_gen {sl:ai}{vl vu:af}{lo hi:Option Int}{n:Nat}{Q:Int×Int×Nat->ag->Prop}(hs:s.heap.IsSliceOf sl vl vu .none) (pl:ug vl lo) (pu:ug vu hi)
  (h:Q (((sIx n 0 lo:Nat):Int),1,sIx n n hi - sIx n 0 lo) s):wpAny (model prog w) A (ku (.ref sl) (pure (n:Int))) Q E s:=by
 obtain⟨os,hos,Fu,hds⟩:=id hs;unfold ku vq;refine aa (aa (ff hos hds (x:=vl) rfl (aa (ff hos hds (x:=vu) rfl (aa (ff hos hds (x:=.none) rfl (ah ?_)))))));refine aa (slicePart_none ?_);show wpAny _ _ (if((1:Int)==0)=true then _ else _) _ _ s;rw[if_neg (by decide)];refine aa (slicePart_ pl (aa (slicePart_ pu (aa (ah ?_)))));show wpAny _ _ (match iz lo hi 1 (n:Int)with|(lo,hi)=>pure (lo,(1:Int),fz lo hi 1)) _ _ s;rw[TF lo hi n];show wpAny _ _ (pure (((sIx n 0 lo:Nat):Int),(1:Int),fz ((sIx n 0 lo:Nat):Int) ((sIx n n hi:Nat):Int) 1)) _ _ s;rw[TH];exact ah h
theorem TJ (xs:Array af) (i k:Nat):((bo k).filterMap λ(m:Nat)=>xs[((i:Int)+(m:Int)*1).toNat]?).toArray=((xs.toList.drop i).take k).toArray:=by
 have e:(λ(m:Nat)=>xs[((i:Int)+(m:Int)*1).toNat]?)=λm=>xs[i+m]?:=by
  funext m
  have:((i:Int)+(m:Int)*1).toNat=i+m:=by omega
  rw[this]
 rw[e];have:=pick_run xs i k;rw[List.filterMap_map]at this;have e2:((λx=>xs[x]?)∘λx=>i+x)=λm=>xs[i+m]?:=rfl;rw[e2]at this;rw[this]
theorem getItem_tuple_cut {t sl:ai}{items:Array af}{vl vu:af}{lo hi:Option Int}{Q:af->ag->Prop}(ht:ye s.heap t items) (hs:s.heap.IsSliceOf sl vl vu .none) (pl:ug vl lo) (pu:ug vu hi)
  (hw:¬ (sIx items.size 0 lo=0/\sIx items.size items.size hi=items.size))
  (h:Q (.ref s.heap.objs.size) { s with heap:=s.heap.push { cls:=.type "tuple",data:=.seq ((items.toList.drop (sIx items.size 0 lo)).take (sIx items.size items.size hi - sIx items.size 0 lo)).toArray } })
  (Cu:items.size<=cb):wpAny (model prog w) A (getItem (.ref t) (.ref sl)) Q E s:=by
 have htake:sizeOk (.seq ((items.toList.drop (sIx items.size 0 lo)).take (sIx items.size items.size hi - sIx items.size 0 lo)).toArray):=by show((items.toList.drop (sIx items.size 0 lo)).take (sIx items.size items.size hi - sIx items.size 0 lo)).toArray.size<=cb;rw[av,jf,pb,ni];omega
 have hj:sIx items.size items.size hi<=items.size:=TB _ _ (ak _) hi;obtain⟨os,hos,Fu,hds⟩:=id hs;have hTs:s.TypeIs (.ref sl) "slice" := ⟨os,hos,Fu⟩;unfold getItem
 try with_reducible refine gv ?_
 first|refine aa (ah ?_)|skip
 refine aa (yh ht.typeIs (by decide) ?_);refine aa (gm (name:=lj "__getitem__") ht.typeIs df
  (fq df ht.typeIs entry_tuple_getitem ?_ (args_tuple_getitem _ _)))
 show wpAny _ _ (vm (.ref t) >>= _) _ _ s;refine aa (xh ht ?_);refine aa (nu hTs ?_);rw[if_pos (by decide)];refine aa (sliceApplied_gen hs pl pu ?_);have hno:¬ ((((sIx items.size 0 lo:Nat):Int)==0&&(1:Int)==1&&(sIx items.size items.size hi - sIx items.size 0 lo)==items.size)=true):=by intro q;rw[cx,cx]at q;have q1:((sIx items.size 0 lo:Nat):Int)=0:=eq_of_beq q.1.1;have q2:sIx items.size items.size hi - sIx items.size 0 lo=items.size:=eq_of_beq q.2;exact hw ⟨by omega,by omega⟩
 show wpAny _ _ (if(((sIx items.size 0 lo:Nat):Int)==0&&(1:Int)==1&&(sIx items.size items.size hi - sIx items.size 0 lo)==items.size)=true then _ else _) _ _ s;rw[if_neg hno,TJ]
 first
  |exact aa (m:=gn _) (dk (ah ⟨_,rfl,ah h⟩) htake)
  |exact aa (m:=gn _) (dk (aa (ah (ah ⟨_,rfl,ah h⟩))) htake)
  |exact aa (aa (m:=gn _) (dk (ah (ah ⟨_,rfl,ah h⟩)) htake))
  |exact aa (aa (m:=gn _) (dk (ah ⟨_,rfl,ah h⟩) htake))
end
end HT
namespace L2
abbrev TO:=St->Hp->(Option Int->Hp->Prop)->Prop
def PO (X:Cx) (e:Option bj) (t:TO):Prop:=
 ∀(pins:List (ai×Obj)) (s:ag) (σ:St) (H:Hp) (Q:Option Int->Hp->Prop),Inv X pins σ H s->t σ H Q->
  wpAny (model X.prog X.w) X.A (evalPart e X.env) (λu s'=>∃o H',Inv X pins σ H' s'/\ug u o/\Q o H') X.xe s
def TL:TO:=λ_ H Q=>Q none H
def TM (t:TE):TO:=λσ H Q=>t σ H λx H1=>∃i,x=.int i/\Q (some i) H1
theorem HH {ns:Bd}:∀{us:List af},Bp (ns.map Gh) us->lg us ns:=by
 induction ns with
 |nil=>intro us r;rw[wg]at r;cases r;exact .nil
 |cons n ns ih=>
  intro us r;rw[da]at r
  cases r with
  |cons r1 r2=>obtain⟨t,e⟩:=r1;subst e;exact .cons n t (ih r2)
section
variable{X:Cx}{e:bj}{te:TE}{lo hi:Option bj}{tl th:TO}{pos p2:Pos}
theorem TN:PO X none TL:=by intro pins s σ H Q I h;rw[Av];exact ah ⟨none,H,I,.none,h⟩
theorem TQ (h:PE X e te):PO X (some e) (TM te):=by intro pins s σ H Q I hw;rw[evalPart_some];refine aW (h pins s σ H _ I hw) λu s1 ⟨x,H1,I1,r1,q1⟩=>?_;obtain⟨i,rfl,q⟩:=q1;obtain⟨t,rfl⟩:=r1;exact⟨some i,H1,I1,.int i t,q⟩
def SlR (X:Cx) (r:V->Option Int->Option Int->Hp->VK->Prop):Prop:=
 ∀(pins:List (ai×Obj)) (s:ag) (σ:St) (H:Hp) (x:V) (v vl vu:af) (lo hi:Option Int) (sl:ai) (Q:VK),Inv X pins σ H s->RelV x v->s.heap.IsSliceOf sl vl vu .none->ug vl lo->ug vu hi->r x lo hi H Q->
  ∃T id,typeLookup (.type T) "__getitem__" = pure (some (.builtin id))/\s.TypeIs v T/\wpAny (model X.prog X.w) X.A (getItem v (.ref sl)) (EP X pins σ Q) X.xe s
theorem SlR.or {r r':V->Option Int->Option Int->Hp->VK->Prop}(h:SlR X r) (h':SlR X r'):SlR X (λx lo hi H Q=>r x lo hi H Q∨r' x lo hi H Q):=by
 intro pins s σ H x v vl vu lo hi sl Q I rx hs pl pu q
 rcases q with q|q
 ·exact h pins s σ H x v vl vu lo hi sl Q I rx hs pl pu q
 ·exact h' pins s σ H x v vl vu lo hi sl Q I rx hs pl pu q
def TR (r:V->Option Int->Option Int->Hp->VK->Prop) (te:TE) (tl th:TO):TE:=λσ H Q=>te σ H λx H1=>tl σ H1 λl H2=>th σ H2 λu H3=>r x l u H3 Q
theorem TU {r:V->Option Int->Option Int->Hp->VK->Prop}(hr:SlR X r) (he:PE X e te) (hl:PO X lo tl) (hu:PO X hi th):PE X (.Subscript e (.Slice lo hi none p2) pos) (TR r te tl th):=by intro pins s σ H Q I h;refine Subscript_ (aW (he pins s σ H _ I h) λv s1 ⟨x,H1,I1,r1,q1⟩=>?_);refine wpAny_Slice (aW (hl pins s1 σ H1 _ I1 q1) λvl s2 ⟨l,H2,I2,pl,q2⟩=>aW (hu pins s2 σ H2 _ I2 q2) λvu s3 ⟨u,H3,I3,pu,q3⟩=>?_);rw[Av];refine ah ?_;have I4:Inv X pins σ H3 { s3 with heap:=s3.heap.push { cls:=.type "slice",data:=.fields #[vl,vu,.none] } }:=I3.kept (t':=s3.toks) λb ob q=>aj _ q;obtain⟨T,id,hT,ht,hg⟩:=hr pins { s3 with heap:=s3.heap.push { cls:=.type "slice",data:=.fields #[vl,vu,.none] } } σ H3 x v vl vu l u s3.heap.objs.size Q I4 r1 (yb ..) pl pu q3;show wpAny (model X.prog X.w) X.A (subscriptTail e (.Slice lo hi none p2) v (.ref s3.heap.objs.size)) (EP X pins σ Q) X.xe { s3 with heap:=s3.heap.push { cls:=.type "slice",data:=.fields #[vl,vu,.none] } };exact tail_any (ops:=[.ref s3.heap.objs.size,v]) ht hT hg (by with_unfolding_all rfl)
def oC (xs:Hf) (lo hi:Option Int):Hf:=(xs.drop (HT.sIx xs.length 0 lo)).take (HT.sIx xs.length xs.length hi - HT.sIx xs.length 0 lo)
theorem HI (xs:Hf) (lo hi:Option Int):(oC xs lo hi).length<=xs.length:=by unfold oC;rw[jf,pb];omega
def TV (K:ao):V->Option Int->Option Int->Hp->VK->Prop:=λx lo hi H Q=>∃a xs,x=.ref a/\Ca K H a xs /\
 ¬ (HT.sIx xs.length 0 lo=0/\HT.sIx xs.length xs.length hi=xs.length)/\∀p,H p=none->Q (.ref p) (upd H p (.tup (oC xs lo hi)))
theorem TX:SlR X (TV X.K):=by
 intro pins s σ H x v vl vu lo hi sl Q I rx hs pl pu h;obtain⟨a,xs,rfl,hx,hw,q⟩:=h;cases rx;obtain⟨its,r,ht,hz⟩:=I.tuple hx;have hlen:its.toArray.size=xs.length:=by rw[av];exact r.length.symm
 refine⟨"tuple",_,df.lookup,ht.typeIs, ?_⟩;refine HT.getItem_tuple_cut ht hs pl pu (by rw[hlen];exact hw) ?_ (by rw[hlen];exact hz);rw[hlen];refine⟨.ref s.heap.objs.size,_,I.laid (t':=s.toks) (o:=.tup (oC xs lo hi)) (λb ob q=>aj _ q) (ak _) ?_,rfl,q _ (I.hok.fresh (ak _))⟩;exact⟨cz (HI xs lo hi) hz,_,(r.drop (HT.sIx xs.length 0 lo)).take (HT.sIx xs.length xs.length hi - HT.sIx xs.length 0 lo),Cj.new _ _⟩
def HJ (K:ao):R2:=λx y H Q=>∃a b ns ms,x=.ref a/\y=.ref b/\Ca K H a (ns.map Gh)/\Ca K H b (ms.map Gh)/\Q (.bl (HT.lexLt ns ms)) H
theorem HK (hu:X.A.units<cLine):Cr X (compareOp .Lt) (HJ X.K):=by intro pins s σ H x y v u Q I rx ry h;obtain⟨a,b,ns,ms,rfl,rfl,ha,hb,q⟩:=h;cases rx;cases ry;obtain⟨its,r1,p1,_⟩:=I.tuple ha;obtain⟨Dc,r2,p2,_⟩:=I.tuple hb;have i1:lg its.toArray.toList ns:=HH r1;have i2:lg Dc.toArray.toList ms:=HH r2;exact HT.lt_tupInts p1 p2 i1 i2 hu ⟨.bl (HT.lexLt ns ms),H,I,rfl,q⟩
def HL (K:ao):R2:=λx y H Q=>∃a b xs ys,x=.ref a/\y=.ref b/\Ca K H a xs/\Ca K H b ys/\xs≠[]/\xs.length+ys.length<=cb /\
 (ys=[]->Q (.ref a) H)/\(ys≠[]->∀p,H p=none->Q (.ref p) (upd H p (.tup (xs++ys))))
theorem Bp.nil_iff {xs:Hf}{us:List af}(r:Bp xs us):us=[]↔xs=[]:=by
 cases r with
 |nil=>simp
 |cons _ _=>simp
theorem TY:Cr X (binaryOp .Add) (HL X.K):=by intro pins s σ H x y v u Q I rx ry h;obtain⟨a,b,xs,ys,rfl,rfl,ha,hb,hx,hz,q1,q2⟩:=h;cases rx;cases ry;obtain⟨its,r1,p1,_⟩:=I.tuple ha;obtain⟨Dc,r2,p2,_⟩:=I.tuple hb;refine HT.cat_tup p1 p2 (λz=>hx (r1.nil_iff.mp z)) (λz=>⟨.ref a,H,I,rfl,q1 (r2.nil_iff.mp z)⟩) (λz=>?_) (by rw[<-r1.length,<-r2.length];exact hz);refine⟨.ref s.heap.objs.size,_,I.laid (t':=s.toks) (o:=.tup (xs++ys)) (λb ob q=>aj _ q) (ak _) ?_,rfl,q2 (λw=>z (r2.nil_iff.mpr w)) _ (I.hok.fresh (ak _))⟩;exact⟨by rw[bx];exact hz,_,r1.append r2,Cj.new _ _⟩
end
def eI (n:Nat) (i:Int):Option Nat:=if 0<=i then(if i<n then some i.toNat else none)else if -(n:Int)<=i then some (i+n).toNat else none
def gD {α:Type}(xs:List α) (i:Int):Option α:=(eI xs.length i).bind λj=>xs[j]?
theorem A5 {n:Nat}{i:Int}{j:Nat}(h:eI n i=some j):seqIndex? i n=some j/\j<n/\-(n:Int)<=i/\i<n:=by
 unfold eI at h
 by_cases h0:0<=i
 ·rw[if_pos h0]at h
  by_cases h1:i<n
  ·rw[if_pos h1]at h;have e:i.toNat=j:=cn h;exact⟨by rw[seqIndex_of h0 h1,e],by omega,by omega,h1⟩
  ·rw[if_neg h1]at h;cases h
 ·rw[if_neg h0]at h
  by_cases h1 : -(n:Int)<=i
  ·rw[if_pos h1]at h;have e:(i+n).toNat=j:=cn h;exact⟨by rw[seqIndex_neg (by omega) h1,e],by omega,h1,by omega⟩
  ·rw[if_neg h1]at h;cases h
theorem A6 {α:Type}{xs:List α}{i:Int}{v:α}(h:gD xs i=some v):∃j,seqIndex? i xs.length=some j/\xs[j]?=some v/\j<xs.length/\-(xs.length:Int)<=i/\i<xs.length:=by
 unfold gD at h
 cases e:eI xs.length i with
 |none=>rw[e]at h;cases h
 |some j=>rw[e]at h;obtain⟨h1,h2,h3,h4⟩:=A5 e;exact⟨j,h1,h,h2,h3,h4⟩
def A7 (b:bj):Prop:=∀o i,subscripted b false o i=operate [o,i] (getItem o i)
def IxR (X:Cx) (r:R2):Prop:=
 ∀(value slice:bj) (pins:List (ai×Obj)) (s:ag) (σ:St) (H:Hp) (x y:V) (v u:af) (Q:VK),Inv X pins σ H s->RelV x v->RelV y u->r x y H Q->
  subscripted slice false v u=operate [v,u] (getItem v u)->wpAny (model X.prog X.w) X.A (subscriptTail value slice v u) (EP X pins σ Q) X.xe s
def A8 (X:Cx) (id:String) (r:V->Hf->Hp->VK->Prop):Prop:=
 ∀(pins:List (ai×Obj)) (s:ag) (σ:St) (H:Hp) (x:V) (xs:Hf) (v:af) (us:List af) (Q:VK),Inv X pins σ H s->RelV x v->Bp xs us->r x xs H Q->
  wpAny (model X.prog X.w) X.A (call (.builtin id) (v::us)) (EP X pins σ Q) X.xe s
section
variable{X:Cx}{a b:bj}{ta tb:TE}{pos:Pos}
theorem IxR.or {r r':R2}(h:IxR X r) (h':IxR X r'):IxR X (λx y H Q=>r x y H Q∨r' x y H Q):=by
 intro value slice pins s σ H x y v u Q I rx ry q hs
 rcases q with q|q
 ·exact h value slice pins s σ H x y v u Q I rx ry q hs
 ·exact h' value slice pins s σ H x y v u Q I rx ry q hs
theorem HM {r:R2}(hr:IxR X r) (ha:PE X a ta) (hb:PE X b tb) (hs:A7 b):PE X (.Subscript a b pos) (tE r ta tb):=by intro pins s σ H Q I h;exact Subscript_ (A1 ha hb I h λv u s2 x y H2 I2 rx ry q=>hr a b pins s2 σ H2 x y v u Q I2 rx ry q (hs _ _))
def HN (K:ao):R2:=λx y H Q=>∃p xs i v,x=.ref p/\y=.int i/\Cg K H p xs/\gD xs i=some v/\Q v H
def HP (K:ao):R2:=λx y H Q=>∃p xs i v,x=.ref p/\y=.int i/\Ca K H p xs/\gD xs i=some v/\Q v H
def HQ:R2:=λx y H Q=>∃z i c,x=.str z/\y=.int i/\z.length<=cb/\gD z.cps.toList i=some c/\Q (.str ⟨#[c]⟩) H
theorem ix_list:IxR X (HN X.K):=by
 intro value slice pins s σ H x y v u Q I rx ry h hs;obtain⟨p,xs,i,z,rfl,rfl,hq,he,q⟩:=h;cases rx;obtain⟨t,rfl⟩:=ry;obtain⟨its,r,pl,hz⟩:=I.list hq;obtain⟨j,h1,h2,h3,h4,h5⟩:=A6 he;obtain⟨w,ew,rw'⟩:=r.get h2;have hl:=r.length;have hn:=qT;have fin:EP X pins σ Q w s:=⟨z,H,I,rw',q⟩
 by_cases h0:0<=i
 ·have hj:i.toNat=j:=by rw[seqIndex_of h0 h5]at h1;exact cn h1
  exact item_listR pl.isList h0 (by omega) (by rw[hj];simpa using ew) fin hs
 ·have hj:(i+(its.toArray.size:Int)).toNat=j:=by rw[seqIndex_neg (by omega) h4]at h1;rw[av,<-hl];exact cn h1
  exact subscriptTail_builtinR (x:=w) pl.isList.typeIs slot_list_getitem.lookup
   (wpAny_getItem_list_neg (Q:=λr s'=>r=w/\EP X pins σ Q r s') pl.isList (by omega) (by rw[av] <;> omega) (by omega) (by rw[hj];simpa using ew) ⟨rfl,fin⟩) hs
theorem ix_tup:IxR X (HP X.K):=by
 intro value slice pins s σ H x y v u Q I rx ry h hs;obtain⟨p,xs,i,z,rfl,rfl,hq,he,q⟩:=h;cases rx;obtain⟨t,rfl⟩:=ry;obtain⟨its,r,pl,hz⟩:=I.tuple hq;obtain⟨j,h1,h2,h3,h4,h5⟩:=A6 he;obtain⟨w,ew,rw'⟩:=r.get h2;have hl:=r.length;have hn:=qT;have fin:EP X pins σ Q w s:=⟨z,H,I,rw',q⟩
 exact subscriptTail_builtinR (x:=w) pl.typeIs slot_tuple_getitem.lookup
  (getItem_tuple (j:=j) (Q:=λr s'=>r=w/\EP X pins σ Q r s') pl (by omega) (by omega) (by rw[av,<-hl];exact h1) (by simpa using ew) ⟨rfl,fin⟩) hs
theorem TZ:IxR X HQ:=by
 intro value slice pins s σ H x y v u Q I rx ry h hs;obtain⟨z,i,c,rfl,rfl,hz,he,q⟩:=h;obtain⟨t,rfl⟩:=rx;obtain⟨t',rfl⟩:=ry;obtain⟨j,h1,h2,h3,h4,h5⟩:=A6 he;have hl:z.cps.toList.length=z.length:=by simp[Str.length]
 rw[hl]at h1 h4 h5;have hn:=qT;exact tail_any (typeIs_str s z t) slot_str_getitem.lookup (getItem_str (c:=c) (by have e1:decide (i < -(2 ^ 63:Int))=false:=decide_eq_false (by omega);have e2:decide (i>=2 ^ 63)=false:=decide_eq_false (by omega);rw[e1,e2,Bool.or_false]) (by rw[h1];simpa using h2) ⟨.str ⟨#[c]⟩,H,I.tok _,⟨_,rfl⟩,q⟩) hs
def A9 (K:ao):R2:=λx y H Q=>HN K x y H Q∨HP K x y H Q∨HQ x y H Q
theorem HR:IxR X (A9 X.K):=ix_list.or (ix_tup.or TZ)
theorem T1 (its:List af) (n j:Nat) (u:af):pd (·.setIfInBounds j u) { cls:=.type "list",data:=.seq its.toArray n }={ cls:=.type "list",data:=.seq (its.set j u).toArray n }:=by simp[pd]
theorem Inv.lst {pins:List (ai×Obj)}{σ:St}{H:Hp}{s:ag}{p:ai}{xs:Hf}(I:Inv X pins σ H s) (h:H p=some (.lst xs)):
  ∃(its:List af) (n:Nat),Bp xs its/\s.heap.get? p=some { cls:=.type "list",data:=.seq its.toArray n }/\xs.length<=cb:=by
 obtain⟨z,its,n,r,e⟩:=I.hok p _ h;exact⟨its,n,r,e,z⟩
theorem Inv.lstUpd {pins:List (ai×Obj)}{σ:St}{H:Hp}{s:ag}{p:ai}{xs ys:Hf}{its its':List af}{n n':Nat}{f:Obj->Obj}(I:Inv X pins σ H s) (h:H p=some (.lst xs))
  (ho:s.heap.get? p=some { cls:=.type "list",data:=.seq its.toArray n }) (hf:f { cls:=.type "list",data:=.seq its.toArray n }={ cls:=.type "list",data:=.seq its'.toArray n' }) (r:Bp ys its') (hz:ys.length<=cb) (t:Nat):
  Inv X pins σ (upd H p (.lst ys)) { s with heap:=s.heap.update p f,toks:=t }:=by
 have e:(s.heap.update p f).get? p=some { cls:=.type "list",data:=.seq its'.toArray n' }:=by rw[ow f ho (by rw[hf] <;> rfl),hf]
 refine I.write (x:=p) (e:=p) (by rw[h];trivial) (.inl rfl) (λb u hb q=>(oj _ _ (de hb)).trans q) ⟨_,e⟩ ?_;exact⟨hz,its',n',r,e⟩
def T3:V->V->V->Hp->(Hp->Prop)->Prop:=λo i v H Q=>∃p xs k j,o=.ref p/\i=.int k/\H p=some (.lst xs)/\eI xs.length k=some j/\Q (upd H p (.lst (xs.set j v)))
theorem BA:GQ X T3:=by
 intro pins s σ H o i v ov iv u Q I ro ri rv h;obtain⟨p,xs,k,j,rfl,rfl,hp,hj,q⟩:=h;cases ro;obtain⟨t,rfl⟩:=ri;obtain⟨its,n,r,ho,hz⟩:=I.lst hp;obtain⟨h1,h2,h3,h4⟩:=A5 hj;have hl:=r.length;have hn:=qT;have I':Inv X pins σ (upd H p (.lst (xs.set j v))) { s with heap:=s.heap.update p (pd (·.setIfInBounds j u)) }:=I.lstUpd hp ho (T1 its n j u) (r.set rv j) (by rw[lr];exact hz) s.toks
 by_cases h0:0<=k
 ·have hk:k.toNat=j:=by rw[seqIndex_of h0 h4]at h1;exact cn h1
  exact PySem.W.ki_setAt ho h0 (by omega) (by rw[av,<-hl];exact h4) (by rw[hk];exact⟨_,I',q⟩)
 ·have hk:(k+(its.toArray.size:Int)).toNat=j:=by rw[seqIndex_neg (by omega) h3]at h1;rw[av,<-hl];exact cn h1
  exact PySem.W.ki_setBack ho (by omega) (by rw[av,<-hl];exact h3) (by omega) (by rw[hk];exact⟨_,I',q⟩)
theorem T4 (lo hi:Option Int) (n:Nat):(sliceBounds lo hi none n).1=((HT.sIx n 0 lo:Nat):Int)/\(sliceBounds lo hi none n).2.1=((HT.sIx n n hi:Nat):Int)/\(sliceBounds lo hi none n).2.2=1:=by
 refine⟨?_, ?_,rfl⟩
 ·cases lo with
  |none=>simp[sliceBounds,HT.sIx]
  |some i=>
   simp only[sliceBounds,HT.sIx,Option.getD_none,show(1:Int)>0 by decide,if_true]
   by_cases h:i<0
   ·simp only[h,if_true] <;> omega
   ·simp only[h,if_false] <;> omega
 ·cases hi with
  |none=>simp[sliceBounds,HT.sIx]
  |some i=>
   simp only[sliceBounds,HT.sIx,Option.getD_none,show(1:Int)>0 by decide,if_true]
   by_cases h:i<0
   ·simp only[h,if_true] <;> omega
   ·simp only[h,if_false] <;> omega
theorem T5 (its:List af) (lo hi:Option Int):slicePick its.toArray lo hi none=((its.drop (HT.sIx its.length 0 lo)).take (HT.sIx its.length its.length hi - HT.sIx its.length 0 lo)).toArray:=by obtain⟨h1,h2,h3⟩:=T4 lo hi its.toArray.size;unfold slicePick;rw[h1,h2,h3];simp only[sliceRange_one,pick_run,av] <;> rfl
def T6 (K:ao):V->Option Int->Option Int->Hp->VK->Prop:=λx lo hi H Q=>∃a xs,x=.ref a/\Cg K H a xs/\∀p,H p=none->Q (.ref p) (upd H p (.lst (oC xs lo hi)))
theorem T7:SlR X (T6 X.K):=by intro pins s σ H x v vl vu lo hi sl Q I rx hs pl pu h;obtain⟨a,xs,rfl,hx,q⟩:=h;cases rx;obtain⟨its,r,ht,hz⟩:=I.list hx;have hlen:=r.length;refine⟨"list",_,slot_list_getitem.lookup,ht.isList.typeIs, ?_⟩;refine wpAny_getItem_list_slice ht.isList hs pl pu .none (by simp) ?_ (by rw[av] <;> omega);rw[T5,<-hlen];refine⟨.ref s.heap.objs.size,_,I.laid (t':=s.toks) (o:=.lst (oC xs lo hi)) (λb ob q=>aj _ q) (ak _) ?_,rfl,q _ (I.hok.fresh (ak _))⟩;exact⟨cz (HI xs lo hi) hz,_,0,(r.drop (HT.sIx xs.length 0 lo)).take (HT.sIx xs.length xs.length hi - HT.sIx xs.length 0 lo),bc _ rfl⟩
theorem HS:Bv X (.builtin "len") (λxs H Q=>∃p ys,xs=[.ref p]/\(Cg X.K H p ys∨Ca X.K H p ys)/\Q (.int ys.length) H):=by
 intro pins s σ H xs us Q I r h;obtain⟨p,ys,rfl,hq,q⟩:=h;obtain⟨u,rfl,rx⟩:=iU r;cases rx;have hn:=qT
 rcases hq with hq|hq
 ·obtain⟨its,r',pl,hz⟩:=I.list hq;have hlen:=r'.length;exact Calls.call_len_list pl.isList (by simp only[av] <;> omega) ⟨.int ys.length,H,I.tok _,⟨s.toks+1,by rw[av,hlen]⟩,q⟩
 ·obtain⟨its,r',pl,hz⟩:=I.tuple hq;have hlen:=r'.length;exact len_tuple pl (by simp only[av] <;> omega) ⟨.int ys.length,H,I.tok _,⟨s.toks+1,by rw[av,hlen]⟩,q⟩
theorem T9:Bv X (.type "list") (λxs H Q=>∃p ys,xs=[.ref p]/\(Cg X.K H p ys∨Ca X.K H p ys)/\∀l,H l=none->Q (.ref l) (upd H l (.lst ys))):=by
 intro pins s σ H xs us Q I r h;obtain⟨p,ys,rfl,hq,q⟩:=h;obtain⟨u,rfl,rx⟩:=iU r;cases rx;have fin:∀(its:List af),Bp ys its->ys.length<=cb->∀(h':cy) (c':Nat),(∀b o',s.heap.get? b=some o'->h'.get? b=some o')->
   h'.get? s.heap.objs.size=some { cls:=.type "list",dict:=none,data:=.seq its.toArray c',slots:=#[] }->EP X pins σ Q (.ref s.heap.objs.size) { s with heap:=h' }:=λits r' hz h' c' kp e=>
  ⟨.ref s.heap.objs.size,_,I.laid (t':=s.toks) kp (ak _) (show Br X.prog X.w _ h' _ (.lst ys) from⟨hz,its,c',r',e⟩),rfl,q _ (I.hok.fresh (ak _))⟩
 rcases hq with hq|hq
 ·obtain⟨its,r',pl,hz⟩:=I.list hq;have hlen:=r'.length;obtain⟨o,ho,hc,n,hd⟩:=pl.isList;exact call_list_seq p (.inl rfl) ho hc hd (λh' c' kp e=>fin its r' hz h' c' kp e) (by simp only[av] <;> omega)
 ·obtain⟨its,r',pl,hz⟩:=I.tuple hq;have hlen:=r'.length;obtain⟨o,ho,hc,n,hd⟩:=pl;exact call_list_seq p (.inr rfl) ho hc hd (λh' c' kp e=>fin its r' hz h' c' kp e) (by simp only[av] <;> omega)
theorem UA:Bv X (.type "tuple") (λxs H Q=>∃p ys,xs=[.ref p]/\((Cg X.K H p ys/\∀l,H l=none->Q (.ref l) (upd H l (.tup ys)))∨(Ca X.K H p ys/\Q (.ref p) H))):=by
 intro pins s σ H xs us Q I r h;obtain⟨p,ys,rfl,h⟩:=h;obtain⟨u,rfl,rx⟩:=iU r;cases rx
 rcases h with⟨hq,q⟩|⟨hq,q⟩
 ·obtain⟨its,r',pl,hz⟩:=I.list hq;have hlen:=r'.length;refine call_tuple_list pl.isList (λh' kp=>?_) (by simp only[av] <;> omega);have I1:Inv X pins σ H { s with heap:=h' }:=I.kept (t':=s.toks) kp;have I2:Inv X pins σ (upd H h'.objs.size (.tup ys)) { s with heap:=h'.push { cls:=.type "tuple",data:=.seq its.toArray } }:=I1.laid (t':=s.toks) (λb o e=>aj _ e) (ak _) (show Br X.prog X.w _ _ _ (.tup ys) from⟨hz,its,r',Cj.new _ _⟩);exact⟨.ref h'.objs.size,_,I2,rfl,q _ (I1.hok.fresh (ak _))⟩
 ·obtain⟨its,r',pl,hz⟩:=I.tuple hq;exact call_tuple_same pl ⟨.ref p,H,I,rfl,q⟩
def wH (K:ao) (T:String) (x:V) (H:Hp):Prop:=match x with
 | .str _=>T = "str"
 | .int _=>T = "int"
 | .ref p=>(T = "list"/\∃xs,Cg K H p xs)∨(T = "tuple"/\∃o,K.lookup p=some o/\o.cls=.type "tuple"/\o.dict=none) ∨
   (T = "dict"/\((∃kvs,H p=some (.dK kvs))∨∃kvs,H p=some (.dT kvs)))∨(T = "set"/\∃S n,H p=some (.set S n))
 |_=>False
theorem UB {pins:List (ai×Obj)}{σ:St}{H:Hp}{s:ag}{T:String}{x:V}{v:af}(I:Inv X pins σ H s) (r:RelV x v) (ty:wH X.K T x H):
  s.TypeIs v T/\∀a,v=.ref a->∃ob,s.heap.get? a=some ob/\ob.dict=none:=by
 cases x with
 |str z=>
  obtain⟨t,rfl⟩:=r
  cases (show T = "str" from ty)
  exact⟨typeIs_str s z t,λ_ e=>nomatch e⟩
 |int i=>
  obtain⟨t,rfl⟩:=r
  cases (show T = "int" from ty)
  exact⟨typeIs_int s i t,λ_ e=>nomatch e⟩
 |ref p=>
  cases r
  rcases ty with⟨rfl,xs,hq⟩|⟨rfl,o,hk,hc,hd⟩|⟨rfl,hk⟩|⟨rfl,S,n,hk⟩
  ·obtain⟨its,_,pl,_⟩:=I.list hq;refine⟨pl.isList.typeIs,λa e=>?_⟩;cases e;obtain⟨o,n,e,c,hd,_⟩:=pl;exact⟨o,e,hd⟩
  ·refine⟨⟨o,I.kIn p o hk,hc⟩,λa e=>?_⟩;cases e;exact⟨o,I.kIn _ o hk,hd⟩
  ·have z:∃o,s.heap.get? p=some o/\o.ExactDict:=by
    rcases hk with⟨kvs,hk⟩|⟨kvs,hk⟩
    ·obtain⟨_,_,_,_,o,_,_,e,ex,_⟩:=I.hok p _ hk;exact⟨o,e,ex⟩
    ·obtain⟨_,_,_,_,o,_,_,e,ex,_⟩:=I.hok p _ hk;exact⟨o,e,ex⟩
   obtain⟨o,e,ex⟩:=z;refine⟨⟨o,e,ex.1⟩,λa e2=>?_⟩;cases e2;exact⟨o,e,ex.2.1⟩
  ·obtain⟨o,_,_,_,e,ex,_⟩:=I.hok p _ hk;refine⟨⟨o,e,ex.1⟩,λa e2=>?_⟩;cases e2;exact⟨o,e,ex.2.1⟩
 |_=>exact je ty
def UC (K:ao) (T:String) (r:V->Hf->Hp->VK->Prop) (to:TE) (t:TA):TE:=λσ H Q=>to σ H λx H1=>wH K T x H1/\t σ H1 λxs H2=>r x xs H2 Q
variable{o e:bj}{es:List bj}{to:TE}{t:TA}{name:Str}{apos cpos:Pos}{T id:String}{r:V->Hf->Hp->VK->Prop}
theorem BB (pa:PlainAttrs T) (slot:Slot T name id) (hty:typeOf (.builtin id)=pure (.type "method_descriptor")) (hm:A8 X id r) (ho:PE X o to) (ha:PA X (e::es) t)
  (hbase:attributeBase o name X.env (eval o X.env)=eval o X.env:=by rfl)
  (hfew:((backTo cpos (aw (e::es) X.env)).all (λx=>!x.1)&&(backToKw cpos (keywordEach [] X.env)).all (λx=>x.1.isSome)
   && decide ((e::es).length+([]:List Keyword).length+(if([]:List Keyword).isEmpty then 0 else 1)<30))=true:=by rfl)
  (hline:(apos.endLine==cpos.line)=true:=by rfl) (hs:aw (e::es) X.env=(false,eval e X.env)::aw es X.env:=by rfl) (hplain:(backTo cpos (aw es X.env)).any (·.1)=false:=by rfl):
  PE X (.Call (.Attribute o name apos) (e::es) [] cpos) (UC X.K T r to t):=by
 intro pins s σ H Q I h;refine wpAny_Call_method_late hbase hfew hline rfl (aW (ho pins s σ H _ I h) λv s1 ⟨x,H1,I1,r1,ty,q1⟩=>?_);obtain⟨h1,h2⟩:=UB I1 r1 ty;refine⟨T,id,pa,slot,hty,h1,h2, ?_⟩;have hA:=ha cpos pins s1 σ H1 _ I1 q1;rw[hs]at hA ⊢;refine Calls.callWith_builtin (by show(false||(backTo cpos (aw es X.env)).any (·.1))=false;rw[hplain] <;> rfl) (Calls.evalArgs_plain ?_);exact aW hA λus s2 ⟨vs,H2,I2,r2,q2⟩=>hm pins s2 σ H2 x vs v us Q I2 r1 r2 q2
end
def BC (X:Cx) (id:String) (r:V->Hf->Hp->VK->Prop):Prop:=
 ∀(pins:List (ai×Obj)) (s:ag) (σ:St) (H:Hp) (x:V) (xs:Hf) (v:af) (us:List af) (Q:VK),Inv X pins σ H s->RelV x v->Bp xs us->r x xs H Q->
  wpAny (model X.prog X.w) X.A (call (.builtin id) (v::us)) (EP X pins σ Q) X.xe s
theorem Bp.one:∀{x:V}{us:List af},Bp [x] us->∃u,us=[u]/\RelV x u
 |_,_,.cons r .nil=>⟨_,rfl,r⟩
theorem Bp.eraseIdx:∀{xs:Hf}{us:List af}(i:Nat),Bp xs us->Bp (xs.eraseIdx i) (us.eraseIdx i)
 |_,_,_,.nil=>.nil
 |_,_,0,.cons _ t=>t
 |_,_,i+1,.cons r t=>.cons r (Bp.eraseIdx i t)
theorem Bp.rep {xs:Hf}{us:List af}(h:Bp xs us):∀k:Nat,Bp (bq k xs).flatten (bq k us).flatten
 |0=>.nil
 |k+1=>by rw[ig,ig,kg,kg];exact Bp.append h (Bp.rep h k)
theorem HU {α:Type}:∀(l:List α) (i:Nat),(l.eraseIdx i).length<=l.length
 | [],_=>ak _
 |_::_,0=>Nat.le_succ _
 |_::r,i+1=>Nat.succ_le_succ (HU r i)
theorem HV (its:List af):∀(k:Nat) (acc:List af),
  List.foldl (λx1 x2=>x1++x2) acc.toArray (bq k its.toArray)=(acc++(bq k its).flatten).toArray
 |0,acc=>by simp
 |k+1,acc=>by
  have e:acc.toArray++its.toArray=(acc++its).toArray:=by simp
  have e2:(acc++its)++(bq k its).flatten=acc++(bq (k+1) its).flatten:=by rw[ig,kg,qw]
  rw[<-e2,<-HV its k (acc++its),<-e,ig,List.foldl_cons]
section
variable{X:Cx}{pins:List (ai×Obj)}{σ:St}{H:Hp}{s:ag}{l b:ai}{xs ys zs:Hf}
theorem Inv.lset {its its':List af}{n:Nat}{f:Array af->Array af}{t':Nat}(I:Inv X pins σ H s) (hH:H l=some (.lst xs))
  (e:s.heap.get? l=some { cls:=.type "list",data:=.seq its.toArray n }) (hf:f its.toArray=its'.toArray) (hv:Bp ys its') (hz:ys.length<=cb):
  Inv X pins σ (upd H l (.lst ys)) { s with heap:=s.heap.update l (pd f),toks:=t' }:=by
 have q:=Ae e f;rw[hf]at q;refine I.write (x:=l) (e:=l) (by rw[hH];exact trivial) (.inl rfl) (λb' u hb hu=>(oj s.heap (pd f) (de hb)).trans hu) ⟨_,q⟩ ?_;exact⟨hz,its',_,hv,q⟩
theorem Inv.lnew {its:List af}{t':Nat}(I:Inv X pins σ H s) (hv:Bp ys its) (hz:ys.length<=cb):
  Inv X pins σ (upd H s.heap.objs.size (.lst ys)) { s with heap:=s.heap.push { cls:=.type "list",data:=.seq its.toArray },toks:=t' }:=
 I.laid (λ_ _ q=>aj _ q) (ak _) ⟨hz,its,0,hv,bc _ rfl⟩
theorem Inv.fresh (I:Inv X pins σ H s):H s.heap.objs.size=none:=I.hok.fresh (ak _)
theorem Inv.lstM (I:Inv X pins σ H s) (hH:H l=some (.lst xs)):xs.length<=cb/\∃(its:List af) (n:Nat),Bp xs its/\xs.length=its.length/\s.heap.get? l=some { cls:=.type "list",data:=.seq its.toArray n }:=by obtain⟨z,its,n,r,e⟩:=I.hok l _ hH;exact⟨z,its,n,r,r.length,e⟩
theorem HW {n:Nat}(h:n<=cb):mn n=false:=by unfold mn;exact decide_eq_false (by omega)
end
section
variable{X:Cx}
def UD:V->Hf->Hp->VK->Prop:=λx vs H Q=>∃l xs y,x=.ref l/\vs=[y]/\H l=some (.lst xs)/\xs.length<cb/\Q .non (upd H l (.lst (xs++[y])))
theorem UE:BC X "list.append" UD:=by intro pins s σ H x vs v us Q I rx rv h;obtain⟨l,xs,y,rfl,rfl,hH,hz,q⟩:=h;cases rx;obtain⟨u,rfl,ru⟩:=rv.one;obtain⟨z,its,n,r,hl,e⟩:=I.lstM hH;refine ve F.slot_list_append ⟨_,e,rfl⟩ F.entry_list_append (F.args_list_append_2 _ _) (PySem.list_append l its.toArray n u (by rw[av];omega)) ⟨e, ?_⟩;refine⟨.non,_,I.lset (its':=its++[u]) hH e (by simp) (r.append (.cons ru .nil)) ?_,rfl,q⟩;rw[bx,uv];omega
def UG:V->Hf->Hp->VK->Prop:=λx vs H Q=>∃l b xs zs,x=.ref l/\vs=[.ref b]/\H l=some (.lst xs)/\H b=some (.lst zs)/\xs.length+zs.length<=cb/\Q .non (upd H l (.lst (xs++zs)))
theorem UH:BC X "list.extend" UG:=by
 intro pins s σ H x vs v us Q I rx rv h;obtain⟨l,b,xs,zs,rfl,rfl,hH,hB,hz,q⟩:=h;cases rx;obtain⟨u,rfl,ru⟩:=rv.one;cases ru;obtain⟨z,its,n,r,hl,e⟩:=I.lstM hH;obtain⟨z2,Dc,n2,r2,hl2,e2⟩:=I.lstM hB;have Cu:its.toArray.size+Dc.toArray.size<=cb:=by rw[av,av];omega
 have hlong:¬ (!its.toArray.isEmpty&&mn (its.toArray.size+Dc.toArray.size))=true:=by rw[HW Cu,qk];exact gy
 refine ve F.slot_list_extend ⟨_,e,rfl⟩ F.entry_list_extend (F.args_list_extend_2 _ _)
  (AutoSeq1.list_extend_list_list_0 l its.toArray n b Dc.toArray n2 hlong (by rw[av];omega) (by omega)) ⟨e,e2, ?_⟩
 refine⟨.non,_,I.lset (its':=its++Dc) hH e (by simp) (r.append r2) ?_,rfl,q⟩;rw[bx];omega
def UI:V->Hf->Hp->VK->Prop:=λx vs H Q=>∃l xs i k y,x=.ref l/\vs=[.int i]/\H l=some (.lst xs)/\-(2 ^ 63)<=i/\i<2 ^ 63/\seqIndex? i xs.length=some k/\xs[k]?=some y/\Q y (upd H l (.lst (xs.eraseIdx k)))
theorem UJ:BC X "list.pop" UI:=by
 intro pins s σ H x vs v us Q I rx rv h;obtain⟨l,xs,i,k,y,rfl,rfl,hH,h1,h2,hk,hy,q⟩:=h;cases rx;obtain⟨u,rfl,ru⟩:=rv.one;obtain⟨t,rfl⟩:=ru;obtain⟨z,its,n,r,hl,e⟩:=I.lstM hH;obtain⟨w,hw,rw'⟩:=r.get hy;refine ve F.slot_list_pop ⟨_,e,rfl⟩ F.entry_list_pop (F.args_list_pop_2 _ _)
  (MeetsSeq.list_pop_at l its.toArray n i t k w (fitsIndex_both h1 h2) (by rw[av,<-hl];exact hk) (by rw[<-ly];exact hw) (by rw[av];omega)) ⟨e, ?_⟩
 refine⟨y,_,I.lset (its':=its.eraseIdx k) hH e ?_ (r.eraseIdx k) ?_,rw',q⟩
 ·show its.toArray.eraseIdxIfInBounds k=(its.eraseIdx k).toArray;rw[List.eraseIdxIfInBounds_toArray]
 ·have:=HU xs k;omega
def HX:R2:=λx y H Q=>∃l b xs zs,x=.ref l/\y=.ref b/\H l=some (.lst xs)/\H b=some (.lst zs)/\xs.length+zs.length<=cb/\∀p,H p=none->Q (.ref p) (upd H p (.lst (xs++zs)))
theorem op_cat:Cr X (binaryOp .Add) HX:=by
 intro pins s σ H x y v u Q I rx ry h;obtain⟨l,b,xs,zs,rfl,rfl,hH,hB,hz,q⟩:=h;cases rx;cases ry;obtain⟨z,its,n,r,hl,e⟩:=I.lstM hH;obtain⟨z2,Dc,n2,r2,hl2,e2⟩:=I.lstM hB;refine PySem.P.add_list e e2 ?_ (by rw[av,av];omega);have ea:its.toArray++Dc.toArray=(its++Dc).toArray:=by simp
 rw[ea];exact⟨.ref _,_,I.lnew (t':=s.toks) (r.append r2) (by rw[bx];omega),rfl,q _ I.fresh⟩
def HY:R2:=λx y H Q=>∃l k xs,x=.ref l/\y=.int k/\H l=some (.lst xs)/\-(2 ^ 63)<=k/\k<2 ^ 63/\xs.length*k.toNat<=cb /\
 ∀p,H p=none->Q (.ref p) (upd H p (.lst (bq k.toNat xs).flatten))
theorem UK {α:Type}(xs:List α) (k:Nat):(bq k xs).flatten.length=k*xs.length:=by
 induction k with
 |zero=>simp
 |succ k ih=>rw[ig,kg,bx,ih,wy,Nat.add_comm]
theorem UL:Cr X (binaryOp .Mult) HY:=by
 intro pins s σ H x y v u Q I rx ry h;obtain⟨l,k,xs,rfl,rfl,hH,h1,h2,hz,q⟩:=h;cases rx;obtain⟨t,rfl⟩:=ry;obtain⟨z,its,n,r,hl,e⟩:=I.lstM hH;have hlen:its.toArray.size*k.toNat<=cb:=by rw[av,<-hl];exact hz
 have hcap:¬ its.toArray.size*k.toNat>(2 ^ 63 - 1) / 8:=by
  have:(cb:Nat)<=(2 ^ 63 - 1) / 8:=by decide
  omega
 have hfit:¬ (!Builtin.List.listFitsIndex k)=true:=by rw[fitsIndex_both h1 h2];exact gy
 have hlong:¬ mn (its.toArray.size*k.toNat)=true:=by rw[HW hlen];exact gy
 have Eo:List.foldl (λx1 x2=>x1++x2) #[] (bq (if its.toArray.isEmpty=true then 0 else k.toNat) its.toArray)=(bq k.toNat its).flatten.toArray:=by
  have f0:∀m:Nat,List.foldl (λx1 x2=>x1++x2) #[] (bq m its.toArray)=(bq m its).flatten.toArray:=λm=>by have:=HV its m [];rw[List.nil_append]at this;exact this
  rw[f0]
  cases its with
  |nil=>simp
  |cons a r'=>rw[if_neg (by simp)]
 refine wpAny_binaryOp_repeat_ref (T := "list") (U := "int") (by decide) ⟨_,e,rfl⟩ (λs'=>typeIs_int s' k t) noFill_list_mul F.fills_int_mul F.slot_int_rmul repeat_list F.slot_int_index.lookup
  (ve F.slot_int_rmul (typeIs_int s k t) F.entry_int_rmul (F.args_int_rmul_2 _ _) (int___rmul___int_list k t l its.toArray n)
   ⟨e,rfl,⟨_,e,rfl⟩,ve F.slot_list_mul ⟨_,e,rfl⟩ F.entry_list_mul (F.args_list_mul_2 _ _) (AutoListH.list___mul___list_int_3 l its.toArray n k t hfit hcap hlong) ⟨e, ?_⟩⟩)
 rw[Eo];exact⟨.ref _,_,I.lnew (t':=s.toks) (r.rep k.toNat) (by rw[UK,Nat.mul_comm];exact hz),rfl,q _ I.fresh⟩
end
section
variable{prog:bh}{w:cj}{A:bw}{E:af->ag->Prop}{s:ag}
set_option maxRecDepth 100000 in
end
section
variable{X:Cx}
end
end L2
namespace Att
open PySem PySem.W PySem.Calls PyProof.Rows
theorem UM {P:Params}{h:cy}:∀(ns:Bd) (vs:List af),WellAll P h vs (ns.map WData.int)->lg vs ns:=by
 intro ns
 induction ns with
 |nil=>intro vs w;rw[wg]at w;cases w;exact .nil
 |cons n ns ih=>
  intro vs w;rw[da]at w
  cases w with
  |cons a b=>cases a;exact .cons _ _ (ih _ b)
theorem UN {l:OpenLaw}{n:Nat}(hn:l.most=some n) {P:Params}{h:cy}{args:List WData}{vals:List af}
  (hpre:l.row.toRowW.claim.pre args=true) (hwl:WellAll P h vals args):
  ∃a vs ns,vals=[ik a]/\args=[WData.list (ns.map WData.int)]/\h.get? a=some { cls:=.type "list",data:=.seq vs.toArray }/\lg vs ns/\ns.length<=n:=by
 have hsh:WShape.hasAll [] args [.list .int]=true:=(pre_splitW hpre).1;have hc:l.pre.holds [] { args:=args }=true:=(pre_splitW hpre).2;obtain⟨d,r,rfl,h1,h2⟩:=hasAllW_cons hsh;obtain rfl:=hasAllW_nil h2;obtain⟨xs,rfl,h3⟩:=hasW_list h1;obtain⟨ns,rfl⟩:=items_int h3;have hlen:ns.length<=n:=by
  unfold OpenLaw.pre at hc;have h4:(WTm.not (.lt (.lit (.int (n:Int))) (.len (.arg 0)))).holds [] { args:=[.list (ns.map .int)] }=true:=by have h4:=(holds_andW hc).1;rw[hn]at h4;exact h4
  have h5:=condW_of h4 (w_not (w_lt w_lit (w_len_list (w_arg rfl))));rw[bg]at h5;refine Nat.le_of_not_lt λq=>?_;have q':(n:Int)<((ns.length:Nat):Int):=by omega
  first
   |(rw[decide_eq_true q']at h5;exact absurd h5 (by decide))
   |(simp at h5;omega)
 cases hwl with
 |cons w1 w2=>
  cases w2
  cases w1 with
  |list ho Cn=>exact⟨_,_,ns,rfl,rfl,ho,UM ns _ Cn,hlen⟩
theorem UO (l:OpenLaw) (args:List WData):l.row.toRowW.claim.post args (.bool true) args=true:=
 postW_of (r:=l.row.toRowW) (X:=(true==true))
  (show WShape.has [] (.bool true) .bool=true by first|rfl|decide|simp[WShape.has,WShape.arms,WShape.armsAll])
  (show(WTm.eq .res (.lit (.bool true))).value [] { args:=args,res:=some (.bool true),after:=args }=some (.bool (true==true)) from w_eq_bool (w_res rfl) w_lit) rfl
theorem attach_call {l:OpenLaw}{n:Nat}{q:bh}{loose:Bf}{XP:(Str->Option af)->cy->Prop}{YP:cj->cy->Prop}{d:DefRec}
  (hn:l.most=some n) (hdf:d.params.defaults=[])
  (call:∀(w:cj) (s₀ s₁:ag) (mg mb:Str->Option af) (fa:ai) (o:Obj) (pm cd doc:af) (a:ai) (vs:List af) (ns:Bd),
   Ground q loose [] XP w s₀ mg mb s₁.heap->YP w s₁.heap->
   s₁.heap.get? fa=some o->o.data=.func (docDef d.name d.params d.body d.scope pm cd doc)->s₁.heap.CodeRec cd d.name->mg d.name=some (.ref fa)->
   s₁.heap.get? a=some { cls:=.type "list",data:=.seq vs.toArray }->lg vs ns->ns.length<=n->s₁.gens=#[]->
   codeAny (model l.prog w) callerA (.call (.ref fa) ⟨[.ref a],[]⟩) (λr s'=>r=.ok (.ret (.bool true))/\OldK s₁.heap s'.heap/\s'.os=s₁.os/\ua s'.gens) s₁):
  WalkO q loose XP YP l.row.toRowW d [] (λf vs=>Aw f vs):=by
 intro w s₀ s₁ mg mb G Y fa o pm cd doc dV kV ho hd hcd hD hmg hg args vals as hpre hlay hrd hwl hlo;obtain rfl:dV=.none:=Dflts.none hD hdf;obtain rfl:kV=.none:=Dflts.noKw hD;obtain⟨a,vs,ns,rfl,rfl,hobj,hints,hlen⟩:=UN hn hpre hwl;refine enter_call (qu (call w s₀ s₁ mg mb fa o pm cd doc a vs ns G Y ho (fd_plain hd) hcd hmg hobj hints hlen hg) λr s' hq=>?_);obtain⟨rfl,h2,h3,h4⟩:=hq;exact⟨.inl ⟨.bool true,.bool true,[],rfl,λ_=>rfl,.bool true,UO l _,λ_=>⟨uh,λ_ hm=>(nomatch hm)⟩⟩,h2,h3,h4⟩
section
variable{prog:bh}{w:cj}{A:bw}{E:af->ag->Prop}{s:ag}{K:Frag}
end
end Att
namespace L2
theorem tG:∀{vs:List af}{ns:Bd},lg vs ns->Bp (ns.map Gh) vs
 |_,_,.nil=>.nil
 |_,_,.cons n t h=>.cons ⟨t,rfl⟩ (tG h)
def oD (s:ie):km:=match s with
 | .FunctionDef _ a _ _ _ _ _ _ _ _=>a
 |_=>{ posonlyargs:=[],args:=[],vararg:=none,kwonlyargs:=[],kw_defaults:=[],kwarg:=none,defaults:=[] }
def hZ (s:ie):List ie:=match s with
 | .FunctionDef _ _ b _ _ _ _ _ _ _=>b
 |_=>[]
def aT (s:ie):gq:=match s with
 | .FunctionDef _ _ _ _ _ _ sc _ _ _=>sc
 |_=>{ kind:=.function,names:=[],isGenerator:=false,isCoroutine:=false }
abbrev E0:XK:=λ_ _ _=>False
structure Cy (K:ao) (x qual:Str) (st:ie) (f:ai) (fd:bp):Prop where
 ex:∃(oc:af) (od:Option ai) (kV doc pm:af) (an:Option ai) (cdv ct:af) (osl:Array (Option af)),
  fd=pw x qual (oD st) (hZ st) (aT st) .none kV doc pm an cdv ct/\K.lookup f=some ⟨oc,od,.func fd,osl⟩/\xr K cdv qual=true
 kp:kj K (.ref f)=true
section
variable{P:bh}{w:cj}{K:ao}{mg:Str->Option af}{base:cy}
theorem Cy.binds {x qual:Str}{st:ie}{f:ai}{fd:bp}{ps:Bf}(F:Cy K x qual st f fd)
  (h:∀(kV doc pm:af) (an:Option ai) (cdv ct:af) (us:List af),us.length=ps.length->bindArgs (pw x qual (oD st) (hZ st) (aT st) .none kV doc pm an cdv ct) ⟨us,[]⟩=pure (ps.zip us)):Binds K fd ps []:=by
 obtain⟨oc,od,kV,doc,pm,an,cdv,ct,osl,rfl,lk,hcd⟩:=F.ex;exact .all (h kV doc pm an cdv ct)
theorem HZ {x qual:Str}{st:ie}{f:ai}{oc:af}{od an:Option ai}{osl:Array (Option af)}{kV doc pm cdv ct:af}(l:K.lookup f=some ⟨oc,od,.func (pw x qual (oD st) (hZ st) (aT st) .none kV doc pm an cdv ct),osl⟩)
  (c:xr K cdv qual=true) (k:kj K (.ref f)=true):Cy K x qual st f (pw x qual (oD st) (hZ st) (aT st) .none kV doc pm an cdv ct):=⟨⟨oc,od,kV,doc,pm,an,cdv,ct,osl,rfl,l,c⟩,k⟩
end
section
variable{X:Cx}
end
theorem IA {A B:Prop}(h:B):if false=true then A else B:=by rw[if_neg gy];exact h
theorem IB {A B:Prop}(h:A):if true=true then A else B:=by rw[if_pos rfl];exact h
def De (H H':Hp):Prop:=∀b o,H b=some o->H' b=some o
theorem De.refl (H:Hp):De H H:=λ_ _ h=>h
theorem wI {β:Type}(x y:Str) (c:β) (acc:List (Str×β)):((y,c)::acc).lookup x=if x=y then some c else acc.lookup x:=by
 rw[iw]
 by_cases e:x=y
 ·have hb:(x==y)=true:=beq_iff_eq.mpr e;rw[hb,if_pos e]
 ·have hb:(x==y)=false:=beq_eq_false_iff_ne.mpr e;rw[hb,if_neg e]
def dC (env:Env):List (Str×lh)->List (Str×ai)->List (Str×ai)
 | [],acc=>acc
 |(x,k)::r,acc=>dC env r (if k==.free then(x,(env.cells.lookup x).getD 0)::acc else acc)
theorem BD {env:Env}:∀(l:List (Str×lh)) (acc:List (Str×ai)),(∀x,(x,bz)∈l->∃c,env.cells.lookup x=some c)->
  (forIn l acc (λ(x:Str×lh) (r:List (Str×ai))=>match x with
   |(name,kind)=>if(kind==bz)=true then(do let a <-cellOf env name;pure (sf ((name,a)::r)))else(pure (sf r):Sem (ForInStep (List (Str×ai))))))=(pure (dC env l acc):Sem (List (Str×ai)))
 | [],acc,_=>rfl
 |(x,k)::l,acc,h=>by
  rw[pz];dsimp only
  cases hk:k==bz with
  |true=>
   have e:k=.free:=by cases k <;> first|rfl|cases hk
   subst e;obtain⟨c,hc⟩:=h x (bf ..);rw[if_pos rfl,show dC env ((x,bz)::l) acc=dC env l ((x,c)::acc)by rw[dC,if_pos hk,hc];rfl,<-BD l ((x,c)::acc) λy hy=>h y (ar _ hy)];unfold cellOf;rw[hc];rfl
  |false=>rw[if_neg (by simp),show dC env ((x,k)::l) acc=dC env l acc by rw[dC,hk];rfl,<-BD l acc λy hy=>h y (ar _ hy)];rfl
theorem wJ {env:Env}{scope:gq}(h:∀x,(x,bz)∈scope.names->∃c,env.cells.lookup x=some c):closureFor scope env=pure (dC env scope.names []):=by unfold closureFor;have:=BD (env:=env) scope.names [] h;show(forIn scope.names [] _ >>= λcs=>pure cs)=_;exact(congrArg (λ(m:Sem (List (Str×ai)))=>m >>= λcs=>pure cs) this)
theorem tH {env:Env}{x:Str}:∀(l:List (Str×lh)) (acc:List (Str×ai)),((x,bz)∈l∨acc.lookup x=some ((env.cells.lookup x).getD 0))->(dC env l acc).lookup x=some ((env.cells.lookup x).getD 0)
 | [],acc,h=>h.elim (λz=>nomatch z) id
 |(y,k)::l,acc,h=>by
  rw[dC]
  cases hk:k==bz with
  |true=>
   refine tH l _ ?_;rw[if_pos rfl]
   by_cases e:x=y
   ·subst e;right;rw[wI,if_pos rfl]
   ·rcases h with h|h
    ·rcases az.mp h with h|h
     ·cases h;exact absurd rfl e
     ·exact .inl h
    ·right;rw[wI,if_neg e];exact h
  |false=>
   refine tH l _ ?_
   rcases h with h|h
   ·rcases az.mp h with h|h
    ·cases h;simp at hk
    ·exact .inl h
   ·exact .inr h
structure BlkCells (h h':cy) (names:List (Str×lh)) (acc cs:List (Str×ai)):Prop where
 cases:∀x c,cs.lookup x=some c->acc.lookup x=some c∨(h.objs.size<=c/\h'.IsCell c none/\(x,du)∈names)
 own:∀x,(x,du)∈names->∃c,cs.lookup x=some c
 old:∀x,(x,du)∉names->cs.lookup x=acc.lookup x
 inj:(∀x y c,acc.lookup x=some c->acc.lookup y=some c->x=y)->(∀x c,acc.lookup x=some c->c<h.objs.size)->∀x y c,cs.lookup x=some c->cs.lookup y=some c->x=y
theorem tI:∀(names:List (Str×lh)) (h:cy) (acc:List (Str×ai)),BlkCells h (pushCells h names) names acc (cellsFrom h.objs.size names acc)
 | [],h,acc=>{ cases:=λ_ _ e=>.inl e,own:=λ_ z=>(nomatch z),old:=λ_ _=>rfl,inj:=λa _=>a }
 |(y,k)::r,h,acc=>by
  cases hk:k==du with
  |true=>
   have ek:k=.cell:=by cases k <;> first|rfl|cases hk
   subst ek;have ih:=tI r (h.push { cls:=.type "cell",data:=.cell none }) ((y,h.objs.size)::acc);have e1:pushCells h ((y,du)::r)=pushCells (h.push { cls:=.type "cell",data:=.cell none }) r:=rfl;have e2:cellsFrom h.objs.size ((y,du)::r) acc=cellsFrom (h.push { cls:=.type "cell",data:=.cell none }).objs.size r ((y,h.objs.size)::acc):=by rw[gh];rfl
   rw[e1,e2];have look:∀x,((y,h.objs.size)::acc).lookup x=if x=y then some h.objs.size else acc.lookup x:=λx=>wI ..
   refine⟨λx c e=>?_,λx hx=>?_,λx hx=>?_,λh1 h2 x z c ex ez=>?_⟩
   ·rcases ih.cases x c e with q|⟨q1,q2,q3⟩
    ·rw[look]at q
     by_cases exy:x=y
     ·rw[if_pos exy]at q;cases q;refine .inr ⟨ak _,⟨_,qr r _ _ _ (bc _ rfl),rfl⟩,by rw[exy];exact bf ..⟩
     ·rw[if_neg exy]at q;exact .inl q
    ·rw[gh]at q1;exact .inr ⟨Nat.le_of_succ_le q1,q2,ar _ q3⟩
   ·by_cases hr:(x,du)∈r
    ·exact ih.own x hr
    ·rw[ih.old x hr,look]
     rcases az.mp hx with z|z
     ·cases z;exact⟨_,if_pos rfl⟩
     ·exact absurd z hr
   ·rw[ih.old x λz=>hx (ar _ z),look,if_neg]
    rintro rfl
    exact hx (bf ..)
   ·refine ih.inj ?_ ?_ x z c ex ez
    ·intro a b c ea eb;rw[look]at ea eb
     by_cases qa:a=y
     ·rw[if_pos qa]at ea;cases ea
      by_cases qb:b=y
      ·exact qa.trans qb.symm
      ·rw[if_neg qb]at eb;exact absurd (h2 b _ eb) (gz _)
     ·rw[if_neg qa]at ea
      by_cases qb:b=y
      ·rw[if_pos qb]at eb;cases eb;exact absurd (h2 a _ ea) (gz _)
      ·rw[if_neg qb]at eb;exact h1 a b c ea eb
    ·intro a c ea;rw[gh];rw[look]at ea
     by_cases qa:a=y
     ·rw[if_pos qa]at ea;cases ea;exact jy _
     ·rw[if_neg qa]at ea;exact ki (h2 a c ea)
  |false=>
   have ih:=tI r h acc;have e1:pushCells h ((y,k)::r)=pushCells h r:=by rw[pushCells,hk];rfl
   have e2:cellsFrom h.objs.size ((y,k)::r) acc=cellsFrom h.objs.size r acc:=by rw[cellsFrom,hk];rfl
   rw[e1,e2];have nk:∀x,(x,du)∈(y,k)::r->(x,du)∈r:=λx z=>by
    rcases az.mp z with z|z
    ·cases z;simp at hk
    ·exact z
   exact⟨λx c e=>(ih.cases x c e).imp id λ⟨a,b,c⟩=>⟨a,b,ar _ c⟩,λx hx=>ih.own x (nk x hx),λx hx=>ih.old x λz=>hx (ar _ z),ih.inj⟩
def IC (scope:gq) (env:Env) (L:ai):Env:={ scope:=relabel scope env,locals:=L,globals:=env.globals,cells:=cellsFrom (L+1) scope.names (dC env scope.names []),qual:=env.qual,func:=none,code:=env.code,frame:=env.frame,builtins:=env.builtins }
theorem UP {M:yf}{A:bw}{E:af->ag->Prop}{s:ag}{scope:gq}{env:Env}{cl:List (Str×ai)}{qual:Str}{g:ai}{Q:Env->ag->Prop}
  (h:Q { scope:=scope,locals:=s.heap.objs.size,globals:=g,cells:=cellsFrom (s.heap.objs.size+1) scope.names cl,qual:=qual,func:=none,code:=env.code,frame:=env.frame,builtins:=env.builtins }
   { s with heap:=pushCells (s.heap.push { cls:=.type "dict",data:=.dict #[] }) scope.names }):
  wpAny M A (newFunctionEnv scope g cl [] qual none .none (some env)) Q E s:=by
 simp only[newFunctionEnv,An,if_true];refine aa (wpAny_alloc ?_);refine aa (wpAny_layCells _ (λname kind cells=>by cases hkc:kind==du <;> simp[hkc]) _ _ _ _ ?_);rw[show({ s with heap:=s.heap.push { cls:=.type "dict",data:=.dict #[] } }:ag).heap.objs.size=s.heap.objs.size+1 from gh ..];exact aa (ah (ah h))
def bV (X:Cx) (scope:gq) (N:Bf) (s:ag) (H:Hp) (ex:List ai):Cx:={ X with N:=N,s₀:=s,H₀:=H,env:=IC scope X.env s.heap.objs.size,outer:=X.stack,stack:=X.stack,ex:=ex,fn:=λx=>scope.names.lookup x==some .cell,xe:=λ_ _=>False }
def qW (cap:List (Option Nat)) (σ:St):St:=cap.map λo=>match o with|some j=>(σ[j]?).getD none|none=>none
structure Ci (X:Cx) (scope:gq) (N:Bf) (cap:List (Option Nat)):Prop where
 kind:scope.kind=.function
 nd:∀x∈scope.names,x.2=.local->scope.names.lookup x.1=some .local
 len:cap.length=N.length
 free:∀x,(x,bz)∈scope.names->X.env.kindOf x=some .cell∨X.env.kindOf x=some .free
 apart:∀x,(x,bz)∈scope.names->(x,du)∉scope.names
 cap:∀(i j:Nat) (x:Str),cap[i]?=some (some j)->N[i]?=some x->X.N[j]?=some x/\(x,bz)∈scope.names/\(relabel scope X.env).names.lookup x≠some .local
theorem BE {scope:gq}{env:Env}{x:Str}:∀{l:List (Str×lh)}{k:lh},(l.map λ(n,k)=>if(k==bz&&env.scope.kind==.function&&env.kindOf n==some .cell)then(n,du)else(n,k)).lookup x=some k->
  (x,k)∈l∨(k=.cell/\(x,bz)∈l)
 | [],_,h=>by simp at h
 |(n,q)::r,k,h=>by
  have ih:=@BE scope env x r k;rw[da]at h
  by_cases hc:(q==bz&&env.scope.kind==.function&&env.kindOf n==some .cell)=true
  ·have hq:q=.free:=by
    have:(q==bz)=true:=by
     cases z:q==bz with
     |true=>rfl
     |false=>rw[z]at hc;simp at hc
    cases q <;> first|rfl|cases this
   dsimp only at h;rw[if_pos hc,iw]at h
   cases e:x==n with
   |true=>rw[e]at h;have h':du=k:=cn h;subst h';have ex:=beq_iff_eq.mp e;subst ex;subst hq;exact .inr ⟨rfl,bf ..⟩
   |false=>rw[e]at h;exact(ih h).imp (ar _) λ⟨a,b⟩=>⟨a,ar _ b⟩
  ·dsimp only at h;rw[if_neg hc,iw]at h
   cases e:x==n with
   |true=>rw[e]at h;have h':q=k:=cn h;subst h';have ex:=beq_iff_eq.mp e;subst ex;exact .inl (bf ..)
   |false=>rw[e]at h;exact(ih h).imp (ar _) λ⟨a,b⟩=>⟨a,ar _ b⟩
theorem wK {env:Env}{x:Str}{c:ai}:∀(l:List (Str×lh)) (acc:List (Str×ai)),(dC env l acc).lookup x=some c->acc.lookup x=some c∨((x,bz)∈l/\c=(env.cells.lookup x).getD 0)
 | [],acc,h=>.inl h
 |(y,k)::l,acc,h=>by
  rw[dC]at h
  cases hk:k==bz with
  |true=>
   have ek:k=.free:=by cases k <;> first|rfl|cases hk
   subst ek;rw[if_pos hk]at h
   rcases wK l _ h with q|⟨q1,q2⟩
   ·rw[wI]at q
    by_cases e:x=y
    ·rw[if_pos e]at q;subst e;exact .inr ⟨bf ..,(cn q).symm⟩
    ·rw[if_neg e]at q;exact .inl q
   ·exact .inr ⟨ar _ q1,q2⟩
  |false=>rw[if_neg (by rw[hk];exact gy)]at h;exact(wK l _ h).imp id λ⟨a,b⟩=>⟨ar _ a,b⟩
section
variable{X:Cx}{pins:List (ai×Obj)}{σ:St}{H:Hp}{s:ag}{scope:gq}{N:Bf}{cap:List (Option Nat)}{ex:List ai}
theorem wL (I:Inv X pins σ H s) (C:Ci X scope N cap) {x:Str}{c:ai}(e:(dC X.env scope.names []).lookup x=some c):(x,bz)∈scope.names/\X.env.cells.lookup x=some c:=by
 rcases wK _ _ e with q|⟨q1,q2⟩
 ·cases q
 ·obtain⟨c',h'⟩:=I.ok.has x (C.free x q1);rw[h']at q2;subst q2;exact⟨q1,h'⟩
theorem wM (I:Inv X pins σ H s) (C:Ci X scope N cap) {x:Str}{c:ai}(e:(IC scope X.env s.heap.objs.size).cells.lookup x=some c):
  (X.env.cells.lookup x=some c/\(x,bz)∈scope.names)∨(s.heap.objs.size<c/\(pushCells (s.heap.push { cls:=.type "dict",data:=.dict #[] }) scope.names).IsCell c none/\(x,du)∈scope.names):=by
 have B:=tI scope.names (s.heap.push { cls:=.type "dict",data:=.dict #[] }) (dC X.env scope.names []);rw[gh]at B
 rcases B.cases x c e with q|⟨q1,q2,q3⟩
 ·obtain⟨a,b⟩:=wL I C q;exact .inl ⟨b,a⟩
 ·rw[gh]at q1;exact .inr ⟨q1,q2,q3⟩
theorem ID (I:Inv X pins σ H s) (C:Ci X scope N cap) (hex:∀b∈ex,cZ X pins H b/\b<s.heap.objs.size):(bV X scope N s H ex).Ok:=by
 have B:=tI scope.names (s.heap.push { cls:=.type "dict",data:=.dict #[] }) (dC X.env scope.names []);rw[gh]at B;have kf:∀x,(x,bz)∈scope.names->∃c,X.env.cells.lookup x=some c:=λx hx=>I.ok.has x (C.free x hx);refine⟨I.ok.mod,C.kind,I.ok.glob,I.ok.blt,ak _, ?_, ?_, ?_,I.ok.hd,I.ok.frames,.inl rfl, ?_,I.bs,cz I.ok.bsz I.sz, ?_, ?_,I.stack,I.stkFree⟩
 ·refine B.inj (λx y c e1 e2=>?_) λx c e=>?_
  ·exact I.ok.inj x y c (wL I C e1).2 (wL I C e2).2
  ·obtain⟨v,q⟩:=I.cell x c (wL I C e).2;rw[gh];exact ki q.lt
 ·intro x hx;have Fp:(relabel scope X.env).names.lookup x=some .cell∨(relabel scope X.env).names.lookup x=some .free:=hx;have mem:(x,du)∈scope.names∨(x,bz)∈scope.names:=by
   rcases Fp with h|h
   ·rcases BE (scope:=scope) h with q|⟨_,q⟩
    ·exact .inl q
    ·exact .inr q
   ·rcases BE (scope:=scope) h with q|⟨z,q⟩
    ·exact .inr q
    ·exact .inr q
  by_cases hc:(x,du)∈scope.names
  ·exact B.own x hc
  ·rcases mem with h|h
   ·exact absurd h hc
   ·exact⟨_,(B.old x hc).trans (tH _ _ (.inl h))⟩
 ·intro x c hf e;have hf':(scope.names.lookup x==some .cell)=true:=hf;have hm:(x,du)∈scope.names:=fw (eq_of_beq hf')
  rcases wM I C e with⟨_,q⟩|⟨q,_⟩
  ·exact absurd hm (C.apart x q)
  ·exact gu q
 ·intro b hb;obtain⟨⟨f0,f1,f2,f3,f4,f5⟩,hlt⟩:=hex b hb;refine⟨ay hlt,λx c e z=>?_⟩
  rcases wM I C e with⟨q,_⟩|⟨q,_⟩
  ·exact f4 x c q z
  ·subst z;exact gz _ (Nat.lt_trans q hlt)
 ·intro b o e hb;obtain⟨⟨f0,f1,f2,f3,f4,f5⟩,hlt⟩:=hex b hb
  rcases f3 with q|q
  ·exact I.ok.noex b o e q
  ·exact gz _ (au (aq e) (cz I.ok.bsz q))
 ·intro b hb z;obtain⟨⟨f0,f1,f2,f3,f4,f5⟩,hlt⟩:=hex b hb
  rcases az.mp (I.stkSub b z)with q|q
  ·exact f1 q
  ·exact f2 q
theorem UQ (I:Inv X pins σ H s) (C:Ci X scope N cap) (hex:∀b∈ex,cZ X pins H b/\b<s.heap.objs.size):
  Inv (bV X scope N s H ex) pins (qW cap σ) H { s with heap:=pushCells (s.heap.push { cls:=.type "dict",data:=.dict #[] }) scope.names }:=by
 have B:=tI scope.names (s.heap.push { cls:=.type "dict",data:=.dict #[] }) (dC X.env scope.names []);rw[gh]at B;have kp:∀b o,s.heap.get? b=some o->(pushCells (s.heap.push { cls:=.type "dict",data:=.dict #[] }) scope.names).get? b=some o:=λb o e=>qr _ _ _ _ (aj _ e);have ns:(pushCells (s.heap.push { cls:=.type "dict",data:=.dict #[] }) scope.names).Ns s.heap.objs.size (λ_=>none):=⟨_,#[],_,qr _ _ _ _ (bc _ rfl),rfl,(λe he=>absurd he (by simp)),λ_=>rfl⟩
 obtain⟨m,hn,hl⟩:=I.loc;refine⟨ID I C hex,rfl,I.bare,Un.kept kp,⟨_,ns,λi x v h1 h2 h3=>?_⟩,λx c e=>?_,I.hok.fresh (ak _),λx c e=>?_,λp hp=>?_,I.hok.kept kp, ?_⟩
 ·have h2':(cap.map λo=>match o with|some j=>(σ[j]?).getD none|none=>none)[i]?=some (some v):=h2;rw[dj]at h2'
  cases q:cap[i]? with
  |none=>rw[q]at h2';cases h2'
  |some o=>
   rw[q]at h2'
   cases o with
   |none=>cases h2'
   |some j=>
    have e1:(σ[j]?).getD none=some v:=cn h2';have e2:σ[j]?=some (some v):=by
     cases z:σ[j]? with
     |none=>rw[z]at e1;cases e1
     |some w=>rw[z]at e1;exact congrArg some e1
    obtain⟨c1,c2,c3⟩:=C.cap i j x q h1;have vis:mP X.env.scope x:=by
     rcases C.free x c2 with z|z
     ·exact .inr (.inl z)
     ·exact .inr (.inr z)
    obtain⟨u,r,l⟩:=hl j x v c1 e2 vis;refine⟨u,r, ?_⟩
    rcases l with⟨hk,hm⟩|⟨hk,c,hc,hcell⟩
    ·rcases C.free x c2 with z|z
     ·rw[z]at hk;cases hk
     ·rw[z]at hk;cases hk
    ·refine .inr ⟨?_,c, ?_, ?_⟩
     ·have h3':mP (relabel scope X.env) x:=h3
      rcases h3' with z|z|z
      ·exact absurd z c3
      ·exact .inl z
      ·exact .inr z
     ·have:=(B.old x (C.apart x c2)).trans (tH _ _ (.inl c2));rw[hc]at this;exact this
     ·obtain⟨o,ho,hd⟩:=hcell;exact⟨o,kp _ _ ho,hd⟩
 ·rcases wM I C e with⟨q,_⟩|⟨_,q,_⟩
  ·obtain⟨v,o,ho,hd⟩:=I.cell x c q;exact⟨v,o,kp _ _ ho,hd⟩
  ·exact⟨none,q⟩
 ·rcases wM I C e with⟨q,_⟩|⟨q,_⟩
  ·exact I.freeC x c q
  ·exact I.hok.fresh (gu q)
 ·obtain⟨a1,a2,a3,a4,a5⟩:=I.pin p hp;refine⟨kp _ _ a1,a2,ay (aq a1),λz=>?_,a5⟩
  rcases az.mp (I.stkSub _ z)with q|q
  ·exact a3 q
  ·exact a4 q
 ·show(cap.map _).length=N.length;rw[bg];exact C.len
theorem UR (I:Inv X pins σ H s) (C:Ci X scope N cap) (hex:∀b∈ex,cZ X pins H b/\b<s.heap.objs.size):∀b∈ex,cZ (bV X scope N s H ex) pins H b:=by intro b hb;obtain⟨⟨f0,f1,f2,f3,f4,f5⟩,hlt⟩:=hex b hb;have ok:=ID (N:=N) I C hex;exact⟨f0,(ok.exf b hb).1,ok.exfs b hb,.inl hb,(ok.exf b hb).2,f5⟩
theorem US {σ':St}{H':Hp}{s':ag}{h':cy}(I:Inv X pins σ H s) (hex:∀b∈ex,cZ X pins H b/\b<s.heap.objs.size) (I':Inv (bV X scope N s H ex) pins σ' H' s') (hh:ja s.heap.objs.size s'.heap h'):
  Inv X pins σ H' { s' with heap:=h' }:=by
 have u:Un (dN X.stack) ex H H' s.heap s'.heap:=I'.base;have up:∀b o o',s.heap.get? b=some o->s'.heap.get? b=some o'->h'.get? b=some o':=λb o o' e e'=>(hh.2 b (ay (aq e))).trans e';have hL:H' s.heap.objs.size=none:=I'.free;refine I.call' (s':={ s' with heap:=h' }) (ch:=ex) I'.os ⟨λb o q n hb hx=>up b o o q (u.keep b o q n hb hx),λb o q n hb hx=>?_,u.free,λb o q hx=>?_,u.tups,u.frzs,u.tbls⟩ (λb o e=>?_) I'.bare λb hb=>?_
 ·obtain⟨sl,e⟩:=u.slot b o q n hb hx;exact⟨sl,up b o _ q e⟩
 ·obtain⟨o',e⟩:=u.there b o q hx;exact⟨o',up b o _ q e⟩
 ·refine(I'.hok b o e).stay (λc v hc q=>(hh.2 c ?_).trans q) (λ_ q=>q) λ_ _ q=>q
  rcases hc with z|z
  ·rw[z];rintro rfl;rw[hL]at e;cases e
  ·rintro rfl;rw[hL]at z;cases z
 ·obtain⟨⟨f0,f1,f2,f3,f4,f5⟩,hlt⟩:=hex b hb;exact⟨f3,f1,f4,f5⟩
theorem Inv.adopt {a:ai}{o:HO}(I:Inv X pins σ H s) (f:cZ X pins H a) (ha:X.s₀.heap.objs.size<=a) (new:Br X.prog X.w (upd H a o) s.heap a o):Inv X pins σ (upd H a o) s:=by
 obtain⟨f0,f1,f2,f3,f4,f5⟩:=f;have ne0:∀b ob,X.s₀.heap.get? b=some ob->b≠a:=λb ob e z=>by subst z;exact gz _ (au (aq e) ha)
 refine⟨I.ok,I.os,I.bare,⟨I.base.keep,I.base.slot,λb ob e n hx=>by rw[bU (ne0 b ob e)];exact I.base.free b ob e n hx,I.base.there,λb xs e=>?_,λb ob u e=>?_,λb ps e=>?_⟩,I.loc,I.cell,by rw[bU (de f1)];exact I.free,
  λx c e=>by rw[bU (f4 x c e)];exact I.freeC x c e,λp hp=>?_,λb u e=>?_,I.len⟩
 ·have:=I.base.tups b xs e;rw[bU (fW this f0)];exact this
 ·have:=I.base.frzs b ob u e;rw[bU (fW this f0)];exact this
 ·obtain⟨more,this⟩:=I.base.tbls b ps e;exact⟨more,by rw[bU (fW this f0)];exact this⟩
 ·obtain⟨a1,a2,a3,a4,a5⟩:=I.pin p hp;exact⟨a1,by rw[bU (f5 p hp)];exact a2,a3,a4,a5⟩
 ·by_cases hb:b=a
  ·subst hb;rw[cR]at e;cases e;exact new
  ·rw[bU hb]at e;exact(I.hok b u e).stay (λ_ _ _ q=>q) (λc q=>by rw[bU (fW q f0)];exact q) λc xs q=>by rw[bU (fW q f0)];exact q
end
def AccAt (s:ag) (D:ai) (xs:Hf):Prop:=xs.length<=cb/\∃(its:List af) (n:Nat),Bp xs its/\s.heap.get? D=some { cls:=.type "list",data:=.seq its.toArray n }
abbrev TC:=St->Hp->Hf->(St->Hp->Hf->Prop)->Prop
def Ff (X:Cx) (D:ai) (m:Sem Unit) (t:TC):Prop:=
 ∀(pins:List (ai×Obj)) (s:ag) (σ:St) (H:Hp) (xs:Hf) (K:St->Hp->Hf->Prop),Inv X pins σ H s->AccAt s D xs->cZ X pins H D->t σ H xs K->
  wpAny (model X.prog X.w) X.A m (λ_ s'=>∃σ' H' xs',Inv X pins σ' H' s'/\AccAt s' D xs'/\H' D=none/\K σ' H' xs') X.xe s
section
variable{X:Cx}{D:ai}
theorem AccAt.obj {s:ag}{xs:Hf}(a:AccAt s D xs):∃o,s.heap.get? D=some o/\∀v,o.data≠.cell v:=by obtain⟨_,its,n,_,e⟩:=a;exact⟨_,e,λv z=>nomatch z⟩
theorem Inv.pinD {pins:List (ai×Obj)}{s:ag}{σ:St}{H:Hp}{xs:Hf}(I:Inv X pins σ H s) (a:AccAt s D xs) (f:cZ X pins H D):Inv X (pins++jT [D] s.heap) σ H s:=
 I.pinned (λb hb=>by (have e:b=D:=by simpa using hb);subst e;exact f) λb hb=>by
  have e:b=D:=by simpa using hb
  subst e;exact a.obj
theorem Inv.atD {pins:List (ai×Obj)}{s s':ag}{σ':St}{H':Hp}{xs:Hf}(a:AccAt s D xs) (I:Inv X (pins++jT [D] s.heap) σ' H' s'):AccAt s' D xs/\H' D=none:=by obtain⟨z,its,n,r,e⟩:=a;have:=I.pin (D,_) (ck _ (ck _ (qS (by simp) e)));exact⟨⟨z,its,n,r,this.1⟩,this.2.1⟩
def wN (te:TE):TC:=λσ H xs K=>te σ H λv H1=>xs.length<cb/\K σ H1 (xs++[v])
theorem tJ {elt:bj}{te:TE}(he:PE X elt te):Ff X D (do let x <-eval elt X.env;let _ <-call (.builtin "list.append") [.ref D,x];pure ()) (wN te):=by
 intro pins s σ H xs K I a f h;refine aa (aW (he _ s σ H _ (I.pinD a f) h) λu s1 ⟨v,H1,I1,r1,hz,q1⟩=>?_);obtain⟨a1,n1⟩:=Inv.atD a I1;have I1':=I1.unpinned;obtain⟨z,its,n,r,e⟩:=a1;have hl:=r.length;refine aa (ve F.slot_list_append ⟨_,e,rfl⟩ F.entry_list_append (F.args_list_append_2 _ _) (PySem.list_append D its.toArray n u (by rw[av];omega)) ⟨e, ?_⟩);have q:=Ae e (·.push u);have e2:its.toArray.push u=(its++[u]).toArray:=by simp
 rw[e2]at q;refine ah ⟨σ,H1,xs++[v], ?_,⟨by rw[bx,uv];omega,its++[u],_,r.append (.cons r1 .nil),q⟩,n1,q1⟩;obtain⟨f0,f1,f2,f3,f4,f5⟩:=f;exact I1'.turned (t':=s1.toks) (λb o hb z=>(oj s1.heap _ (de hb)).trans z) n1 f1 f3 f4 f5
def IE (ifs:List bj) (env:Env):Sem Bool:=forIn ifs true λc r=>if r=true then do let ok <-isTrue c env (eval c env);pure (sf ok)else pure (sf r)
def PTs (X:Cx) (ifs:List bj) (t:TT):Prop:=∀(pins:List (ai×Obj)) (s:ag) (σ:St) (H:Hp) (Q:Bool->Hp->Prop),Inv X pins σ H s->t σ H Q->wpAny (model X.prog X.w) X.A (IE ifs X.env) (TP X pins σ Q) X.xe s
def IF:TT:=λ_ H Q=>Q true H
theorem IG:PTs X [] IF:=λpins s σ H Q I h=>wpAny_tests_nil ⟨H,I,h⟩
theorem UT {c:bj}{t:TT}(h:PT X c t):PTs X [c] t:=λpins s σ H Q I q=>wpAny_tests_one (h pins s σ H Q I q)
def kN (p:Pos) (it:af) (tg:bj) (ifs:List bj) (env:Env) (inner:Sem Unit) (c:Code):Sem PySem.Fin:=do
 standAt p
 match <-pyNext it with
 |none=>pure (.done .next)
 |some v=>do
  letOwnedTupleGo tg it v
  assign tg env v
  let ok <-IE ifs env
  if ok=true then do inner;again c
  else again c
def qX (J:It) (g:TG) (tt:TT) (inner:TC) (K:St->Hp->Hf->Prop) (σ:St) (H:Hp) (xs:Hf):Prop:=
 ∃W:Nat->Nat->St->Hp->Hf->Prop,(∃m,W 0 m σ H xs)/\∀i m σ H xs,W i m σ H xs->
  (J.stop i H/\K σ H xs)∨(J.go i H/\∃N:St->Hp->Hf->Prop,(∀σ' H' xs',N σ' H' xs'->∃m',m'<m/\W (i+1) m' σ' H' xs') /\
   ∀x H',J.yld i H x H'->g x σ H' λσ2 H2=>tt σ2 H2 λb H3=>if b=true then inner σ2 H3 xs N else N σ2 H3 xs)
theorem IH {elt:bj}{gens:List jo}{sc:gq}{ps:Pos}{d:Nat}{it:ai}{tg:bj}{ifs:List bj}{p:Pos}{inner:Sem Unit}{g:TG}{tt:TT}{ti:TC}{J:It}{fp:List ai}{tn:Nat->cy->Prop}
  (hx:X.xe=λ_ _=>False) (hc:X.calm=true)
  (ht:compTurn (.ListComp elt gens sc ps) d (.ref it) (.ref D) X.env=kN p (.ref it) tg ifs X.env inner (.compLoop (.ListComp elt gens sc ps) d (.ref it) (.ref D) X.env))
  (hg:PG X tg g) (En:PTs X ifs tt) (hi:Ff X D inner ti) (T:Turn X.prog X.w X.K tg J fp it tn)
  {pins:List (ai×Obj)}{s:ag}{σ:St}{H:Hp}{xs:Hf}{K:St->Hp->Hf->Prop}{R:xq->ag->Prop}(I:Inv X pins σ H s) (a:AccAt s D xs) (f:cZ X pins H D) (st:tn 0 s.heap) (hf:∀b∈fp,cZ X pins H b) (hD:D∉fp)
  (h:qX J g tt ti K σ H xs) (hR:∀σ' H' xs' s',Inv X pins σ' H' s'->AccAt s' D xs'->H' D=none->K σ' H' xs'->R (.ok .next) s'):
  codeAny (model X.prog X.w) X.A (.compLoop (.ListComp elt gens sc ps) d (.ref it) (.ref D) X.env) R s:=by
 obtain⟨W,⟨m0,w0⟩,turn⟩:=h;have stat:∀{H':Hp},(∀b∈fp,H' b=none)->∀b∈fp,cZ X pins H' b:=λhn b hb=>⟨hn b hb,(hf b hb).2⟩
 have statD:∀{H':Hp},H' D=none->cZ X pins H' D:=λhn=>⟨hn,f.2⟩
 refine codeAny_loop rfl (λn s'=>∃i σ' H' xs',Inv X pins σ' H' s'/\AccAt s' D xs'/\H' D=none/\tn i s'.heap/\(∀b∈fp,H' b=none)/\W i n σ' H' xs') ?_ m0 ⟨0,σ,H,xs,I,a,f.1,st,λb hb=>(hf b hb).1,w0⟩
 rintro n s3 ⟨i,σ3,H3,xs3,I3,a3,n3,st3,fr3,w3⟩
 show wpAny _ X.A ((compTurn (.ListComp elt gens sc ps) d (.ref it) (.ref D) X.env).onRaise (λx=>do noteFrame x X.env;theTreesLotGoes x)) _ _ s3;rw[ht];refine ui (kn (Q:=λfin s'=>match fin with | .done f=>R (.ok f) s' | .again c'=>c'=.compLoop (.ListComp elt gens sc ps) d (.ref it) (.ref D) X.env/\∃m,m<n/\∃i σ' H' xs',Inv X pins σ' H' s'/\AccAt s' D xs'/\H' D=none/\tn i s'.heap/\(∀b∈fp,H' b=none)/\W i m σ' H' xs') (E:=λ_ _=>False) ?_ (λ_ _ z=>z) λ_ _ z=>z.elim);unfold kN;refine aa (qg (aa ?_));have xe':∀{α:Type}{m:Sem α}{Q:α->ag->Prop}{s:ag},wpAny (model X.prog X.w) X.A m Q X.xe s->wpAny (model X.prog X.w) X.A m Q (λ_ _=>False) s:=λ{α m Q s} z=>by rw[hx]at z;exact z
 have I3':=I3.pinD a3 (statD n3);have fr3':∀b∈fp,cZ X (pins++jT [D] s3.heap) H3 b:=λb hb=>by
  obtain⟨g0,g1,g2,g3,g4,g5⟩:=stat fr3 b hb;refine⟨g0,g1,g2,g3,g4,λp hp=>?_⟩
  rcases br.mp hp with z|z
  ·exact g5 p (fh _ z)
  ·rcases br.mp z with z|z
   ·exact g5 p (ck _ z)
   ·have:=(A0 z).1;have e:p.1=D:=by simpa using this
    rw[e];rintro rfl;exact hD hb
 rcases turn i n σ3 H3 xs3 w3 with⟨stop,qn⟩|⟨go,N,hN,step⟩
 ·refine aW (T.done X rfl rfl rfl hc i _ s3 σ3 H3 (λ_ _=>False) I3' fr3' st3 stop) λr s4 ⟨hr,I4⟩=>?_;subst hr;obtain⟨a4,n4⟩:=Inv.atD a3 I4;exact ah (hR σ3 H3 xs3 s4 I4.unpinned a4 n4 qn)
 ·refine aW (T.item X rfl rfl rfl hc i _ s3 σ3 H3 (λ_ _=>False) I3' fr3' st3 go) λr s4 ⟨u,hr,h4⟩=>?_;subst hr;refine aa (aW h4 λ_ s5 ⟨x,H5,I5,r5,y5,st5,fr5⟩=>?_);obtain⟨a5,n5⟩:=Inv.atD a3 I5;have I5u:=I5.unpinned;have I5p:=I5u.pinned (stat fr5) (T.obj _ _ st5);have fD5:cZ X (pins++jT fp s5.heap) H5 D:=by
   obtain⟨g0,g1,g2,g3,g4,g5⟩:=statD n5;refine⟨g0,g1,g2,g3,g4,λp hp=>?_⟩
   rcases br.mp hp with z|z
   ·exact g5 p (fh _ z)
   ·rcases br.mp z with z|z
    ·exact g5 p (ck _ z)
    ·rintro rfl;exact hD (A0 z).1
  have I5':=I5p.pinD a5 fD5;refine aa (xe' (aW (hg _ s5 σ3 H5 x u _ I5' r5 (step x H5 y5)) λ_ s6 ⟨σ6,H6,I6,q6⟩=>?_));obtain⟨a6,n6⟩:=Inv.atD a5 I6;have pin':∀{s σ H},Inv X (pins++jT fp s5.heap) σ H s->tn (i+1) s.heap/\∀b∈fp,H b=none:=λ{s σ H} J=>by refine⟨T.keep _ _ _ st5 λb hb o e=>(J.pin (b,o) (ck _ (ck _ (qS hb e)))).1,λb hb=>?_⟩;obtain⟨o,e,d⟩:=T.obj _ _ st5 b hb;exact(J.pin (b,o) (ck _ (ck _ (qS hb e)))).2.1
  have fD6:cZ X (pins++jT fp s5.heap) H6 D:=⟨n6,fD5.2⟩
  have I6u:=I6.unpinned;have I6p:=I6u.pinD a6 fD6;refine aa (xe' (aW (En _ s6 σ6 H6 _ I6p q6) λb s7 ⟨H7,I7,q7⟩=>?_));obtain⟨a7,n7⟩:=Inv.atD a6 I7;have I7u:=I7.unpinned;have fin:∀{s8 σ8 H8 xs8},Inv X (pins++jT fp s5.heap) σ8 H8 s8->AccAt s8 D xs8->H8 D=none->N σ8 H8 xs8->
    ∃m,m<n/\∃i σ' H' xs',Inv X pins σ' H' s8/\AccAt s8 D xs'/\H' D=none/\tn i s8.heap/\(∀b∈fp,H' b=none)/\W i m σ' H' xs':=λ{s8 σ8 H8 xs8} J a8 n8 q8=>by
   obtain⟨m',hm,w8⟩:=hN σ8 H8 xs8 q8;obtain⟨t8,fr8⟩:=pin' J;exact⟨m',hm,i+1,σ8,H8,xs8,J.unpinned,a8,n8,t8,fr8,w8⟩
  cases b with
  |true=>
   rw[if_pos rfl]at q7 ⊢;have fD7:cZ X (pins++jT fp s5.heap) H7 D:=⟨n7,fD5.2⟩
   refine aa (xe' (aW (hi _ s7 σ6 H7 xs3 N I7u a7 fD7 q7) λ_ s8 ⟨σ8,H8,xs8,I8,a8,n8,q8⟩=>?_));exact ah ⟨rfl,fin I8 a8 n8 q8⟩
  |false=>rw[if_neg gy]at q7 ⊢;exact ah ⟨rfl,fin I7u a7 n7 q7⟩
end
theorem BF (elt tg iter:bj) (ifs:List bj) (sc:gq) (ps:Pos) (it:af) (D:ai) (env:Env):
  compTurn (.ListComp elt [⟨tg,iter,ifs,0⟩] sc ps) 0 it (.ref D) env =
   kN iter.pos it tg ifs env (do let x <-eval elt env;let _ <-call (.builtin "list.append") [.ref D,x];pure ()) (.compLoop (.ListComp elt [⟨tg,iter,ifs,0⟩] sc ps) 0 it (.ref D) env):=by rfl
def qY (iter:bj) (e:bj) (d:Nat) (D:ai) (env:Env):Sem Unit:=do
 let x <-eval iter env
 standAt iter.pos
 let x <-foldedSetIterable iter env x
 let it <-holding [x] (pyIter x)
 let _ <-runOwn (.compStart e d it (.ref D) env) env
 pure ()
theorem II (elt tg iter Dr Bz:bj) (ifs Co:List bj) (sc:gq) (ps:Pos) (it:af) (D:ai) (env:Env):
  compTurn (.ListComp elt [⟨tg,iter,ifs,0⟩,⟨Dr,Bz,Co,0⟩] sc ps) 0 it (.ref D) env =
   kN iter.pos it tg ifs env (qY Bz (.ListComp elt [⟨tg,iter,ifs,0⟩,⟨Dr,Bz,Co,0⟩] sc ps) 1 D env) (.compLoop (.ListComp elt [⟨tg,iter,ifs,0⟩,⟨Dr,Bz,Co,0⟩] sc ps) 0 it (.ref D) env):=by
 unfold kN qY;simp only[bind_assoc,pure_bind];rfl
theorem IJ (elt tg iter Dr Bz:bj) (ifs Co:List bj) (sc:gq) (ps:Pos) (it:af) (D:ai) (env:Env):
  compTurn (.ListComp elt [⟨tg,iter,ifs,0⟩,⟨Dr,Bz,Co,0⟩] sc ps) 1 it (.ref D) env =
   kN Bz.pos it Dr Co env (do let x <-eval elt env;let _ <-call (.builtin "list.append") [.ref D,x];pure ()) (.compLoop (.ListComp elt [⟨tg,iter,ifs,0⟩,⟨Dr,Bz,Co,0⟩] sc ps) 1 it (.ref D) env):=by rfl
section
variable{X:Cx}{D:ai}
theorem IK {prog:bh}{w:cj}{A:bw}{R:xq->ag->Prop}{s:ag}{elt:bj}{gens:List jo}{sc:gq}{ps:Pos}{d:Nat}{it acc:af}{env:Env}(ha:((gens)[d]?).elim false (·.is_async != 0)=false)
  (h0:codeAny (model prog w) A (.compLoop (.ListComp elt gens sc ps) d it acc env) R s)
  (h:wpAny (model prog w) A (pyIter it) (λit' s'=>codeAny (model prog w) A (.compLoop (.ListComp elt gens sc ps) d it' acc env) R s') (λ_ _=>False) s):
  codeAny (model prog w) A (.compStart (.ListComp elt gens sc ps) d it acc env) R s:=by
 refine codeAny_of_tree ?_;show wpAny _ _ ((compStart (.ListComp elt gens sc ps) d it acc env).onRaise (λx=>do noteFrame x env;standAt theWindowsPlace)) _ _ s;refine wpAny_notedAt (kn (E:=λ_ _=>False) ?_ (λ_ _ z=>z) λ_ _ z=>z.elim);unfold compStart;rw[show((clausesOf (.ListComp elt gens sc ps))[d]?).elim false (·.is_async != 0)=false from ha];simp only[cu,if_false];refine aa (nv (wpAny_ite ?_))
 split
 ·first
   |exact aa (ah (ah (And.intro rfl h0)))
   |exact ah (And.intro rfl h0)
 ·have fin:∀s:ag,wpAny (model prog w) A (pyIter it) (λit' s'=>codeAny (model prog w) A (.compLoop (.ListComp elt gens sc ps) d it' acc env) R s') (λ_ _=>False) s->
    wpAny (model prog w) A (do let it' <-pyIter it;again (.compLoop (.ListComp elt gens sc ps) d it' acc env)) (λfin s'=>match fin with | .done f=>R (.ok f) s' | .again c=>c.quiet=true/\codeAny (model prog w) A c R s') (λ_ _=>False) s:=λs h=>aa (kn h (λit' s' h'=>ah ⟨rfl,h'⟩) λ_ _ x=>x)
  refine aa (si ?_);have ec:clausesOf (.ListComp elt gens sc ps)=gens:=rfl;rw[ec]
  cases q:gens[d]? with
  |none=>exact fin s h
  |some g=>exact aa (qg (fin s h))
def IL (wi:TI) (g:TG) (tt:TT) (inner:TC):TC:=λσ H xs K=>wi σ H λJ H1=>qX J g tt inner K σ H1 xs
theorem IM {elt:bj}{gens:List jo}{sc:gq}{ps:Pos}{d:Nat}{tg iter:bj}{ifs:List bj}{inner:Sem Unit}{wi:TI}{g:TG}{tt:TT}{ti:TC}
  (hx:X.xe=λ_ _=>False) (hc:X.calm=true) (ha:((gens)[d]?).elim false (·.is_async != 0)=false)
  (ht:∀it,compTurn (.ListComp elt gens sc ps) d (.ref it) (.ref D) X.env=kN iter.pos (.ref it) tg ifs X.env inner (.compLoop (.ListComp elt gens sc ps) d (.ref it) (.ref D) X.env))
  (hi:PI X tg iter wi) (hg:PG X tg g) (En:PTs X ifs tt) (Dm:Ff X D inner ti) (hs:∀x,foldedSetIterable iter X.env x=pure x):
  Ff X D (qY iter (.ListComp elt gens sc ps) d D X.env) (IL wi g tt ti):=by
 intro pins s σ H xs K I a f h;unfold qY;refine aa (aW (hi _ s σ H _ (I.pinD a f) h) λv s1 h1=>aa (qg (aa (zh (hs v) (aa (gv (aW h1 λitv s2 h2=>?_)))))));obtain⟨it,fp,tn,J,H2,e,I2,T,st2,f2,lp⟩:=h2;subst e;obtain⟨a2,n2⟩:=Inv.atD a I2;have I2u:=I2.unpinned;have hpD:∀b∈fp,b≠D:=λb hb z=>by subst z;obtain⟨_,its,n,_,eo⟩:=a;exact(f2 b hb).2.2.2.2.2 (b,_) (ck _ (ck _ (qS (by simp) eo))) rfl
 have f2u:∀b∈fp,cZ X pins H2 b:=λb hb=>by
  obtain⟨g0,g1,g2,g3,g4,g5⟩:=f2 b hb;exact⟨g0,g1,g2,g3,g4,λp hp=>g5 p (by
   rcases br.mp hp with z|z
   ·exact fh _ z
   ·exact ck _ (fh _ z))⟩
 have fD:cZ X pins H2 D:=⟨n2,f.2⟩
 refine aa (wpAny_runOwn ?_);have loop:codeAny (model X.prog X.w) X.A (.compLoop (.ListComp elt gens sc ps) d (.ref it) (.ref D) X.env) (λr s'=>match r with
   | .ok f=>wpAny (model X.prog X.w) X.A (pure ():Sem Unit) (λ_ s'=>∃σ' H' xs',Inv X pins σ' H' s'/\AccAt s' D xs'/\H' D=none/\K σ' H' xs') X.xe s'
   | .error e=>cameBackBy (model X.prog X.w) X.A X.env X.xe e s') s2:=
  IH hx hc (ht it) hg En Dm T I2u a2 fD st2 f2u (λz=>hpD D z rfl) lp λσ' H' xs' s' I' a' n' k'=>ah ⟨σ',H',xs',I',a',n',k'⟩
 exact IK ha loop (T.self _ 0 s2 _ _ st2 loop)
end
def wO (wi:TI) (cap:List (Option Nat)) (g:TG) (tt:TT) (inner:TC):TE:=λσ H Q=>wi σ H λJ H1=>qX J g tt inner (λ_ H' xs=>∀p,H' p=none->Q (.ref p) (upd H' p (.lst xs))) (qW cap σ) H1 []
section
variable{X:Cx}
theorem BG {elt:bj}{gens:List jo}{sc:gq}{ps:Pos}{tg iter:bj}{ifs:List bj}{rest:List jo}{inner:ai->Env->Sem Unit}{g:TG}{tt:TT}{ti:TC}{N:Bf}{cap:List (Option Nat)}{E:af->ag->Prop}
  (hc:X.calm=true) (C:Ci X sc N cap) (eg:gens=⟨tg,iter,ifs,0⟩::rest)
  (ht:∀it D env,compTurn (.ListComp elt gens sc ps) 0 (.ref it) (.ref D) env=kN iter.pos (.ref it) tg ifs env (inner D env) (.compLoop (.ListComp elt gens sc ps) 0 (.ref it) (.ref D) env))
  (hg:∀s H ex,PG (bV X sc N s H ex) tg g) (En:∀s H ex,PTs (bV X sc N s H ex) ifs tt)
  {pins:List (ai×Obj)}{s2:ag}{σ:St}{H2:Hp}(Dm:∀s ex D,Inv X pins σ H2 s->(∀b∈ex,cZ X pins H2 b/\b<s.heap.objs.size)->Ff (bV X sc N s H2 ex) D (inner D (bV X sc N s H2 ex).env) ti)
  {K:St->Hp->Hf->Prop}{it:ai}{fp:List ai}{tn:Nat->cy->Prop}{J:It}(I2:Inv X pins σ H2 s2) (T:Turn X.prog X.w X.K tg J fp it tn) (st2:tn 0 s2.heap) (f2:∀b∈fp,cZ X pins H2 b)
  (lp:qX J g tt ti K (qW cap σ) H2 []) {R:af->ai->xq->ag->Prop}
  (hR:∀σ' H' xs (s3 s':ag) (C D:ai),X.s₀.heap.objs.size<=D->C=s3.heap.objs.size->(∃m,s'.heap.Ns C m)->AccAt s' D xs->cZ X pins H' D->cZ X pins H' C->D<C->(∀h',ja C s'.heap h'->Inv X pins σ H' { s' with heap:=h' })->K σ' H' xs->R (.ref D) C (.ok .next) s'):
  wpAny (model X.prog X.w) X.A (newList []) (λacc s3=>wpAny (model X.prog X.w) X.A (newFunctionEnv sc X.env.globals (dC X.env sc.names []) [] X.env.qual none .none (some X.env)) (λcenv s4=>codeAny (model X.prog X.w) X.A (.compStart (.ListComp elt gens sc ps) 0 (.ref it) acc { cenv with scope:=relabel sc X.env }) (R acc cenv.locals) s4) E s3) E s2:=by
 refine dk (UP ?_);dsimp only;generalize hs3:({ s2 with heap:=s2.heap.push { cls:=.type "list",dict:=none,data:=.seq ([]:List af).toArray } }:ag)=s3;have kp:∀b o,s2.heap.get? b=some o->s3.heap.get? b=some o:=λb o e=>by rw[<-hs3];exact aj _ e
 have I3:Inv X pins σ H2 s3:=by rw[<-hs3];exact I2.kept (t':=s2.toks) λb o e=>aj _ e
 have eD:s3.heap.get? s2.heap.objs.size=some { cls:=.type "list",data:=.seq ([]:List af).toArray 0 }:=by rw[<-hs3];exact bc _ rfl
 have nD:H2 s2.heap.objs.size=none:=I2.hok.fresh (ak _);have fD:cZ X pins H2 s2.heap.objs.size:=I2.fpOk (ak _) nD;have hlt:s2.heap.objs.size<s3.heap.objs.size:=aq eD;have hex:∀b∈s2.heap.objs.size::fp,cZ X pins H2 b/\b<s3.heap.objs.size:=λb hb=>by
  rcases az.mp hb with rfl|hb
  ·exact⟨fD,hlt⟩
  ·obtain⟨o,e,_⟩:=T.obj 0 _ st2 b hb;exact⟨f2 b hb,aq (kp b o e)⟩
 have hDfp:s2.heap.objs.size∉fp:=λz=>by obtain⟨o,e,_⟩:=T.obj 0 _ st2 _ z;exact gz _ (aq e)
 have I4:=UQ (N:=N) (ex:=s2.heap.objs.size::fp) I3 C hex;have F4:=UR (N:=N) I3 C hex;have st4:tn 0 (pushCells (s3.heap.push { cls:=.type "dict",data:=.dict #[] }) sc.names):=T.keep 0 _ _ st2 λb hb o e=>qr _ _ _ _ (aj _ (kp b o e));have a4:AccAt { s3 with heap:=pushCells (s3.heap.push { cls:=.type "dict",data:=.dict #[] }) sc.names } s2.heap.objs.size []:=⟨gr _,[],0,.nil,qr _ _ _ _ (aj _ eD)⟩
 have loop:codeAny (model X.prog X.w) X.A (.compLoop (.ListComp elt gens sc ps) 0 (.ref it) (.ref s2.heap.objs.size) (bV X sc N s3 H2 (s2.heap.objs.size::fp)).env) (R (.ref s2.heap.objs.size) s3.heap.objs.size)
   { s3 with heap:=pushCells (s3.heap.push { cls:=.type "dict",data:=.dict #[] }) sc.names }:=by
  refine IH (X:=bV X sc N s3 H2 (s2.heap.objs.size::fp)) rfl hc (ht it _ _) (hg _ _ _) (En _ _ _) (Dm _ _ _ I3 hex) T I4 a4 (F4 _ (bf ..)) st4 (λb hb=>F4 b (ar _ hb)) hDfp lp λσ' H' xs' s' I' a' n' k'=>?_;obtain⟨m,hn,_⟩:=I'.loc;exact hR σ' H' xs' s3 s' _ _ (cz I2.sz (ak _)) rfl ⟨m,hn⟩ a' ⟨n',fD.2⟩ (I3.fpOk (ak _) I'.free) hlt (λh' hh=>US I3 hex I' hh) k'
 have ha:((gens)[0]?).elim false (·.is_async != 0)=false:=by rw[eg];rfl
 subst hs3;exact IK ha loop (T.self _ 0 _ _ _ st4 loop)
theorem IP {elt:bj}{gens:List jo}{sc:gq}{ps:Pos}{tg iter:bj}{ifs:List bj}{rest:List jo}{inner:ai->Env->Sem Unit}{wi:TI}{g:TG}{tt:TT}{ti:TC}{N:Bf}{cap:List (Option Nat)}
  (hc:X.calm=true) (C:Ci X sc N cap) (eg:gens=⟨tg,iter,ifs,0⟩::rest)
  (ht:∀it D env,compTurn (.ListComp elt gens sc ps) 0 (.ref it) (.ref D) env=kN iter.pos (.ref it) tg ifs env (inner D env) (.compLoop (.ListComp elt gens sc ps) 0 (.ref it) (.ref D) env))
  (hi:PI X tg iter wi) (hg:∀s H ex,PG (bV X sc N s H ex) tg g) (En:∀s H ex,PTs (bV X sc N s H ex) ifs tt) (Dm:∀s H ex D,Ff (bV X sc N s H ex) D (inner D (bV X sc N s H ex).env) ti)
  (hs:∀x,foldedSetIterable iter X.env x=pure x):PE X (.ListComp elt gens sc ps) (wO wi cap g tt ti):=by
 intro pins s σ H Q I h;rw[eval_ListComp];have hcl:closureFor sc X.env=pure (dC X.env sc.names []):=wJ λx hx=>I.ok.has x (C.free x hx);have e1:firstAsync gens=false:=by rw[eg];rfl
 have e2:firstIter gens X.env=eval iter X.env:=by rw[eg];rfl
 rw[e1,e2];refine uj (use:=none) (g:=⟨tg,iter,ifs,0⟩) (gs:=rest) (by rw[eg];rfl) hs hcl C.kind C.nd (aW (hi pins s σ H _ I h) λv s1 h1=>aW h1 λitv s2 h2=>?_);obtain⟨it,fp,tn,J,H2,e,I2,T,st2,f2,lp⟩:=h2;subst e;refine BG (N:=N) (inner:=inner) (R:=λacc C=>compPost (model X.prog X.w) X.A X.xe none (EP X pins σ Q) acc C) hc C eg ht hg En (λs ex D _ _=>Dm s _ ex D) I2 T st2 f2 lp ?_;intro σ' H' xs s3 s' C D hD0 hC hn a f fC hDC Cz k;obtain⟨m,hn⟩:=hn;refine⟨m,hn,λh' hh=>?_⟩;have I5:=Cz h' hh;obtain⟨hz,its,n,r,eD⟩:=a;have eD':h'.get? D=some { cls:=.type "list",data:=.seq its.toArray n }:=(hh.2 D (ay hDC)).trans eD;refine⟨.ref D,upd H' D (.lst xs),I5.adopt f hD0 ⟨hz,its,n,r,eD'⟩,rfl,k D f.1⟩
theorem UU {elt:bj}{gens:List jo}{sc:gq}{ps:Pos}{tg iter:bj}{ifs:List bj}{rest:List jo}{inner:ai->Env->Sem Unit}{wi:TI}{g:TG}{tt:TT}{ti:St->TC}{N:Bf}{cap:List (Option Nat)}
  (hc:X.calm=true) (C:Ci X sc N cap) (eg:gens=⟨tg,iter,ifs,0⟩::rest)
  (ht:∀it D env,compTurn (.ListComp elt gens sc ps) 0 (.ref it) (.ref D) env=kN iter.pos (.ref it) tg ifs env (inner D env) (.compLoop (.ListComp elt gens sc ps) 0 (.ref it) (.ref D) env))
  (hi:PI X tg iter wi) (hg:∀s H ex,PG (bV X sc N s H ex) tg g) (En:∀s H ex,PTs (bV X sc N s H ex) ifs tt) (Dm:∀pins s σ H ex D,Inv X pins σ H s->(∀b∈ex,cZ X pins H b/\b<s.heap.objs.size)->Ff (bV X sc N s H ex) D (inner D (bV X sc N s H ex).env) (ti σ))
  (hs:∀x,foldedSetIterable iter X.env x=pure x):PE X (.ListComp elt gens sc ps) (λσ H Q=>wO wi cap g tt (ti σ) σ H Q):=by
 intro pins s σ H Q I h;rw[eval_ListComp];have hcl:closureFor sc X.env=pure (dC X.env sc.names []):=wJ λx hx=>I.ok.has x (C.free x hx);have e1:firstAsync gens=false:=by rw[eg];rfl
 have e2:firstIter gens X.env=eval iter X.env:=by rw[eg];rfl
 rw[e1,e2];refine uj (use:=none) (g:=⟨tg,iter,ifs,0⟩) (gs:=rest) (by rw[eg];rfl) hs hcl C.kind C.nd (aW (hi pins s σ H _ I h) λv s1 h1=>aW h1 λitv s2 h2=>?_);obtain⟨it,fp,tn,J,H2,e,I2,T,st2,f2,lp⟩:=h2;subst e;refine BG (N:=N) (inner:=inner) (R:=λacc C=>compPost (model X.prog X.w) X.A X.xe none (EP X pins σ Q) acc C) hc C eg ht hg En (λs ex D I hx=>Dm _ s _ _ ex D I hx) I2 T st2 f2 lp ?_;intro σ' H' xs s3 s' C D hD0 hC hn a f fC hDC Cz k;obtain⟨m,hn⟩:=hn;refine⟨m,hn,λh' hh=>?_⟩;have I5:=Cz h' hh;obtain⟨hz,its,n,r,eD⟩:=a;have eD':h'.get? D=some { cls:=.type "list",data:=.seq its.toArray n }:=(hh.2 D (ay hDC)).trans eD;refine⟨.ref D,upd H' D (.lst xs),I5.adopt f hD0 ⟨hz,its,n,r,eD'⟩,rfl,k D f.1⟩
end
section
variable{X:Cx}
theorem IQ {i:Nat}{x:Str}{px pos:Pos}{elt:bj}{gens:List jo}{sc:gq}{ps:Pos}{tg iter:bj}{ifs:List bj}{rest:List jo}{inner:ai->Env->Sem Unit}{wi:TI}{g:TG}{tt:TT}{ti:TC}{N:Bf}{cap:List (Option Nat)}
  (hsw:swapsWith (.ListComp elt gens sc ps) (some (.Name x px)) pos.line X.env=pure true) (hN:X.N.Nodup) (hi':X.N[i]?=some x) (hx:X.env.scope.names.lookup x=some .local)
  (hc:X.calm=true) (C:Ci X sc N cap) (eg:gens=⟨tg,iter,ifs,0⟩::rest)
  (ht:∀it D env,compTurn (.ListComp elt gens sc ps) 0 (.ref it) (.ref D) env=kN iter.pos (.ref it) tg ifs env (inner D env) (.compLoop (.ListComp elt gens sc ps) 0 (.ref it) (.ref D) env))
  (hi:PI X tg iter wi) (hg:∀s H ex,PG (bV X sc N s H ex) tg g) (En:∀s H ex,PTs (bV X sc N s H ex) ifs tt) (Dm:∀s H ex D,Ff (bV X sc N s H ex) D (inner D (bV X sc N s H ex).env) ti)
  (hs:∀x,foldedSetIterable iter X.env x=pure x):PS X (.Assign [.Name x px] (.ListComp elt gens sc ps) pos) (wB (wO wi cap g tt ti) (AS i)):=by
 intro pins s σ H D I h;rw[exec_Assign_Name_used _ _ _ _ hsw];have hcl:closureFor sc X.env=pure (dC X.env sc.names []):=wJ λx hx=>I.ok.has x (C.free x hx);have e1:firstAsync gens=false:=by rw[eg];rfl
 have e2:firstIter gens X.env=eval iter X.env:=by rw[eg];rfl
 refine aa (qg (aa ?_));show wpAny _ X.A (do let _ <-comprehension (.ListComp elt gens sc ps) sc X.env (firstIterPos gens ps) (newList []) (firstAsync gens) (firstIter gens X.env) (some (assign (.Name x px) X.env))) _ _ s;rw[e1,e2];refine aa (aW (uj (use:=some (assign (.Name x px) X.env)) (Q:=λ_ s'=>SP X pins D .next s') (g:=⟨tg,iter,ifs,0⟩) (gs:=rest) (by rw[eg];rfl) hs hcl C.kind C.nd (aW (hi pins s σ H _ I h) λv s1 h1=>aW h1 λitv s2 h2=>?_)) λ_ s' hq=>ah (ah hq));obtain⟨it,fp,tn,J,H2,e,I2,T,st2,f2,lp⟩:=h2;subst e;refine BG (N:=N) (inner:=inner) (R:=λacc C=>compPost (model X.prog X.w) X.A X.xe (some (assign (.Name x px) X.env)) (λ_ s'=>SP X pins D .next s') acc C) hc C eg ht hg En (λs ex D _ _=>Dm s _ ex D) I2 T st2 f2 lp ?_;intro σ' H' xs s3 s' C D' hD0 hC hn a f fC hDC Cz k;obtain⟨m,hn⟩:=hn;have I5:Inv X pins σ H' s':=Cz s'.heap (uw ..);obtain⟨hz,its,n,r,eD⟩:=a;have I6:Inv X pins σ (upd H' D' (.lst xs)) s':=I5.adopt f hD0 ⟨hz,its,n,r,eD⟩;show wpAny _ X.A (assign (.Name x px) X.env (.ref D')) _ _ s';obtain⟨c0,c1,c2,c3,c4,c5⟩:=fC;have nC:upd H' D' (.lst xs) C=none:=by rw[bU (de (ay hDC))];exact c0
 refine wpAny_assign_Name (GJ (v:=Gx D') I6 hN hi' (.inl hx) rfl (λs'' I7 ⟨a,sb,ha⟩=>?_) (.inr hx));have hCa:C≠a:=by
  rcases ha with z|z
  ·rw[z];exact c1
  ·exact de (c4 x a z)
 refine⟨m,hn.sameBut sb hCa,λh' hh=>?_⟩;have I8:Inv X pins (σ.set i (some (.ref D'))) (upd H' D' (.lst xs)) { s'' with heap:=h' }:=I7.turned (t':=s''.toks) (λb o hb e=>(hh.2 b hb).trans e) nC c1 c3 c4 c5;exact⟨_,_,I8,k D' f.1⟩
end
inductive Dt where
 |non|bl (b:Bool)|int (i:Int)|str (x:Str)|tup (xs:List Dt)|lst (xs:List Dt)|dct
mutual
def Den (P:ai->Prop) (H:Hp):Dt->V->Prop
 | .non,v=>v=.non
 | .bl b,v=>v=.bl b
 | .int i,v=>v=.int i
 | .str x,v=>v=.str x
 | .tup ds,v=>∃a vs,v=.ref a/\H a=some (.tup vs)/\Bu P H ds vs
 | .lst ds,v=>∃a vs,v=.ref a/\P a/\H a=some (.lst vs)/\Bu P H ds vs
 | .dct,v=>∃a,v=.ref a/\P a/\H a=some (.dK [])
def Bu (P:ai->Prop) (H:Hp):List Dt->Hf->Prop
 | [],vs=>vs=[]
 |d::ds,vs=>∃v r,vs=v::r/\Den P H d v/\Bu P H ds r
end
theorem Bu.length {P:ai->Prop}{H:Hp}:∀{ds:List Dt}{vs:Hf},Bu P H ds vs->vs.length=ds.length
 | [],vs,h=>by rw[Bu]at h;rw[h];rfl
 |d::ds,vs,h=>by rw[Bu]at h;obtain⟨v,r,rfl,_,h2⟩:=h;simp[Bu.length h2]
theorem Bu.get {P:ai->Prop}{H:Hp}:∀{ds:List Dt}{vs:Hf}{i:Nat}{v:V},Bu P H ds vs->vs[i]?=some v->∃d,ds[i]?=some d/\Den P H d v
 | [],vs,i,v,h,e=>by rw[Bu]at h;rw[h]at e;simp at e
 |d::ds,vs,i,v,h,e=>by
  rw[Bu]at h;obtain⟨w,r,rfl,h1,h2⟩:=h
  cases i with
  |zero=>simp at e;subst e;exact⟨d,rfl,h1⟩
  |succ i=>simp at e;exact Bu.get (i:=i) h2 e
theorem Bu.nil {P:ai->Prop}{H:Hp}:Bu P H [] []:=by rw[Bu]
theorem Bu.cons {P:ai->Prop}{H:Hp}{d:Dt}{v:V}{ds:List Dt}{vs:Hf}(h:Den P H d v) (t:Bu P H ds vs):Bu P H (d::ds) (v::vs):=by rw[Bu];exact⟨v,vs,rfl,h,t⟩
mutual
def bD:Dt->Dt->Bool
 | .non,.non=>true
 | .bl a,.bl b=>a==b
 | .bl a,.int j=>(if a then 1 else 0)==j
 | .int i,.bl b=>i==(if b then 1 else 0)
 | .int i,.int j=>i==j
 | .str x,.str y=>x==y
 | .tup xs,.tup ys=>eJ xs ys
 | .lst xs,.lst ys=>eJ xs ys
 |_,_=>false
def eJ:List Dt->List Dt->Bool
 | [],[]=>true
 |x::xs,y::ys=>bD x y&&eJ xs ys
 |_,_=>false
end
mutual
def eU:Dt->Nat
 | .tup xs=>mT xs+1
 | .lst xs=>mT xs+1
 |_=>0
def mT:List Dt->Nat
 | []=>0
 |x::xs=>max (eU x) (mT xs)
end
mutual
def nod:Dt->Bool
 | .tup xs=>kP xs
 | .lst xs=>kP xs
 | .dct=>false
 |_=>true
def kP:List Dt->Bool
 | []=>true
 |x::xs=>nod x&&kP xs
end
mutual
theorem BH:∀d:Dt,nod d=true->bD d d=true
 | .non,_=>rfl
 | .bl b,_=>by simp[bD]
 | .int i,_=>by simp[bD]
 | .str x,_=>by simp[bD]
 | .tup xs,h=>by rw[bD];exact BI xs (by rw[nod]at h;exact h)
 | .lst xs,h=>by rw[bD];exact BI xs (by rw[nod]at h;exact h)
 | .dct,h=>by simp[nod]at h
theorem BI:∀l:List Dt,kP l=true->eJ l l=true
 | [],_=>rfl
 |x::xs,h=>by rw[kP,cx]at h;rw[eJ,BH x h.1,BI xs h.2];rfl
end
theorem IS:∀{l:List Dt}{d:Dt},d∈l->eU d<=mT l
 |x::xs,d,h=>by
  rw[mT]
  rcases az.mp h with rfl|h
  ·omega
  ·have:=IS h;omega
theorem BJ:∀{l:List Dt}{d:Dt},kP l=true->d∈l->nod d=true
 |x::xs,d,h,hd=>by
  rw[kP,cx]at h
  rcases az.mp hd with rfl|hd
  ·exact h.1
  ·exact BJ h.2 hd
theorem tK:∀{xs ys:List Dt},xs.length=ys.length->eJ xs ys=(bo xs.length).all λi=>bD (xs.getD i .non) (ys.getD i .non)
 | [],[],_=>rfl
 |x::xs,y::ys,h=>by rw[eJ,tK (xs:=xs) (ys:=ys) (by simpa using h),dg,zu,List.all_cons,List.all_map];rfl
theorem tL:∀{xs ys:List Dt},xs.length≠ys.length->eJ xs ys=false
 | [],[],h=>absurd rfl h
 | [],_::_,_=>rfl
 |_::_,[],_=>rfl
 |x::xs,y::ys,h=>by rw[eJ,tL (xs:=xs) (ys:=ys) (by simpa using h),qk]
mutual
theorem Den.inj {P:ai->Prop}{H:Hp}:∀(d d':Dt) (v:V),Den P H d v->Den P H d' v->d=d'
 | .non,d',v,h,h'=>by
  rw[Den]at h;subst h
  cases d' <;> rw[Den]at h' <;> first|rfl|(obtain⟨_,_,e,_⟩:=h';cases e;done)|(obtain⟨_,e,_⟩:=h';cases e;done)|(cases h';done)
 | .bl b,d',v,h,h'=>by
  rw[Den]at h;subst h
  cases d' <;> rw[Den]at h' <;> first|(obtain⟨_,_,e,_⟩:=h';cases e;done)|(obtain⟨_,e,_⟩:=h';cases e;done)|(cases h';done)|(cases h';rfl)
 | .int b,d',v,h,h'=>by
  rw[Den]at h;subst h
  cases d' <;> rw[Den]at h' <;> first|(obtain⟨_,_,e,_⟩:=h';cases e;done)|(obtain⟨_,e,_⟩:=h';cases e;done)|(cases h';done)|(cases h';rfl)
 | .str b,d',v,h,h'=>by
  rw[Den]at h;subst h
  cases d' <;> rw[Den]at h' <;> first|(obtain⟨_,_,e,_⟩:=h';cases e;done)|(obtain⟨_,e,_⟩:=h';cases e;done)|(cases h';done)|(cases h';rfl)
 | .tup ds,d',v,h,h'=>by
  rw[Den]at h;obtain⟨a,vs,rfl,h1,h2⟩:=h
  cases d' <;> rw[Den]at h' <;> first|(cases h';done)|(obtain⟨_,_,e,_,q,_⟩:=h';cases e;rw[h1]at q;cases q;done)|(obtain⟨_,e,_,q⟩:=h';cases e;rw[h1]at q;cases q;done)|(obtain⟨_,_,e,q,g⟩:=h';cases e;rw[h1]at q;cases q;rw[Bu.inj ds _ vs h2 g])
 | .lst ds,d',v,h,h'=>by
  rw[Den]at h;obtain⟨a,vs,rfl,_,h1,h2⟩:=h
  cases d' <;> rw[Den]at h' <;> first|(cases h';done)|(obtain⟨_,_,e,q,_⟩:=h';cases e;rw[h1]at q;cases q;done)|(obtain⟨_,e,_,q⟩:=h';cases e;rw[h1]at q;cases q;done)|(obtain⟨_,_,e,_,q,g⟩:=h';cases e;rw[h1]at q;cases q;rw[Bu.inj ds _ vs h2 g])
 | .dct,d',v,h,h'=>by
  rw[Den]at h;obtain⟨a,rfl,_,h1⟩:=h
  cases d' <;> rw[Den]at h' <;> first|rfl|(cases h';done)|(obtain⟨_,_,e,q,_⟩:=h';cases e;rw[h1]at q;cases q;done)|(obtain⟨_,_,e,_,q,_⟩:=h';cases e;rw[h1]at q;cases q;done)
theorem Bu.inj {P:ai->Prop}{H:Hp}:∀(ds Di:List Dt) (vs:Hf),Bu P H ds vs->Bu P H Di vs->ds=Di
 | [],Di,vs,h,h'=>by
  rw[Bu]at h;subst h
  cases Di with
  |nil=>rfl
  |cons d Di=>rw[Bu]at h';obtain⟨_,_,e,_⟩:=h';cases e
 |d::ds,Di,vs,h,h'=>by
  rw[Bu]at h;obtain⟨v,r,rfl,h1,h2⟩:=h
  cases Di with
  |nil=>rw[Bu]at h';cases h'
  |cons d' Di=>rw[Bu]at h';obtain⟨v',r',e,h1',h2'⟩:=h';cases e;rw[Den.inj d d' v h1 h1',Bu.inj ds Di r h2 h2']
end
section
variable{Pg:bh}{w:cj}{P:ai->Prop}{H:Hp}{s:ag}
theorem UW (hok:Cw Pg w H s.heap) {a:ai}{vs:Hf}(e:H a=some (.tup vs)):∃its:List af,Bp vs its/\s.heap.IsTuple a its.toArray:=by
 obtain⟨_,its,r,p⟩:=(show Br Pg w H s.heap a (.tup vs) from hok a _ e)
 exact⟨its,r,p.tup⟩
theorem UX (hok:Cw Pg w H s.heap) {a:ai}{vs:Hf}(e:H a=some (.lst vs)):∃its:List af,Bp vs its/\s.heap.IsList a its.toArray:=by
 obtain⟨_,its,n,r,p⟩:=(show Br Pg w H s.heap a (.lst vs) from hok a _ e)
 exact⟨its,r,_,p,rfl,n,rfl⟩
theorem IT {vs:Hf}{its:List af}(r:Bp vs its) {j:Nat}(h:j<its.toArray.size):∃v,vs[j]?=some v/\RelV v its.toArray[j]:=by
 have hl:=r.length;have h':j<its.length:=by simpa using h
 have hv:j<vs.length:=by omega
 obtain⟨u,e,q⟩:=r.get (i:=j) (x:=vs[j]) (ba hv);refine⟨vs[j],ba hv, ?_⟩;have:its.toArray[j]=u:=by have:its[j]?=some its[j]:=ba h';rw[this]at e;simpa using e
 rw[this];exact q
inductive Vw (P:ai->Prop) (H:Hp) (s:ag):Dt->af->Prop
 |non:Vw P H s .non .none
 |bl {b:Bool}:Vw P H s (.bl b) (.bool b)
 |int {i:Int}{t:Tok}:Vw P H s (.int i) (.int i t)
 |str {x:Str}{t:Tok}:Vw P H s (.str x) (.str x t)
 |tup {ds:List Dt}{a:ai}{vs:Hf}{its:List af}(e:H a=some (.tup vs)) (g:Bu P H ds vs) (q:Bp vs its) (tp:s.heap.IsTuple a its.toArray):Vw P H s (.tup ds) (.ref a)
 |lst {ds:List Dt}{a:ai}{vs:Hf}{its:List af}(e:H a=some (.lst vs)) (g:Bu P H ds vs) (q:Bp vs its) (tp:s.heap.IsList a its.toArray):Vw P H s (.lst ds) (.ref a)
theorem vw (hok:Cw Pg w H s.heap) {d:Dt}{v:V}{u:af}(n:nod d=true) (h:Den P H d v) (r:RelV v u):Vw P H s d u:=by
 cases d <;> rw[Den]at h
 case tup=>obtain⟨a,vs,rfl,e,g⟩:=h;cases r;obtain⟨its,q,tp⟩:=UW hok e;exact .tup e g q tp
 case lst=>obtain⟨a,vs,rfl,_,e,g⟩:=h;cases r;obtain⟨its,q,tp⟩:=UX hok e;exact .lst e g q tp
 case dct=>simp[nod]at n
 all_goals subst h
 case int=>obtain⟨t,rfl⟩:=r;exact .int
 case str=>obtain⟨t,rfl⟩:=r;exact .str
 all_goals cases r;constructor
theorem wQ (hok:Cw Pg w H s.heap) {A:bw}{n:Nat}(ih:∀(d d':Dt) (u u':af),eU d<=n->nod d=true->nod d'=true->Vw P H s d u->Vw P H s d' u'->kr A s u u' (bD d d')) {vs Cs:Hf}{ds Di:List Dt}{its its':List af}(hd:mT ds<=n) (m1:kP ds=true) (m2:kP Di=true) (g:Bu P H ds vs) (g':Bu P H Di Cs) (q:Bp vs its) (q':Bp Cs its')
  (j:Nat) (h1:j<its.toArray.size) (h2:j<its'.toArray.size):kr A s its.toArray[j] its'.toArray[j] (bD (ds.getD j .non) (Di.getD j .non)):=by
 obtain⟨x,ex,rx⟩:=IT q h1;obtain⟨x',ex',rx'⟩:=IT q' h2;obtain⟨dx,edx,gx⟩:=g.get ex;obtain⟨dx',edx',gx'⟩:=g'.get ex';have e1:ds.getD j .non=dx:=by simp[qh,edx]
 have e2:Di.getD j .non=dx':=by simp[qh,edx']
 rw[e1,e2];have hm:=cq edx;have k1:=BJ m1 hm;have k2:=BJ m2 (cq edx');exact ih dx dx' _ _ (cz (IS hm) hd) k1 k2 (vw hok k1 gx rx) (vw hok k2 gx' rx')
theorem IU (hok:Cw Pg w H s.heap) (n:Nat) (ih:∀m,m+1=n->∀(A:bw) (d d':Dt) (u u':af),eU d<=m->A.units+m+1<cLine->nod d=true->nod d'=true->Vw P H s d u->Vw P H s d' u'->tu A s u u' (bD d d')/\kr A s u u' (bD d d'))
  (A:bw) (d d':Dt) (u u':af) (hn:eU d<=n) (hu:A.units+n+1<cLine) (n1:nod d=true) (n2:nod d'=true) (h:Vw P H s d u) (h':Vw P H s d' u'):tu A s u u' (bD d d')/\kr A s u u' (bD d d'):=by
 have Cc:A.units<cLine:=by omega
 have ok:∀{a1 a2:ai}{b:Bool},(tu A s (.ref a1) (.ref a2) b)->(a1=a2->b=true)->tu A s (.ref a1) (.ref a2) b/\kr A s (.ref a1) (.ref a2) b:=λ{a1 a2 b} key z=>⟨key,by
  by_cases Ef:a1=a2
  ·rw[z Ef,Ef];exact .same _
  ·exact .of_refs Ef key⟩
 have Dm:1<=n->∀(d d':Dt) (u u':af),eU d<=n - 1->nod d=true->nod d'=true->Vw P H s d u->Vw P H s d' u'->kr A.in1 s u u' (bD d d'):=λhd d d' u u' a b c e f=>(ih (n - 1) (by omega) A.in1 d d' u u' a (by show A.units+1+(n - 1)+1<cLine;omega) b c e f).2
 cases h <;> cases h'
 case tup.tup ds a1 vs1 its1 e1 g1 q1 tp1 Di a2 Fh Dc e2 g2 q2 tp2=>
  rw[nod]at n1 n2;rw[eU]at hn;have hl1:=g1.length;have hl2:=g2.length;have hq1:=q1.length;have hq2:=q2.length;refine ok ?_ λEf=>?_
  ·rw[bD];have z:=SeqAt.RcAt.tuples (e:=λj=>bD (ds.getD j .non) (Di.getD j .non)) tp1 tp2 Cc (wQ hok (Dm (by omega)) (by omega) n1 n2 g1 g2 q1 q2);have s1:its1.toArray.size=ds.length:=by simp;omega
   have s2:Dc.toArray.size=Di.length:=by simp;omega
   rw[s1,s2]at z
   by_cases hlen:ds.length=Di.length
   ·rw[tK hlen];rw[<-hlen,Af]at z;simpa using z
   ·rw[tL hlen];rw[show(ds.length==Di.length)=false from beq_eq_false_iff_ne.mpr hlen,qk]at z;exact z
  ·subst Ef;rw[e1]at e2;cases e2;rw[Bu.inj ds Di _ g1 g2,BH _ (by rw[nod];exact n2)]
 case lst.lst ds a1 vs1 its1 e1 g1 q1 tp1 Di a2 Fh Dc e2 g2 q2 tp2=>
  rw[nod]at n1 n2;rw[eU]at hn;have hl1:=g1.length;have hl2:=g2.length;have hq1:=q1.length;have hq2:=q2.length;refine ok ?_ λEf=>?_
  ·rw[bD]
   by_cases hlen:ds.length=Di.length
   ·have z:=SeqAt.RcAt.lists (e:=λj=>bD (ds.getD j .non) (Di.getD j .non)) tp1 tp2 (by simp;omega) Cc (wQ hok (Dm (by omega)) (by omega) n1 n2 g1 g2 q1 q2);rw[tK hlen];simpa[hq1.symm,hl1]using z
   ·rw[tL hlen];exact SeqAt.RcAt.lists_lengths tp1 tp2 (by simp;omega) Cc
  ·subst Ef;rw[e1]at e2;cases e2;rw[Bu.inj ds Di _ g1 g2,BH _ (by rw[nod];exact n2)]
 case non.non=>exact⟨.none_none,.same _⟩
 case non.bl=>exact⟨.none_bool _,.none_bool _⟩
 case non.int=>exact⟨.none_int _ _,.none_int _ _⟩
 case non.str=>exact⟨.none_str _ _,.none_str _ _⟩
 case non.tup=>exact⟨.none_tuple ‹_› Cc,.none_tuple ‹_› Cc⟩
 case non.lst=>exact⟨.none_list ‹_› Cc,.none_list ‹_› Cc⟩
 case bl.non=>exact⟨.bool_none _,.bool_none _⟩
 case bl.bl=>exact⟨.bool_bool _ _,.bool_bool _ _⟩
 case bl.int=>exact⟨.bool_int _ _ _,.bool_int _ _ _⟩
 case bl.str=>exact⟨.bool_str _ _ _,.bool_str _ _ _⟩
 case bl.tup=>exact⟨.bool_tuple _ ‹_› Cc,.bool_tuple _ ‹_› Cc⟩
 case bl.lst=>exact⟨.bool_list _ ‹_› Cc,.bool_list _ ‹_› Cc⟩
 case int.non=>exact⟨.int_none _ _,.int_none _ _⟩
 case int.bl=>exact⟨.int_bool _ _ _,.int_bool _ _ _⟩
 case int.int=>exact⟨.int_int _ _ _ _,.int_int _ _ _ _⟩
 case int.str=>exact⟨.int_str _ _ _ _,.int_str _ _ _ _⟩
 case int.tup=>exact⟨.int_tuple _ _ ‹_› Cc,.int_tuple _ _ ‹_› Cc⟩
 case int.lst=>exact⟨.int_list _ _ ‹_› Cc,.int_list _ _ ‹_› Cc⟩
 case str.non=>exact⟨.str_none _ _,.str_none _ _⟩
 case str.bl=>exact⟨.str_bool _ _ _,.str_bool _ _ _⟩
 case str.int=>exact⟨.str_int _ _ _ _,.str_int _ _ _ _⟩
 case str.str=>exact⟨.str_str _ _ _ _,.str_str _ _ _ _⟩
 case str.tup=>exact⟨.str_tuple _ _ ‹_› Cc,.str_tuple _ _ ‹_› Cc⟩
 case str.lst=>exact⟨.str_list _ _ ‹_› Cc,.str_list _ _ ‹_› Cc⟩
 case tup.non=>exact⟨.tuple_none ‹_› Cc,.tuple_none ‹_› Cc⟩
 case tup.bl=>exact⟨.tuple_bool _ ‹_› Cc,.tuple_bool _ ‹_› Cc⟩
 case tup.int=>exact⟨.tuple_int _ _ ‹_› Cc,.tuple_int _ _ ‹_› Cc⟩
 case tup.str=>exact⟨.tuple_str _ _ ‹_› Cc,.tuple_str _ _ ‹_› Cc⟩
 case tup.lst=>exact⟨.tuple_list ‹_› ‹_› Cc,.tuple_list ‹_› ‹_› Cc⟩
 case lst.non=>exact⟨.list_none ‹_› Cc,.list_none ‹_› Cc⟩
 case lst.bl=>exact⟨.list_bool _ ‹_› Cc,.list_bool _ ‹_› Cc⟩
 case lst.int=>exact⟨.list_int _ _ ‹_› Cc,.list_int _ _ ‹_› Cc⟩
 case lst.str=>exact⟨.list_str _ _ ‹_› Cc,.list_str _ _ ‹_› Cc⟩
 case lst.tup=>exact⟨.list_tuple ‹_› ‹_› Cc,.list_tuple ‹_› ‹_› Cc⟩
theorem BK (hok:Cw Pg w H s.heap):∀(n:Nat) (A:bw) (d d':Dt) (u u':af),eU d<=n->A.units+n+1<cLine->nod d=true->nod d'=true->Vw P H s d u->Vw P H s d' u'->tu A s u u' (bD d d')/\kr A s u u' (bD d d')
 |0=>IU hok 0 λ_ e=>by cases e
 |n+1=>IU hok _ λm e=>by cases e;exact BK hok n
theorem IV (hok:Cw Pg w H s.heap) (n:Nat) (A:bw) (d d':Dt) (v v':V) (u u':af) (a:eU d<=n) (b:A.units+n+1<cLine) (n1:nod d=true) (n2:nod d'=true) (h:Den P H d v) (h':Den P H d' v') (r:RelV v u) (r':RelV v' u'):
  tu A s u u' (bD d d')/\kr A s u u' (bD d d'):=BK hok n A d d' u u' a b n1 n2 (vw hok n1 h r) (vw hok n2 h' r')
end
end L2
open L2.Dt renaming int->Gs
namespace L2.Mr
inductive Dv where
 |non|bl (b:Bool)|int (i:Int)|str (x:Str)|tup (xs:List Dv)|ref (i:Nat)|edc|exc (c:Nat)|scr
inductive Ob where
 |lst (xs:List Dv)
 |clo (k t:Nat)
abbrev Hs:=List Ob
abbrev Ev:=List (Option Dv)
inductive Rs (α:Type) where
 |ok (a:α) (h:Hs)|ex (c:Nat) (h:Hs)|bad
abbrev Bg:=List Dv->Hs->Rs Dv
abbrev Bh:=List Dv
abbrev Bi:=Option Dv
noncomputable def Rs.bind {α β:Type}(r:Rs α) (f:α->Hs->Rs β):Rs β:=match r with
 | .ok a h=>f a h
 | .ex c h=>.ex c h
 | .bad=>.bad
@[simp] theorem Rs.bind_ok {α β:Type}(a:α) (h:Hs) (f:α->Hs->Rs β):(Rs.ok a h).bind f=f a h:=rfl
@[simp] theorem Rs.bind_ex {α β:Type}(c:Nat) (h:Hs) (f:α->Hs->Rs β):(Rs.ex c h).bind f=.ex c h:=rfl
@[simp] theorem Rs.bind_bad {α β:Type}(f:α->Hs->Rs β):(Rs.bad).bind f=.bad:=rfl
abbrev M (α:Type):=Ev->Hs->Rs α
structure Cf0 where
 K:ao
 cl:Nat->ai
 scr:Bd
 sa:ai
 tab:Option ai:=none
 lq:Str:=Str.empty
def dS (C:af) (e T:ai) (a0:af) (h:cy):Prop:=∃oe vs,h.get? e=some oe/\oe.cls=C/\oe.data=.fields vs/\vs[0]?=some a0/\vs[1]?=some (.ref T)/\oe.dict=none
def wR (G:Cf0) (H:Hp) (c:Nat) (u:af):Prop:=∃e φ,u=.ref e/\H e=some (.ext φ)/\∀h,φ h->∃o,h.get? e=some o/\o.cls=.ref (G.cl c)
def wU:HO->Prop
 | .tup _=>True
 | .dK kvs=>kvs=[]
 | .frz _ _=>True
 |_=>False
def FzL (K:ao) (H:Hp) (a:ai) (xs:Hf):Prop:=(∃o,H a=some (.frz o (.lst xs))) ∨
  ∃(o:Obj) (its:Array af) (n:Nat),K.lookup a=some o/\o.cls=.type "list"/\o.dict=none/\o.data=.seq its n/\its.size<=cb/\Bp xs its.toList
theorem FzL.sq {K:ao}{H:Hp}{a:ai}{xs:Hf}(h:FzL K H a xs):Cg K H a xs:=by
 rcases h with⟨o,h⟩|h
 ·exact .inl (.inr ⟨o,h⟩)
 ·exact .inr h
theorem FzL.keep {K:ao}{H H':Hp}{a:ai}{xs:Hf}(h:FzL K H a xs) (k:∀a o,wU o->H a=some o->H' a=some o):FzL K H' a xs:=by
 rcases h with⟨o,h⟩|h
 ·exact .inl ⟨o,k a _ trivial h⟩
 ·exact .inr h
mutual
def Bo (G:Cf0) (μ:Nat->ai) (n:Nat) (H:Hp):Dv->V->Prop
 | .non,v=>v=.non
 | .bl b,v=>v=.bl b
 | .int i,v=>v=.int i
 | .str x,v=>v=.str x
 | .tup ds,v=>∃a vs,v=.ref a/\H a=some (.tup vs)/\RelDL G μ n H ds vs
 | .ref i,v=>i<n/\v=.ref (μ i)
 | .edc,v=>∃a,v=.ref a/\H a=some (.dK [])
 | .exc c,v=>∃a o u,v=.ref a/\H a=some (.frz o u)/\o.cls=.ref (G.cl c)/\o.dict=none/\∃vs,o.data=.fields vs
 | .scr,v=>v=.ref G.sa/\FzL G.K H G.sa (G.scr.map Gh)
def RelDL (G:Cf0) (μ:Nat->ai) (n:Nat) (H:Hp):Bh->Hf->Prop
 | [],vs=>vs=[]
 |d::ds,vs=>∃v r,vs=v::r/\Bo G μ n H d v/\RelDL G μ n H ds r
end
structure Ext (μ:Nat->ai) (n:Nat) (H:Hp) (μ':Nat->ai) (n':Nat) (H':Hp):Prop where
 le:n<=n'
 mu:∀i,i<n->μ' i=μ i
 im:∀a o,wU o->H a=some o->H' a=some o
theorem Ext.refl {μ:Nat->ai}{n:Nat}{H:Hp}:Ext μ n H μ n H:=⟨ak _,λ_ _=>rfl,λ_ _ _ e=>e⟩
theorem Ext.trans {μ μ1 μ2:Nat->ai}{n n1 n2:Nat}{H H1 H2:Hp}(a:Ext μ n H μ1 n1 H1) (b:Ext μ1 n1 H1 μ2 n2 H2):Ext μ n H μ2 n2 H2:=⟨cz a.le b.le,λi hi=>(b.mu i (au hi a.le)).trans (a.mu i hi),λc o i e=>b.im c o i (a.im c o i e)⟩
structure Cfg extends Cf0 where
 clo:(Nat->ai)->Nat->Hp->Nat->Nat->ai->Prop:=λ_ _ _ _ _ _=>True
 cloM:∀{μ μ':Nat->ai}{n n':Nat}{H H':Hp}{k t:Nat}{a:ai},Ext μ n H μ' n' H'->clo μ n H k t a->clo μ' n' H' k t a:=by intros;trivial
instance:Coe Cfg Cf0:=⟨Cfg.toCf0⟩
section
variable{G:Cf0}{μ μ':Nat->ai}{n n':Nat}{H H':Hp}
mutual
theorem Bo.mono (x:Ext μ n H μ' n' H'):∀(d:Dv) (v:V),Bo G μ n H d v->Bo G μ' n' H' d v
 | .non,v,h=>h
 | .bl b,v,h=>h
 | .int i,v,h=>h
 | .str s,v,h=>h
 | .tup ds,v,h=>by obtain⟨a,vs,e,h1,h2⟩:=h;exact⟨a,vs,e,x.im a _ trivial h1,RelDL.mono x ds vs h2⟩
 | .ref i,v,h=>by obtain⟨h1,h2⟩:=h;exact⟨au h1 x.le,by rw[x.mu i h1];exact h2⟩
 | .edc,v,h=>by obtain⟨a,e,h1⟩:=h;exact⟨a,e,x.im a _ rfl h1⟩
 | .exc c,v,h=>by obtain⟨a,o,u,e,h1,h2⟩:=h;exact⟨a,o,u,e,x.im a _ trivial h1,h2⟩
 | .scr,v,h=>by obtain⟨h1,h2⟩:=h;exact⟨h1,h2.keep x.im⟩
theorem RelDL.mono (x:Ext μ n H μ' n' H'):∀(ds:Bh) (vs:Hf),RelDL G μ n H ds vs->RelDL G μ' n' H' ds vs
 | [],vs,h=>h
 |d::ds,vs,h=>by obtain⟨v,r,e,h1,h2⟩:=h;exact⟨v,r,e,Bo.mono x d v h1,RelDL.mono x ds r h2⟩
end
theorem RelDL.length:∀{ds:Bh}{vs:Hf},RelDL G μ n H ds vs->vs.length=ds.length
 | [],_,h=>by rw[RelDL]at h;subst h;rfl
 |d::ds,_,h=>by rw[RelDL]at h;obtain⟨v,r,rfl,_,h2⟩:=h;rw[dg,dg,RelDL.length h2]
theorem RelDL.get:∀{ds:Bh}{vs:Hf}{i:Nat}{d:Dv},RelDL G μ n H ds vs->ds[i]?=some d->∃v,vs[i]?=some v/\Bo G μ n H d v
 | [],_,_,_,_,e=>by simp at e
 |d::ds,_,0,d',h,e=>by rw[RelDL]at h;obtain⟨v,r,rfl,h1,_⟩:=h;simp at e;subst e;exact⟨v,rfl,h1⟩
 |d::ds,_,i+1,d',h,e=>by rw[RelDL]at h;obtain⟨v,r,rfl,_,h2⟩:=h;obtain⟨u,e1,h3⟩:=RelDL.get (i:=i) h2 (by simpa using e);exact⟨u,by simpa using e1,h3⟩
theorem RelDL.nil:RelDL G μ n H [] []:=by rw[RelDL]
theorem RelDL.cons {d:Dv}{v:V}{ds:Bh}{vs:Hf}(h:Bo G μ n H d v) (t:RelDL G μ n H ds vs):RelDL G μ n H (d::ds) (v::vs):=by rw[RelDL];exact⟨v,vs,rfl,h,t⟩
theorem RelDL.append:∀{ds es:Bh}{vs ws:Hf},RelDL G μ n H ds vs->RelDL G μ n H es ws->RelDL G μ n H (ds++es) (vs++ws)
 | [],_,_,_,h,h'=>by rw[RelDL]at h;subst h;exact h'
 |d::ds,_,_,_,h,h'=>by rw[RelDL]at h;obtain⟨v,r,rfl,h1,h2⟩:=h;exact RelDL.cons h1 (RelDL.append h2 h')
theorem RelDL.take:∀{ds:Bh}{vs:Hf}(k:Nat),RelDL G μ n H ds vs->RelDL G μ n H (ds.take k) (vs.take k)
 | [],_,k,h=>by rw[RelDL]at h;subst h;simp[RelDL.nil]
 |d::ds,_,0,h=>by simp[RelDL.nil]
 |d::ds,_,k+1,h=>by rw[RelDL]at h;obtain⟨v,r,rfl,h1,h2⟩:=h;exact RelDL.cons h1 (RelDL.take k h2)
theorem RelDL.drop:∀{ds:Bh}{vs:Hf}(k:Nat),RelDL G μ n H ds vs->RelDL G μ n H (ds.drop k) (vs.drop k)
 | [],_,k,h=>by rw[RelDL]at h;subst h;simp[RelDL.nil]
 |d::ds,_,0,h=>h
 |d::ds,_,k+1,h=>by rw[RelDL]at h;obtain⟨v,r,rfl,h1,h2⟩:=h;exact RelDL.drop k h2
theorem RelDL.set {x:Dv}{u:V}(hx:Bo G μ n H x u):∀{ds:Bh}{vs:Hf}(i:Nat),RelDL G μ n H ds vs->RelDL G μ n H (ds.set i x) (vs.set i u)
 | [],_,_,h=>by rw[RelDL]at h;subst h;exact RelDL.nil
 |d::ds,_,0,h=>by rw[RelDL]at h;obtain⟨v,r,rfl,h1,h2⟩:=h;exact RelDL.cons hx h2
 |d::ds,_,i+1,h=>by rw[RelDL]at h;obtain⟨v,r,rfl,h1,h2⟩:=h;exact RelDL.cons h1 (RelDL.set hx i h2)
end
def ObR (G:Cfg) (μ:Nat->ai) (n:Nat) (H:Hp) (a:ai):Ob->Prop
 | .lst xs=>∃vs,H a=some (.lst vs)/\RelDL G μ n H xs vs
 | .clo k t=>t<n/\(∃o u,H a=some (.frz o u))/\G.clo μ n H k t a
theorem ObR.clo {G:Cfg}{μ μ':Nat->ai}{n n':Nat}{H H':Hp}{a:ai}{k t:Nat}(r:ObR G μ n H a (.clo k t)) (x:Ext μ n H μ' n' H'):ObR G μ' n' H' a (.clo k t):=by obtain⟨h1,⟨o,u,h2⟩,h3⟩:=r;exact⟨au h1 x.le,⟨o,u,x.im _ _ trivial h2⟩,G.cloM x h3⟩
def wV (q:Str) (oc:Obj):Prop:=∃vs t,oc.data=.fields vs/\vs[1]?=some (.str q t)
def El (G:Cf0) (H:Hp):Prop:=∀P,G.tab=some P->∃ps,H P=some (.tbl ps)/\wj ps.toList/\∀pos cv,codeAmong pos ps.toList=some cv->∃q oc,cv=.ref q/\H q=some (.frz oc (.own 0))/\wV G.lq oc
theorem El.keep {G:Cf0}{H H':Hp}(t:El G H) (k:∀a o,(∀xs,o≠.lst xs)->(∀φ,o≠.ext φ)->H a=some o->H' a=some o):El G H':=λP e=>by obtain⟨ps,h1,h2,h3⟩:=t P e;refine⟨ps,k P _ (λ_ z=>by cases z) (λ_ z=>by cases z) h1,h2,λpos cv q=>?_⟩;obtain⟨a,oc,e1,e2,e3⟩:=h3 pos cv q;exact⟨a,oc,e1,k a _ (λ_ z=>by cases z) (λ_ z=>by cases z) e2,e3⟩
structure Bw (G:Cfg) (μ:Nat->ai) (h:Hs) (H:Hp):Prop where
 inj:∀i j,i<h.length->j<h.length->μ i=μ j->i=j
 ob:∀(i:Nat) (o:Ob),h[i]?=some o->ObR G μ h.length H (μ i) o
 tab:El G H
structure Bs (G:Cfg) (μ:Nat->ai) (n:Nat) (H:Hp) (ρ:Ev) (σ:St):Prop where
 len:ρ.length=σ.length
 at_:∀(i:Nat) (d:Dv),ρ[i]?=some (some d)->∃v,σ[i]?=some (some v)/\Bo G μ n H d v
theorem Bs.mono {G:Cfg}{μ μ':Nat->ai}{n n':Nat}{H H':Hp}{ρ:Ev}{σ:St}(r:Bs G μ n H ρ σ) (x:Ext μ n H μ' n' H'):Bs G μ' n' H' ρ σ:=⟨r.len,λi d e=>let ⟨v,e1,h⟩:=r.at_ i d e;⟨v,e1,Bo.mono x d v h⟩⟩
def Out {α β:Type}(G:Cfg) (E:XK) (μ:Nat->ai) (n:Nat) (H:Hp) (r:Rs α) (R:(Nat->ai)->Nat->Hp->α->β->Prop) (Q:β->Hp->Prop):Prop:=
 match r with
 | .ok d h'=>∀μ' H' v,Ext μ n H μ' h'.length H'->Bw G μ' h' H'->R μ' h'.length H' d v->Q v H'
 | .ex c h'=>∀μ' H' u,Ext μ n H μ' h'.length H'->Bw G μ' h' H'->wR G H' c u->E u none H'
 | .bad=>False
theorem Out.bind {α β γ δ:Type}{G:Cfg}{E:XK}{μ:Nat->ai}{n:Nat}{H:Hp}{r:Rs α}{f:α->Hs->Rs γ}{R:(Nat->ai)->Nat->Hp->γ->δ->Prop}{Q:δ->Hp->Prop}{R1:(Nat->ai)->Nat->Hp->α->β->Prop}
  (o:Out G E μ n H (r.bind f) R Q):Out G E μ n H r R1 λv H1=>∃μ1 d h1,Ext μ n H μ1 h1.length H1/\Bw G μ1 h1 H1/\R1 μ1 h1.length H1 d v/\Out G E μ1 h1.length H1 (f d h1) R Q:=by
 cases r with
 |bad=>exact o
 |ex c h'=>exact o
 |ok d h'=>
  intro μ1 H1 v x1 s1 r1;refine⟨μ1,d,h',x1,s1,r1, ?_⟩;have o':Out G E μ n H (f d h') R Q:=o
  cases e:f d h' with
  |bad=>rw[e]at o';exact o'
  |ex c h2=>rw[e]at o';exact λμ2 H2 u x2 s2 r2=>o' μ2 H2 u (x1.trans x2) s2 r2
  |ok d2 h2=>rw[e]at o';exact λμ2 H2 u x2 s2 r2=>o' μ2 H2 u (x1.trans x2) s2 r2
theorem Out.mono {α β:Type}{G:Cfg}{E:XK}{μ:Nat->ai}{n:Nat}{H:Hp}{r:Rs α}{R:(Nat->ai)->Nat->Hp->α->β->Prop}{Q Q':β->Hp->Prop}(o:Out G E μ n H r R Q) (h:∀v H',Q v H'->Q' v H'):Out G E μ n H r R Q':=by
 cases r with
 |bad=>exact o
 |ex c h'=>exact o
 |ok d h'=>exact λμ' H' v x s r=>h _ _ (o μ' H' v x s r)
abbrev RB:(Nat->ai)->Nat->Hp->Bool->Bool->Prop:=λ_ _ _ b b'=>b'=b
def iA (G:Cfg) (E:XK) (m:M Dv):TE:=λσ H Q=>∃μ ρ h,Bs G μ h.length H ρ σ/\Bw G μ h H/\Out G E μ h.length H (m ρ h) (Bo G) Q
def iG (G:Cfg) (E:XK) (m:M Bool):TT:=λσ H Q=>∃μ ρ h,Bs G μ h.length H ρ σ/\Bw G μ h H/\Out G E μ h.length H (m ρ h) RB Q
def BL (G:Cfg) (E:XK) (m:M Bh ):TA:=λσ H Q=>∃μ ρ h,Bs G μ h.length H ρ σ/\Bw G μ h H/\Out G E μ h.length H (m ρ h) (RelDL G) Q
def aI (X:Cx) (G:Cfg) (E:XK) (pe:bj) (m:M Dv):Prop:=X.K=G.K->PE X pe (iA G E m)
def gE (X:Cx) (G:Cfg) (E:XK) (pe:bj) (m:M Bool):Prop:=X.K=G.K->PT X pe (iG G E m)
def dX (X:Cx) (G:Cfg) (E:XK) (pe:List bj) (m:M Bh ):Prop:=X.K=G.K->PA X pe (BL G E m)
theorem PE.imp {X:Cx}{e:bj}{t t':TE}(h:PE X e t) (i:∀σ H Q,t' σ H Q->t σ H Q):PE X e t':=λpins s σ H Q I q=>h pins s σ H Q I (i σ H Q q)
theorem PT.imp {X:Cx}{e:bj}{t t':TT}(h:PT X e t) (i:∀σ H Q,t' σ H Q->t σ H Q):PT X e t':=λpins s σ H Q I q=>h pins s σ H Q I (i σ H Q q)
theorem PA.imp {X:Cx}{e:List bj}{t t':TA}(h:PA X e t) (i:∀σ H Q,t' σ H Q->t σ H Q):PA X e t':=λpos pins s σ H Q I q=>h pos pins s σ H Q I (i σ H Q q)
section
variable{G:Cfg}{E:XK}{σ:St}{H:Hp}
theorem eV {m:M Dv}{γ δ:Type}{f:Dv->Hs->Rs γ}{R:(Nat->ai)->Nat->Hp->γ->δ->Prop}{Q:δ->Hp->Prop}{Q1:V->Hp->Prop}{μ:Nat->ai}{ρ:Ev}{h:Hs}(rs:Bs G μ h.length H ρ σ) (s:Bw G μ h H) (o:Out G E μ h.length H ((m ρ h).bind f) R Q)
  (k:∀μ1 d h1 v H1,Ext μ h.length H μ1 h1.length H1->Bs G μ1 h1.length H1 ρ σ->Bw G μ1 h1 H1->Bo G μ1 h1.length H1 d v->Out G E μ1 h1.length H1 (f d h1) R Q->Q1 v H1):iA G E m σ H Q1:=
 ⟨μ,ρ,h,rs,s,(o.bind (R1:=Bo G)).mono λv H1 ⟨μ1,d,h1,x,s1,r1,o1⟩=>k μ1 d h1 v H1 x (rs.mono x) s1 r1 o1⟩
theorem BM {m:M Bool}{γ δ:Type}{f:Bool->Hs->Rs γ}{R:(Nat->ai)->Nat->Hp->γ->δ->Prop}{Q:δ->Hp->Prop}{Q1:Bool->Hp->Prop}{μ:Nat->ai}{ρ:Ev}{h:Hs}(rs:Bs G μ h.length H ρ σ) (s:Bw G μ h H) (o:Out G E μ h.length H ((m ρ h).bind f) R Q)
  (k:∀μ1 b h1 H1,Ext μ h.length H μ1 h1.length H1->Bs G μ1 h1.length H1 ρ σ->Bw G μ1 h1 H1->Out G E μ1 h1.length H1 (f b h1) R Q->Q1 b H1):iG G E m σ H Q1:=
 ⟨μ,ρ,h,rs,s,(o.bind (R1:=RB)).mono λv H1 ⟨μ1,d,h1,x,s1,r1,o1⟩=>by have e:v=d:=r1;subst e;exact k μ1 v h1 H1 x (rs.mono x) s1 o1⟩
theorem jV {m:M Bh }{γ δ:Type}{f:Bh->Hs->Rs γ}{R:(Nat->ai)->Nat->Hp->γ->δ->Prop}{Q:δ->Hp->Prop}{Q1:Hf->Hp->Prop}{μ:Nat->ai}{ρ:Ev}{h:Hs}(rs:Bs G μ h.length H ρ σ) (s:Bw G μ h H) (o:Out G E μ h.length H ((m ρ h).bind f) R Q)
  (k:∀μ1 d h1 v H1,Ext μ h.length H μ1 h1.length H1->Bs G μ1 h1.length H1 ρ σ->Bw G μ1 h1 H1->RelDL G μ1 h1.length H1 d v->Out G E μ1 h1.length H1 (f d h1) R Q->Q1 v H1):BL G E m σ H Q1:=
 ⟨μ,ρ,h,rs,s,(o.bind (R1:=RelDL G)).mono λv H1 ⟨μ1,d,h1,x,s1,r1,o1⟩=>k μ1 d h1 v H1 x (rs.mono x) s1 r1 o1⟩
theorem Out.val {α β:Type}{μ:Nat->ai}{h:Hs}{d:α}{R:(Nat->ai)->Nat->Hp->α->β->Prop}{Q:β->Hp->Prop}{v:β}(s:Bw G μ h H) (o:Out G E μ h.length H (.ok d h) R Q) (r:R μ h.length H d v):Q v H:=o μ H v Ext.refl s r
end
section
variable{G:Cfg}{μ:Nat->ai}{h:Hs}{H H':Hp}{p:ai}{n:Nat}
theorem Ext.same (e:De H H'):Ext μ n H μ n H':=⟨ak _,λ_ _=>rfl,λa o _ q=>e a o q⟩
theorem Bw.same (s:Bw G μ h H) (e:De H H'):Bw G μ h H':=⟨s.inj,λi o q=>by
 have r:=s.ob i o q
 cases o with
 |lst xs=>obtain⟨vs,e1,r1⟩:=r;exact⟨vs,e _ _ e1,RelDL.mono (Ext.same e) _ _ r1⟩
 |clo k t=>exact r.clo (Ext.same e),s.tab.keep λa o _ _ q=>e a o q⟩
theorem cK {o:HO}(h:H p=none):De H (upd H p o):=λb u e=>by rw[bU (fW e h)];exact e
theorem Bw.not (s:Bw G μ h H) (hp:H p=none):∀(i:Nat),i<h.length->μ i≠p:=λi hi z=>by
 have q:h[i]?=some h[i]:=ba hi;generalize h[i]=o at q
 cases o with
 |lst xs=>obtain⟨vs,e1,_⟩:=s.ob i _ q;rw[z,hp]at e1;cases e1
 |clo k t=>obtain⟨_,⟨o,u,e1⟩,_⟩:=s.ob i _ q;rw[z,hp]at e1;cases e1
theorem Bw.alloc {ds:Bh}{vs:Hf}(s:Bw G μ h H) (hp:H p=none) (r:RelDL G μ h.length H ds vs):
  Ext μ h.length H (λi=>if i=h.length then p else μ i) (h++[Ob.lst ds]).length (upd H p (.lst vs))/\Bw G (λi=>if i=h.length then p else μ i) (h++[.lst ds]) (upd H p (.lst vs)):=by
 have hl:(h++[Ob.lst ds]).length=h.length+1:=by simp
 have hq:=s.not hp;have x:Ext μ h.length H (λi=>if i=h.length then p else μ i) (h++[Ob.lst ds]).length (upd H p (.lst vs)):=⟨by omega,λi hi=>if_neg (ay hi),λa o _ e=>cK hp a o e⟩
 refine⟨x,λi j hi hj e=>?_,λi o q=>?_,s.tab.keep λa o _ _ q=>cK hp a o q⟩
 ·rw[hl]at hi hj
  by_cases h1:i=h.length <;> by_cases h2:j=h.length
  ·omega
  ·rw[if_pos h1,if_neg h2]at e;exact absurd e.symm (hq j (by omega))
  ·rw[if_neg h1,if_pos h2]at e;exact absurd e (hq i (by omega))
  ·rw[if_neg h1,if_neg h2]at e;exact s.inj i j (by omega) (by omega) e
 ·by_cases h1:i<h.length
  ·rw[dw h1]at q;have r1:=s.ob i o q
   cases o with
   |lst xs=>obtain⟨ws,e1,r2⟩:=r1;exact⟨ws,by rw[if_neg (ay h1)];exact cK hp _ _ e1,RelDL.mono x _ _ r2⟩
   |clo k t=>rw[if_neg (ay h1)];exact r1.clo x
  ·rw[gg (by omega)]at q;have h2:i=h.length:=by have:=(ax.mp q).1;simp at this;omega
   subst h2;simp at q;subst q;exact⟨vs,by rw[if_pos rfl];exact cR,RelDL.mono x _ _ r⟩
theorem Bw.write {xs ys:Bh}{i:Nat}{vs:Hf}(s:Bw G μ h H) (q:h[i]?=some (.lst xs)) (r:RelDL G μ h.length H ys vs):
  Ext μ h.length H μ (h.set i (.lst ys)).length (upd H (μ i) (.lst vs))/\Bw G μ (h.set i (.lst ys)) (upd H (μ i) (.lst vs)):=by
 obtain⟨us,e0,r0⟩:=s.ob i _ q;have hi:i<h.length:=(ax.mp q).1;have im:∀a o,wU o->H a=some o->upd H (μ i) (.lst vs) a=some o:=λa o m e=>by
  rw[bU];exact e
  rintro rfl;rw[e0]at e;cases e;exact m
 have x:Ext μ h.length H μ (h.set i (.lst ys)).length (upd H (μ i) (.lst vs)):=⟨by simp,λ_ _=>rfl,im⟩
 refine⟨x,λa b ha hb=>?_,λj o e=>?_,s.tab.keep λa o n1 _ q=>?_⟩
 rotate_left 2
 ·rw[bU];exact q
  rintro rfl;rw[e0]at q;cases q;exact n1 _ rfl
 ·rw[lr]at ha hb;exact s.inj a b ha hb
 ·by_cases C':i=j
  ·subst C';rw[dz hi]at e;cases e;exact⟨vs,cR,RelDL.mono x _ _ r⟩
  ·rw[fi C']at e;have hj:j<h.length:=(ax.mp e).1;have r1:=s.ob j o e;have ne:μ j≠μ i:=λz=>C' (s.inj j i hj hi z).symm
   cases o with
   |lst zs=>obtain⟨ws,e1,r2⟩:=r1;exact⟨ws,by rw[bU ne];exact e1,RelDL.mono x _ _ r2⟩
   |clo k t=>exact r1.clo x
end
def lim {α:Type}(n:Nat) (r:Rs α):Rs α:=if n<=1000000 then r else .bad
theorem tM {n:Nat}(h:n<=1000000):n<=cb:=cz h (by decide)
def getL (h:Hs) (i:Nat):Option Bh :=match h[i]? with
 |some (.lst xs)=>some xs
 |_=>none
theorem cW {h:Hs}{i:Nat}{xs:Bh}(e:getL h i=some xs):h[i]?=some (.lst xs):=by
 unfold getL at e
 cases q:h[i]? with
 |none=>rw[q]at e;cases e
 |some o=>
  cases o with
  |lst ys=>rw[q]at e;cases e;rfl
  |clo k t=>rw[q]at e;cases e
section
variable{X:Cx}{G:Cfg}{E:XK}{a b c:bj}{ma mb mc:M Dv}{pos:Pos}{es:List bj}{aR:M Bh }
def aA (i:Nat):M Dv:=λρ h=>match ρ[i]? with
 |some (some d)=>.ok d h
 |_=>.bad
theorem aD (i:Nat) {x:Str}(hN:X.N[i]?=some x:=by rfl) (hv:mP X.env.scope x:=by first|exact Or.inl rfl|exact Or.inr (Or.inl rfl)|exact Or.inr (Or.inr rfl))
  (hd:(x==He)=false:=by decide) (hcd:(x==("__classdict__" : Str))=false:=by decide):aI X G E (.Name x pos) (aA i):=λ_=>PE.imp (vY hN hv hd hcd) λσ H Q ⟨μ,ρ,h,rs,s,o⟩=>by
 unfold aA at o
 split at o
 ·rename_i d e;obtain⟨v,e1,r⟩:=rs.at_ i d e;exact⟨v,e1,o.val s r⟩
 ·exact o.elim
def mC (d:Dv):M Dv:=λ_ h=>.ok d h
theorem bG {i j}:aI X G E (.Constant (.int i) j pos) (mC (.int i)):=λ_=>PE.imp QM λσ H Q ⟨μ,ρ,h,rs,s,o⟩=>o.val s (show Bo G μ _ H (.int i) (.int i) from rfl)
theorem fX {i j}:aI X G E (.Constant (.bool i) j pos) (mC (.bl i)):=λ_=>PE.imp QN λσ H Q ⟨μ,ρ,h,rs,s,o⟩=>o.val s (show Bo G μ _ H (.bl i) (.bl i) from rfl)
theorem wW {j}:aI X G E (.Constant .none j pos) (mC .non):=λ_=>PE.imp GK λσ H Q ⟨μ,ρ,h,rs,s,o⟩=>o.val s (show Bo G μ _ H .non .non from rfl)
theorem BN {x j}:aI X G E (.Constant (.str x) j pos) (mC (.str x)):=λ_=>PE.imp QO λσ H Q ⟨μ,ρ,h,rs,s,o⟩=>o.val s (show Bo G μ _ H (.str x) (.str x) from rfl)
def aC:M Bh :=λ_ h=>.ok [] h
def aB (m:M Dv) (ms:M Bh ):M Bh :=λρ h=>(m ρ h).bind λd h1=>(ms ρ h1).bind λds h2=>.ok (d::ds) h2
theorem aN:dX X G E [] aC:=λ_=>PA.imp jG λσ H Q ⟨μ,ρ,h,rs,s,o⟩=>o.val s RelDL.nil
theorem aG (ha:aI X G E a ma) (hr:dX X G E es aR) (hs:aw (a::es) X.env=(false,eval a X.env)::aw es X.env:=by rfl):dX X G E (a::es) (aB ma aR):=λhK=>PA.imp (hY (ha hK) (hr hK) hs) λσ H Q ⟨μ,ρ,h,rs,s,o⟩=>eV rs s o λμ1 d h1 v H1 x1 Cb s1 r1 o1=>jV Cb s1 o1 λμ2 ds h2 vs H2 x2 Dl s2 r2 o2=>o2.val s2 (RelDL.cons (Bo.mono x2 _ _ r1) r2)
def aL (ms:M Bh ):M Dv:=λρ h=>(ms ρ h).bind λds h1=>lim ds.length (.ok (.tup ds) h1)
theorem iB {k} (h:dX X G E es aR):aI X G E (.Tuple es k pos) (aL aR):=λhK=>PE.imp (G7 (h hK)) λσ H Q ⟨μ,ρ,h,rs,s,o⟩=>jV rs s o λμ1 ds h1 vs H1 x1 Cb s1 r1 o1=>by
 unfold lim at o1
 split at o1
 ·rename_i hl;refine⟨by rw[r1.length];exact tM hl,λp hp=>?_⟩;exact o1 μ1 _ _ (Ext.same (cK hp)) (s1.same (cK hp)) ⟨p,vs,rfl,cR,RelDL.mono (Ext.same (cK hp)) _ _ r1⟩
 ·exact o1.elim
def aQ (ms:M Bh ):M Dv:=λρ h=>(ms ρ h).bind λds h1=>lim ds.length (.ok (.ref h1.length) (h1++[.lst ds]))
theorem oE {μ:Nat->ai}{h:Hs}{H:Hp}{ds:Bh}{vs:Hf}{Q:VK}{p:ai}(s:Bw G μ h H) (r:RelDL G μ h.length H ds vs) (hp:H p=none) (o:Out G E μ h.length H (.ok (.ref h.length) (h++[.lst ds])) (Bo G) Q):Q (.ref p) (upd H p (.lst vs)):=by obtain⟨x,s'⟩:=s.alloc hp r;exact o _ _ _ x s' ⟨by simp,by show Gx p=Gx (if h.length=h.length then p else μ h.length);rw[if_pos rfl]⟩
theorem fP (h:dX X G E es aR):aI X G E (.List es pos) (aQ aR):=λhK=>PE.imp (SY (h hK)) λσ H Q ⟨μ,ρ,h,rs,s,o⟩=>jV rs s o λμ1 ds h1 vs H1 x1 Cb s1 r1 o1=>by
 unfold lim at o1
 split at o1
 ·rename_i hl;exact⟨by rw[r1.length];exact tM hl,λp hp=>oE s1 r1 hp o1⟩
 ·exact o1.elim
def m2 (f:Dv->Dv->Hs->Rs Dv) (ma mb:M Dv):M Dv:=λρ h=>(ma ρ h).bind λx h1=>(mb ρ h1).bind λy h2=>f x y h2
def fR (G:Cfg) (r:R2) (f:Dv->Dv->Hs->Rs Dv):Prop:=∀(E:XK) (μ:Nat->ai) (h:Hs) (H:Hp) (x y:Dv) (vx vy:V) (Q:VK),Bw G μ h H->Bo G μ h.length H x vx->Bo G μ h.length H y vy->Out G E μ h.length H (f x y h) (Bo G) Q->r vx vy H Q
theorem tN {r:R2}{f:Dv->Dv->Hs->Rs Dv}(hd:fR G r f) {σ:St}{H:Hp}{Q:VK}(t:iA G E (m2 f ma mb) σ H Q):tE r (iA G E ma) (iA G E mb) σ H Q:=by obtain⟨μ,ρ,h,rs,s,o⟩:=t;exact eV rs s o λμ1 x h1 vx H1 x1 Cb s1 r1 o1=>eV Cb s1 o1 λμ2 y h2 vy H2 x2 Dl s2 r2 o2=>hd E μ2 h2 H2 x y vx vy Q s2 (Bo.mono x2 _ _ r1) r2 o2
theorem pF {op:Operator}{r:R2}{f:Dv->Dv->Hs->Rs Dv}(ho:Cr X (binaryOp op) r) (hd:fR G r f) (ha:aI X G E a ma) (hb:aI X G E b mb):aI X G E (.BinOp a op b pos) (m2 f ma mb):=λhK=>PE.imp (R4 ho (ha hK) (hb hK)) λ_ _ _ t=>tN hd t
theorem wX {op:CmpOp}{r:R2}{f:Dv->Dv->Hs->Rs Dv}(ho:Cr X (compareOp op) r) (hd:fR G r f) (ha:aI X G E a ma) (hb:aI X G E b mb) (hm:behindInMarks op b=false):aI X G E (.Compare a [op] [b] pos) (m2 f ma mb):=λhK=>PE.imp (SH ho (ha hK) (hb hK) hm) λ_ _ _ t=>tN hd t
def dF:Dv->Hs->Rs Bool
 | .bl b,h=>.ok b h
 |_,_=>.bad
def mB (m:M Dv):M Bool:=λρ h=>(m ρ h).bind dF
theorem UY {m:M Dv}{σ:St}{H:Hp}{Q:Bool->Hp->Prop}(t:iG G E (mB m) σ H Q):iA G E m σ H λx H'=>∃k,x=.bl k/\Q k H':=by
 obtain⟨μ,ρ,h,rs,s,o⟩:=t;refine eV rs s o λμ1 x h1 vx H1 x1 Cb s1 r1 o1=>?_
 cases x with
 |bl k=>exact⟨k,r1,o1.val s1 rfl⟩
 |_=>exact o1.elim
theorem pG {op:CmpOp}{r:R2}{f:Dv->Dv->Hs->Rs Dv}(ho:Cr X (compareOp op) r) (hd:fR G r f) (ha:aI X G E a ma) (hb:aI X G E b mb) (hm:behindInMarks op b=false):gE X G E (.Compare a [op] [b] pos) (mB (m2 f ma mb)):=λhK=>PT.imp (SJ ho (ha hK) (hb hK) hm) λσ H Q t=>tN hd (UY t)
def qZ (f f':Dv->Dv->Hs->Rs Dv) (ma mb mc:M Dv):M Dv:=λρ h=>(ma ρ h).bind λx h1=>(mb ρ h1).bind λy h2=>(f x y h2).bind λz h3=>match z with
 | .bl true=>(mc ρ h3).bind λw h4=>f' y w h4
 | .bl false=>.ok (.bl false) h3
 |_=>.bad
theorem UZ {r r':R2}{f f':Dv->Dv->Hs->Rs Dv}(hd:fR G r f) (Dj:fR G r' f') {σ:St}{H:Hp}{Q:VK}(t:iA G E (qZ f f' ma mb mc) σ H Q):G2 r r' (iA G E ma) (iA G E mb) (iA G E mc) σ H Q:=by
 obtain⟨μ,ρ,h,rs,s,o⟩:=t;refine eV rs s o λμ1 x h1 vx H1 x1 Cb s1 r1 o1=>eV Cb s1 o1 λμ2 y h2 vy H2 x2 Dl s2 r2 o2=>?_;refine hd E μ2 h2 H2 x y vx vy _ s2 (Bo.mono x2 _ _ r1) r2 ((o2.bind (R1:=Bo G)).mono λvz H3 ⟨μ3,z,h3,x3,s3,r3,o3⟩=>?_)
 cases z with
 |bl k=>
  refine⟨k,r3, ?_⟩
  cases k with
  |true=>exact IB (eV (Dl.mono x3) s3 o3 λμ4 w h4 vw H4 x4 pD s4 r4 o4=>Dj E μ4 h4 H4 y w vy vw Q s4 (Bo.mono (x3.trans x4) _ _ r2) r4 o4)
  |false=>exact IA (o3.val s3 rfl)
 |_=>exact o3.elim
theorem VA {op op':CmpOp}{r r':R2}{f f':Dv->Dv->Hs->Rs Dv}(ho:Cr X (compareOp op) r) (Es:Cr X (compareOp op') r') (hd:fR G r f) (Dj:fR G r' f') (ha:aI X G E a ma) (hb:aI X G E b mb) (hc:aI X G E c mc)
  (hm:lastMarks [op,op'] [b,c]=false:=by with_unfolding_all rfl):aI X G E (.Compare a [op,op'] [b,c] pos) (qZ f f' ma mb mc):=λhK=>
 PE.imp (SK ho Es (ha hK) (hb hK) (hc hK) hm) λ_ _ _ t=>UZ hd Dj t
def mU (G:Cfg) (r:V->Hp->VK->Prop) (f:Dv->Hs->Rs Dv):Prop:=∀(E:XK) (μ:Nat->ai) (h:Hs) (H:Hp) (x:Dv) (vx:V) (Q:VK),Bw G μ h H->Bo G μ h.length H x vx->Out G E μ h.length H (f x h) (Bo G) Q->r vx H Q
def m1 (f:Dv->Hs->Rs Dv) (ma:M Dv):M Dv:=λρ h=>(ma ρ h).bind f
theorem VB {op:UnaryOp}{r:V->Hp->VK->Prop}{f:Dv->Hs->Rs Dv}(ho:wC X (unaryOp op) r) (hd:mU G r f) (ha:aI X G E a ma):aI X G E (.UnaryOp op a pos) (m1 f ma):=λhK=>PE.imp (R5 ho (ha hK)) λσ H Q ⟨μ,ρ,h,rs,s,o⟩=>eV rs s o λμ1 x h1 vx H1 x1 Cb s1 r1 o1=>hd E μ1 h1 H1 x vx Q s1 r1 o1
variable{tA tB':M Bool}{rest:List bj}
def jH (t u:M Bool):M Bool:=λρ h=>(t ρ h).bind λc h1=>if c=true then u ρ h1 else .ok false h1
def dU (t u:M Bool):M Bool:=λρ h=>(t ρ h).bind λc h1=>if c=true then .ok true h1 else u ρ h1
def cO (t:M Bool):M Bool:=λρ h=>(t ρ h).bind λc h1=>.ok (!c) h1
def Dd (X:Cx) (G:Cfg) (E:XK) (pe:bj) (m:M Bool):Prop:=X.K=G.K->PW X pe (iG G E m)
theorem Dd.t {pe:bj}{m:M Bool}(h:Dd X G E pe m):gE X G E pe m:=λhK=>(h hK).pt
theorem PW.imp {e:bj}{t t':TT}(h:PW X e t) (i:∀σ H Q,t' σ H Q->t σ H Q):PW X e t':=λwh pins s σ H Q I q=>h wh pins s σ H Q I (i σ H Q q)
theorem IW (ha:gE X G E a tA):Dd X G E (.BoolOp .And [a] pos) tA:=λhK=>QQ (ha hK)
theorem pH (ha:gE X G E a tA):Dd X G E (.BoolOp .Or [a] pos) tA:=λhK=>QR (ha hK)
theorem VC {σ:St}{H:Hp}{Q:Bool->Hp->Prop}(t:iG G E (jH tA tB') σ H Q):GN (iG G E tA) (iG G E tB') σ H Q:=by
 obtain⟨μ,ρ,h,rs,s,o⟩:=t;refine BM rs s o λμ1 k h1 H1 x1 Cb s1 o1=>?_
 cases k with
 |true=>rw[if_pos rfl]at o1 ⊢;exact⟨μ1,ρ,h1,Cb,s1,o1⟩
 |false=>rw[if_neg (by decide)]at o1 ⊢;exact o1.val s1 rfl
theorem VD {σ:St}{H:Hp}{Q:Bool->Hp->Prop}(t:iG G E (dU tA tB') σ H Q):GO (iG G E tA) (iG G E tB') σ H Q:=by
 obtain⟨μ,ρ,h,rs,s,o⟩:=t;refine BM rs s o λμ1 k h1 H1 x1 Cb s1 o1=>?_
 cases k with
 |false=>rw[if_neg (by decide)]at o1 ⊢;exact⟨μ1,ρ,h1,Cb,s1,o1⟩
 |true=>rw[if_pos rfl]at o1 ⊢;exact o1.val s1 rfl
theorem IX (ha:gE X G E a tA) (hb:Dd X G E (.BoolOp .And (b::rest) pos) tB'):Dd X G E (.BoolOp .And (a::b::rest) pos) (jH tA tB'):=λhK=>PW.imp (QS (ha hK) (hb hK)) λ_ _ _ t=>VC t
theorem oF (ha:gE X G E a tA) (hb:Dd X G E (.BoolOp .Or (b::rest) pos) tB'):Dd X G E (.BoolOp .Or (a::b::rest) pos) (dU tA tB'):=λhK=>PW.imp (QT (ha hK) (hb hK)) λ_ _ _ t=>VD t
theorem iV (ha:gE X G E a tA):gE X G E (.UnaryOp .Not a pos) (cO tA):=λhK=>PT.imp (QU (ha hK)) λσ H Q ⟨μ,ρ,h,rs,s,o⟩=>BM rs s o λμ1 k h1 H1 x1 Cb s1 o1=>o1.val s1 rfl
def eK (m u:M Dv):M Dv:=λρ h=>(m ρ h).bind λd h1=>match d with
 | .bl true=>u ρ h1
 | .bl false=>.ok (.bl false) h1
 |_=>.bad
def mV:Dv->Hs->Rs Dv
 | .bl b,h=>.ok (.bl (!b)) h
 |_,_=>.bad
theorem pI {op} {m:M Dv}(h:aI X G E a m):aI X G E (.BoolOp op [a] pos) m:=λhK=>QX (h hK)
theorem pJ (ha:aI X G E a ma) (hb:aI X G E (.BoolOp .And (b::rest) pos) mb):aI X G E (.BoolOp .And (a::b::rest) pos) (eK ma mb):=λhK=>PE.imp (QY (ha hK) (hb hK)) λσ H Q ⟨μ,ρ,h,rs,s,o⟩=>
 eV rs s o λμ1 x h1 vx H1 x1 Cb s1 r1 o1=>by
  cases x with
  |bl k=>
   refine⟨k,r1, ?_⟩
   cases k with
   |true=>exact IB ⟨μ1,ρ,h1,Cb,s1,o1⟩
   |false=>exact IA (o1.val s1 rfl)
  |_=>exact o1.elim
theorem BO (ha:aI X G E a ma):aI X G E (.UnaryOp .Not a pos) (m1 mV ma):=λhK=>PE.imp (QZ (ha hK)) λσ H Q ⟨μ,ρ,h,rs,s,o⟩=>
 eV rs s o λμ1 x h1 vx H1 x1 Cb s1 r1 o1=>by
  cases x with
  |bl k=>exact⟨k,r1,o1.val s1 rfl⟩
  |_=>exact o1.elim
def fF:Dv->Hs->Rs Bool
 | .non,h=>.ok false h
 | .bl b,h=>.ok b h
 | .int i,h=>.ok (i != 0) h
 | .tup xs,h=>.ok (!xs.isEmpty) h
 | .ref i,h=>match getL h i with
  |some xs=>.ok (!xs.isEmpty) h
  |none=>.bad
 |_,_=>.bad
def bO (m:M Dv):M Bool:=λρ h=>(m ρ h).bind fF
theorem IY {μ:Nat->ai}{n:Nat}{H:Hp}{ds:Bh}{vs:Hf}(r:RelDL G μ n H ds vs):vs.isEmpty=ds.isEmpty:=by
 have:=r.length
 cases ds <;> cases vs <;> simp_all
theorem gF (ha:aI X G E a ma) (he:∀whole,isTrue a X.env whole=(do let v <-whole;standAt a.pos;holding [v] (truthy v)):=by intro _;rfl):gE X G E a (bO ma):=λhK=>PT.imp (SQ (ha hK) he) λσ H Q ⟨μ,ρ,h,rs,s,o⟩=>
 eV rs s o λμ1 x h1 vx H1 x1 Cb s1 r1 o1=>by
  cases x with
  |non=>rw[Bo]at r1;subst r1;exact⟨_,rfl,o1.val s1 rfl⟩
  |bl k=>rw[Bo]at r1;subst r1;exact⟨_,rfl,o1.val s1 rfl⟩
  |int i=>rw[Bo]at r1;subst r1;exact⟨_,rfl,o1.val s1 rfl⟩
  |tup ds=>obtain⟨p,vs,rfl,e,r⟩:=r1;exact⟨_,.inr (.inl ⟨vs,Gb e,rfl⟩),by rw[IY r];exact o1.val s1 rfl⟩
  |ref i=>
   obtain⟨hi,rfl⟩:=r1;dsimp only[fF]at o1
   cases q:getL h1 i with
   |none=>rw[q]at o1;exact o1.elim
   |some xs=>obtain⟨vs,e,r⟩:=s1.ob i _ (cW q);rw[q]at o1;exact⟨_,.inl ⟨vs,Gn e,rfl⟩,by rw[IY r];exact o1.val s1 rfl⟩
  |_=>exact o1.elim
end
end L2.Mr
open L2.Mr.Dv renaming int->Fx,ref->Gk,bl->Gw,tup->Gy
open L2.Mr.Ob renaming lst->Fy,clo->Gr
open L2.Mr.Ext renaming same->F',refl->Gj
open L2.Mr.RelDL renaming mono->Ga,nil->Ge,cons->Gf
open L2.Mr.PE renaming imp->Gg
open L2.Mr.Bo renaming mono->Gi
open L2.Mr.Rs renaming ok->Gp
open L2.Mr.Dd renaming t->Gz
namespace L2
section
variable{Pg:bh}{w:cj}{P:ai->Prop}{H:Hp}{s:ag}
theorem VE (hok:Cw Pg w H s.heap) (n:Nat) (A:bw) (d d':Dt) (v v':V) (u u':af) (hn:eU d<=n) (hu:A.units+n+1<cLine) (n1:nod d=true) (n2:nod d'=true) (h:Den P H d v) (h':Den P H d' v') (r:RelV v u) (r':RelV v' u'):
  SeqAt.RcNeAt A s u u' (!bD d d'):=by
 have Cc:A.units<cLine:=by omega
 have Dm:1<=n->∀(d d':Dt) (u u':af),eU d<=n - 1->nod d=true->nod d'=true->Vw P H s d u->Vw P H s d' u'->kr A.in1 s u u' (bD d d'):=λhd d d' u u' a b c e f=>(BK hok (n - 1) A.in1 d d' u u' a (by show A.units+1+(n - 1)+1<cLine;omega) b c e f).2;have k:=vw hok n1 h r;have k':=vw hok n2 h' r'
 clear h h' r r'
 cases k <;> cases k'
 case tup.tup ds a1 vs1 its1 e1 g1 q1 tp1 Di a2 Fh Dc e2 g2 q2 tp2=>
  rw[nod]at n1 n2;rw[eU]at hn;have hl1:=g1.length;have hl2:=g2.length;have hq1:=q1.length;have hq2:=q2.length;rw[bD];have z:=SeqAt.RcNeAt.tuples (e:=λj=>bD (ds.getD j .non) (Di.getD j .non)) tp1 tp2 Cc (wQ hok (Dm (by omega)) (by omega) n1 n2 g1 g2 q1 q2);have s1:its1.toArray.size=ds.length:=by simp;omega
  have s2:Dc.toArray.size=Di.length:=by simp;omega
  rw[s1,s2]at z
  by_cases hlen:ds.length=Di.length
  ·rw[tK hlen];rw[<-hlen,Af]at z;simpa using z
  ·rw[tL hlen];rw[show(ds.length==Di.length)=false from beq_eq_false_iff_ne.mpr hlen,qk]at z;exact z
 case lst.lst ds a1 vs1 its1 e1 g1 q1 tp1 Di a2 Fh Dc e2 g2 q2 tp2=>
  rw[nod]at n1 n2;rw[eU]at hn;have hl1:=g1.length;have hl2:=g2.length;have hq1:=q1.length;have hq2:=q2.length;rw[bD]
  by_cases hlen:ds.length=Di.length
  ·have z:=SeqAt.RcNeAt.lists (e:=λj=>bD (ds.getD j .non) (Di.getD j .non)) tp1 tp2 (by simp;omega) Cc (wQ hok (Dm (by omega)) (by omega) n1 n2 g1 g2 q1 q2);rw[tK hlen];simpa[hq1.symm,hl1]using z
  ·rw[tL hlen];exact SeqAt.RcNeAt.lists_lengths tp1 tp2 (by simp;omega) Cc
 case non.non=>exact .none_none
 case non.bl=>exact .none_bool _
 case non.int=>exact .none_int _ _
 case non.str=>exact .none_str _ _
 case non.tup=>exact .none_tuple ‹_› Cc
 case non.lst=>exact .none_list ‹_› Cc
 case bl.non=>exact .bool_none _
 case bl.bl=>exact .bool_bool _ _
 case bl.int=>exact .bool_int _ _ _
 case bl.str=>exact .bool_str _ _ _
 case bl.tup=>exact .bool_tuple _ ‹_› Cc
 case bl.lst=>exact .bool_list _ ‹_› Cc
 case int.non=>exact .int_none _ _
 case int.bl=>exact .int_bool _ _ _
 case int.int=>exact .int_int _ _ _ _
 case int.str=>exact .int_str _ _ _ _
 case int.tup=>exact .int_tuple _ _ ‹_› Cc
 case int.lst=>exact .int_list _ _ ‹_› Cc
 case str.non=>exact .str_none _ _
 case str.bl=>exact .str_bool _ _ _
 case str.int=>exact .str_int _ _ _ _
 case str.str=>exact .str_str _ _ _ _
 case str.tup=>exact .str_tuple _ _ ‹_› Cc
 case str.lst=>exact .str_list _ _ ‹_› Cc
 case tup.non=>exact .tuple_none ‹_› Cc
 case tup.bl=>exact .tuple_bool _ ‹_› Cc
 case tup.int=>exact .tuple_int _ _ ‹_› Cc
 case tup.str=>exact .tuple_str _ _ ‹_› Cc
 case tup.lst=>exact .tuple_list ‹_› ‹_› Cc
 case lst.non=>exact .list_none ‹_› Cc
 case lst.bl=>exact .list_bool _ ‹_› Cc
 case lst.int=>exact .list_int _ _ ‹_› Cc
 case lst.str=>exact .list_str _ _ ‹_› Cc
 case lst.tup=>exact .list_tuple ‹_› ‹_› Cc
end
end L2
namespace L2.Mr
def bP {α β:Type}(f:α->Option β):List α->Option (List β)
 | []=>some []
 |x::xs=>match f x with
  |none=>none
  |some y=>match bP f xs with
   |none=>none
   |some ys=>some (y::ys)
def bC:Nat->Hs->Dv->Option Dt
 |0,_,_=>none
 |k+1,h,d=>match d with
  | .non=>some .non
  | .bl b=>some (.bl b)
  | .int i=>some (.int i)
  | .str x=>some (.str x)
  | .tup xs=>match bP (bC k h) xs with
   |some ts=>some (.tup ts)
   |none=>none
  | .ref i=>match getL h i with
   |some xs=>match bP (bC k h) xs with
    |some ts=>some (.lst ts)
    |none=>none
   |none=>none
  |_=>none
abbrev jW:ai->Prop:=λ_=>True
section
variable{G:Cfg}{μ:Nat->ai}{h:Hs}{H:Hp}
theorem rA (s:Bw G μ h H):∀(k:Nat) (d:Dv) (v:V) (t:Dt),Bo G μ h.length H d v->bC k h d=some t->Den jW H t v/\eU t<=k/\nod t=true:=by
 intro k
 induction k with
 |zero=>intro d v t _ e;cases e
 |succ k ih=>
  have il:∀(xs:Bh) (vs:Hf) (ts:List Dt),RelDL G μ h.length H xs vs->bP (bC k h) xs=some ts->Bu jW H ts vs/\mT ts<=k/\kP ts=true:=by
   intro xs
   induction xs with
   |nil=>intro vs ts r e;cases e;rw[RelDL]at r;subst r;exact⟨Bu.nil,by simp[mT],rfl⟩
   |cons x xs ihx=>
    intro vs ts r e;rw[RelDL]at r;obtain⟨v,rr,rfl,r1,r2⟩:=r;unfold bP at e
    cases q:bC k h x with
    |none=>rw[q]at e;cases e
    |some y=>
     rw[q]at e;dsimp only at e
     cases q2:bP (bC k h) xs with
     |none=>rw[q2]at e;cases e
     |some ys=>rw[q2]at e;cases e;obtain⟨a1,a2,a3⟩:=ih x v y r1 q;obtain⟨b1,b2,b3⟩:=ihx rr ys r2 q2;exact⟨Bu.cons a1 b1,by rw[mT];omega,by rw[kP,a3,b3];rfl⟩
  intro d v t r e;unfold bC at e
  cases d with
  |non=>cases e;rw[Bo]at r;subst r;exact⟨by rw[Den],by simp[eU],rfl⟩
  |bl b=>cases e;rw[Bo]at r;subst r;exact⟨by rw[Den],by simp[eU],rfl⟩
  |int b=>cases e;rw[Bo]at r;subst r;exact⟨by rw[Den],by simp[eU],rfl⟩
  |str b=>cases e;rw[Bo]at r;subst r;exact⟨by rw[Den],by simp[eU],rfl⟩
  |tup xs=>
   dsimp only at e
   cases q:bP (bC k h) xs with
   |none=>rw[q]at e;cases e
   |some ts=>rw[q]at e;cases e;obtain⟨a,vs,rfl,e1,r1⟩:=r;obtain⟨b1,b2,b3⟩:=il xs vs ts r1 q;exact⟨by rw[Den];exact⟨a,vs,rfl,e1,b1⟩,by rw[eU];omega,by rw[nod];exact b3⟩
  |ref i=>
   dsimp only at e
   cases g:getL h i with
   |none=>rw[g]at e;cases e
   |some xs=>
    rw[g]at e;dsimp only at e
    cases q:bP (bC k h) xs with
    |none=>rw[q]at e;cases e
    |some ts=>rw[q]at e;cases e;obtain⟨hi,rfl⟩:=r;obtain⟨vs,e1,r1⟩:=s.ob i _ (cW g);obtain⟨b1,b2,b3⟩:=il xs vs ts r1 q;exact⟨by rw[Den];exact⟨_,vs,rfl,trivial,e1,b1⟩,by rw[eU];omega,by rw[nod];exact b3⟩
  |edc=>cases e
  |exc c=>cases e
  |scr=>cases e
end
def bZ:Nat:=30
def bT (x y:Dv) (h:Hs):Rs Dv:=match bC bZ h x,bC bZ h y with
 |some s,some t=>.ok (.bl (bD s t)) h
 |_,_=>.bad
def cD (x y:Dv) (h:Hs):Rs Dv:=match bC bZ h x,bC bZ h y with
 |some s,some t=>.ok (.bl (!bD s t)) h
 |_,_=>.bad
def wY (neg:Bool):R2:=λx y H Q=>∃t t',Den jW H t x/\Den jW H t' y/\eU t<=bZ/\nod t=true/\nod t'=true/\Q (.bl (if neg then !bD t t' else bD t t')) H
section
variable{X:Cx}{G:Cfg}
theorem IZ (hu:X.A.units+64<cLine):Cr X (compareOp .Eq) (wY false):=by intro pins s σ H x y v u Q I r1 r2 ⟨t,t',d,d',hd,n1,n2,q⟩;exact EqBoolInt.of_rc (IV I.hok bZ X.A t t' x y v u hd (by unfold bZ;omega) n1 n2 d d' r1 r2).1 ⟨.bl _,H,I,rfl,q⟩
theorem VF (hu:X.A.units+64<cLine):Cr X (compareOp .NotEq) (wY true):=by intro pins s σ H x y v u Q I r1 r2 ⟨t,t',d,d',hd,n1,n2,q⟩;exact EqBoolInt.of_rcne (VE I.hok bZ X.A t t' x y v u hd (by unfold bZ;omega) n1 n2 d d' r1 r2) ⟨.bl _,H,I,rfl,q⟩
theorem JA:fR G (wY false) bT:=by
 intro E μ h H x y vx vy Q s rx ry o;unfold bT at o
 split at o
 ·rename_i t t' e e';obtain⟨a1,a2,a3⟩:=rA s _ x vx t rx e;obtain⟨b1,b2,b3⟩:=rA s _ y vy t' ry e';exact⟨t,t',a1,b1,a2,a3,b3,o.val s rfl⟩
 ·exact o.elim
theorem VG:fR G (wY true) cD:=by
 intro E μ h H x y vx vy Q s rx ry o;unfold cD at o
 split at o
 ·rename_i t t' e e';obtain⟨a1,a2,a3⟩:=rA s _ x vx t rx e;obtain⟨b1,b2,b3⟩:=rA s _ y vy t' ry e';exact⟨t,t',a1,b1,a2,a3,b3,o.val s rfl⟩
 ·exact o.elim
end
def iH (g:Int->Int->Dv):Dv->Dv->Hs->Rs Dv
 | .int i,.int j,h=>.ok (g i j) h
 |_,_,_=>.bad
def lG (C:Int->Int->Bool) (g:Int->Int->Dv):Dv->Dv->Hs->Rs Dv
 | .int i,.int j,h=>if C i j=true then .ok (g i j) h else .bad
 |_,_,_=>.bad
section
variable{X:Cx}{G:Cfg}
theorem VH {f:Int->Int->Int}:fR G (jU λi j=>.int (f i j)) (iH λi j=>.int (f i j)):=by
 intro E μ h H x y vx vy Q s rx ry o
 cases x with
 |int i=>
  cases y with
  |int j=>exact⟨i,j,rx,ry,o.val s rfl⟩
  |_=>exact o.elim
 |_=>exact o.elim
theorem rB {f:Int->Int->Bool}:fR G (jU λi j=>.bl (f i j)) (iH λi j=>.bl (f i j)):=by
 intro E μ h H x y vx vy Q s rx ry o
 cases x with
 |int i=>
  cases y with
  |int j=>exact⟨i,j,rx,ry,o.val s rfl⟩
  |_=>exact o.elim
 |_=>exact o.elim
theorem wZ {C:Int->Int->Prop}{B:Int->Int->Bool}{f:Int->Int->Int}(hB:∀i j,B i j=true->C i j):fR G (rI C λi j=>.int (f i j)) (lG B λi j=>.int (f i j)):=by
 intro E μ h H x y vx vy Q s rx ry o
 cases x with
 |int i=>
  cases y with
  |int j=>
   dsimp only[lG]at o
   split at o
   ·rename_i hb;exact⟨i,j,rx,ry,hB i j hb,o.val s rfl⟩
   ·exact o.elim
  |_=>exact o.elim
 |_=>exact o.elim
def jI (i:Int):Bool:=decide (-18446744073709551616<i)&&decide (i<18446744073709551616)
def xA (i j:Int):Bool:=jI i||jI j
theorem VI (i j:Int) (h:xA i j=true):CMul i j:=by
 unfold xA jI at h;unfold CMul;simp only[Bool.or_eq_true,cx,decide_eq_true_eq]at h
 rcases h with h|h
 ·exact .inl ⟨by omega,by omega⟩
 ·exact .inr ⟨by omega,by omega⟩
def rD (_ j:Int):Bool:=decide (0<j)
theorem VJ (i j:Int) (h:rD i j=true):0<j:=by unfold rD at h;simpa using h
def tO (i j:Int):Bool:=decide (0<=j)&&decide (j<=1000000)&&decide (i.natAbs<18446744073709551616)
theorem VL (i j:Int) (h:tO i j=true):A2 i j:=by unfold tO at h;unfold A2;simp only[cx,decide_eq_true_eq]at h;exact⟨h.1.1,h.1.2,by have:=h.2;omega⟩
def kQ:Dv->Dv->Hs->Rs Dv
 | .int i,.int j,h=>.ok (.int (i+j)) h
 | .ref i,.ref j,h=>match getL h i,getL h j with
  |some xs,some ys=>lim (xs.length+ys.length) (.ok (.ref h.length) (h++[.lst (xs++ys)]))
  |_,_=>.bad
 | .tup xs,.tup ys,h=>if xs.isEmpty=true then .bad else lim (xs.length+ys.length) (.ok (.tup (xs++ys)) h)
 |_,_,_=>.bad
def BP (K:ao):R2:=λx y H Q=>(jU λi j=>.int (i+j)) x y H Q∨HX x y H Q∨HL K x y H Q
theorem VM:Cr X (binaryOp .Add) (BP X.K):=op_add.or (op_cat.or TY)
theorem VN:fR G (BP G.K) kQ:=by
 intro E μ h H x y vx vy Q s rx ry o
 cases x with
 |int i=>
  cases y with
  |int j=>exact .inl ⟨i,j,rx,ry,o.val s rfl⟩
  |_=>exact o.elim
 |ref i=>
  cases y with
  |ref j=>
   dsimp only[kQ]at o
   cases g1:getL h i with
   |none=>rw[g1]at o;exact o.elim
   |some xs=>
    cases g2:getL h j with
    |none=>rw[g1,g2]at o;exact o.elim
    |some ys=>
     rw[g1,g2]at o;dsimp only at o;unfold lim at o
     split at o
     ·rename_i hl;obtain⟨vs,e1,r1⟩:=s.ob i _ (cW g1);obtain⟨ws,e2,r2⟩:=s.ob j _ (cW g2);obtain⟨_,rfl⟩:=rx;obtain⟨_,rfl⟩:=ry;exact .inr (.inl ⟨_,_,vs,ws,rfl,rfl,e1,e2,by rw[r1.length,r2.length];exact tM hl,λp hp=>oE s (r1.append r2) hp o⟩)
     ·exact o.elim
  |_=>exact o.elim
 |tup xs=>
  cases y with
  |tup ys=>
   dsimp only[kQ]at o
   split at o
   ·exact o.elim
   ·rename_i hne;unfold lim at o
    split at o
    ·rename_i hl;obtain⟨a,vs,rfl,e1,r1⟩:=rx;obtain⟨b,ws,rfl,e2,r2⟩:=ry;refine .inr (.inr ⟨a,b,vs,ws,rfl,rfl,Gb e1,Gb e2, ?_,by rw[r1.length,r2.length];exact tM hl,λz=>?_,λ_ p hp=>?_⟩)
     ·intro z;subst z;have:=r1.length
      cases xs <;> simp_all
     ·subst z;have e3:ys=[]:=by have:=r2.length;cases ys <;> simp_all
      subst e3;refine o.val s ?_;rw[uf];exact⟨a,vs,rfl,e1,r1⟩
     ·exact o μ _ _ (F' (cK hp)) (s.same (cK hp)) ⟨p,_,rfl,cR,Ga (F' (cK hp)) _ _ (r1.append r2)⟩
    ·exact o.elim
  |_=>exact o.elim
 |_=>exact o.elim
def jX (xs:Bh) (i:Int) (h:Hs):Rs Dv:=match gD xs i with
 |some d=>.ok d h
 |none=>.bad
def gG (scr:Bd):Dv->Dv->Hs->Rs Dv
 | .tup xs,.int i,h=>jX xs i h
 | .ref k,.int i,h=>match getL h k with
  |some xs=>jX xs i h
  |none=>.bad
 | .scr,.int i,h=>jX (scr.map Fx) i h
 |_,_,_=>.bad
theorem rE {μ:Nat->ai}{n:Nat}{H:Hp}:∀ns:Bd,RelDL G μ n H (ns.map Fx) (ns.map Gh)
 | []=>Ge
 |i::ns=>Gf rfl (rE ns)
theorem BQ {E:XK}{μ:Nat->ai}{h:Hs}{H:Hp}{xs:Bh}{vs:Hf}{i:Int}{Q:VK}(s:Bw G μ h H) (r:RelDL G μ h.length H xs vs) (o:Out G E μ h.length H (jX xs i h) (Bo G) Q):∃v,gD vs i=some v/\Q v H:=by
 unfold jX at o
 cases e:gD xs i with
 |none=>rw[e]at o;exact o.elim
 |some d=>
  rw[e]at o;unfold gD at e ⊢;rw[r.length]
  cases q:eI xs.length i with
  |none=>rw[q]at e;cases e
  |some j=>rw[q]at e;obtain⟨v,e1,r1⟩:=r.get e;exact⟨v,e1,o.val s r1⟩
theorem JB:fR G (A9 G.K) (gG G.scr):=by
 intro E μ h H x y vx vy Q s rx ry o
 cases y with
 |int i=>
  cases x with
  |tup xs=>obtain⟨a,vs,rfl,e1,r1⟩:=rx;obtain⟨v,e2,q⟩:=BQ s r1 o;exact .inr (.inl ⟨a,vs,i,v,rfl,ry,Gb e1,e2,q⟩)
  |ref k=>
   dsimp only[gG]at o
   cases g:getL h k with
   |none=>rw[g]at o;exact o.elim
   |some xs=>rw[g]at o;obtain⟨vs,e1,r1⟩:=s.ob k _ (cW g);obtain⟨_,rfl⟩:=rx;obtain⟨v,e2,q⟩:=BQ s r1 o;exact .inl ⟨_,vs,i,v,rfl,ry,Gn e1,e2,q⟩
  |scr=>obtain⟨rfl,hf⟩:=rx;obtain⟨v,e2,q⟩:=BQ s (rE G.scr) o;exact .inl ⟨_,_,i,v,rfl,ry,hf.sq,e2,q⟩
  |_=>exact o.elim
 |_=>cases x <;> exact o.elim
theorem VO {E:XK}{a b:bj}{ma mb:M Dv}{pos:Pos}(ha:aI X G E a ma) (hb:aI X G E b mb) (hs:A7 b:=by intro _ _;rfl):aI X G E (.Subscript a b pos) (m2 (gG G.scr) ma mb):=λhK=>Gg (HM (by have:=HR (X:=X);rw[hK]at this;exact this) (ha hK) (hb hK) hs) λ_ _ _ t=>tN JB t
theorem BR:dy "tuple" = some (.type "tuple"):=by decide +kernel
theorem xB:dy "list" = some (.type "list"):=by decide +kernel
theorem VP:dy "max" = some (.builtin "max"):=by decide +kernel
theorem VQ:dy "min" = some (.builtin "min"):=by decide +kernel
variable{E:XK}{aR:M Bh }{e:bj}{es:List bj}{x:Str}{p pos:Pos}{id T:String}
def pK (G:Cfg) (r:Hf->Hp->VK->Prop) (f:Bg):Prop:=∀(E:XK) (μ:Nat->ai) (h:Hs) (H:Hp) (xs:Bh) (vs:Hf) (Q:VK),Bw G μ h H->RelDL G μ h.length H xs vs->Out G E μ h.length H (f xs h) (Bo G) Q->r vs H Q
def aF (f:Bg) (ms:M Bh ):M Dv:=λρ h=>(ms ρ h).bind f
theorem JC {r:Hf->Hp->VK->Prop}{f:Bg}(hd:pK G r f) {σ:St}{H:Hp}{Q:VK}(t:iA G E (aF f aR) σ H Q):wG r (BL G E aR) σ H Q:=by obtain⟨μ,ρ,h,rs,s,o⟩:=t;exact jV rs s o λμ1 ds h1 vs H1 x1 Cb s1 r1 o1=>hd E μ1 h1 H1 ds vs Q s1 r1 o1
theorem tP {r:Hf->Hp->VK->Prop}{f:Bg}(hc:Bv X (.builtin id) r) (hd:pK G r f) (hg:Gl X x) (hm:X.mg x=none) (hv:dy x=some (.builtin id)) (ha:dX X G E (e::es) aR) (hn:x ≠ "__name__" := by decide) (Ed:(x==He)=false:=by decide)
  (he:aw (e::es) X.env=(false,eval e X.env)::aw es X.env:=by rfl) (Dh:(backTo pos (aw es X.env)).any (·.1)=false:=by rfl):aI X G E (.Call (.Name x p) (e::es) [] pos) (aF f aR):=λhK=>
 Gg (qV hc hg hm hv (ha hK) hn Ed he Dh) λ_ _ _ t=>JC hd t
theorem JD {r:Hf->Hp->VK->Prop}{f:Bg}(hc:Bv X (.type T) r) (hd:pK G r f) (hg:Gl X x) (hm:X.mg x=none) (hv:dy x=some (.type T)) (ha:dX X G E (e::es) aR) (hn:x ≠ "__name__" := by decide) (Ed:(x==He)=false:=by decide)
  (he:aw (e::es) X.env=(false,eval e X.env)::aw es X.env:=by rfl) (Dh:(backTo pos (aw es X.env)).any (·.1)=false:=by rfl):aI X G E (.Call (.Name x p) (e::es) [] pos) (aF f aR):=λhK=>
 Gg (tF hc hg hm hv (ha hK) hn Ed he Dh) λ_ _ _ t=>JC hd t
def eW (scr:Bd):Dv->Hs->Option Bh 
 | .tup xs,_=>some xs
 | .ref i,h=>getL h i
 | .scr,_=>some (scr.map Fx)
 |_,_=>none
def f1 (g:Dv->Hs->Rs Dv):Bg
 | [d],h=>g d h
 |_,_=>.bad
def gH (scr:Bd) (d:Dv) (h:Hs):Rs Dv:=match eW scr d h with
 |some xs=>.ok (.int xs.length) h
 |none=>.bad
theorem rF {μ:Nat->ai}{n:Nat}{H:Hp}{d:Dv}{vs:Hf}(r:RelDL G μ n H [d] vs):∃v,vs=[v]/\Bo G μ n H d v:=by rw[RelDL]at r;obtain⟨v,rr,rfl,h1,h2⟩:=r;rw[RelDL]at h2;subst h2;exact⟨v,rfl,h1⟩
theorem tQ {r:V->Hp->VK->Prop}{g:Dv->Hs->Rs Dv}(hg:mU G r g):pK G (λxs H Q=>∃v,xs=[v]/\r v H Q) (f1 g):=by
 intro E μ h H xs vs Q s rr o
 match xs,rr,o with
 | [],_,o=>exact o.elim
 |_::_::_,_,o=>exact o.elim
 | [d],rr,o=>obtain⟨v,rfl,r1⟩:=rF rr;exact⟨v,rfl,hg E μ h H d v Q s r1 o⟩
theorem rG {μ:Nat->ai}{n:Nat}{H:Hp}{d d':Dv}{vs:Hf}(r:RelDL G μ n H [d,d'] vs):∃v v',vs=[v,v']/\Bo G μ n H d v/\Bo G μ n H d' v':=by rw[RelDL]at r;obtain⟨v,rr,rfl,h1,h2⟩:=r;obtain⟨v',rfl,h3⟩:=rF h2;exact⟨v,v',rfl,h1,h3⟩
theorem BS {μ:Nat->ai}{h:Hs}{H:Hp}{d:Dv}{v:V}{xs:Bh}(s:Bw G μ h H) (r:Bo G μ h.length H d v) (e:eW G.scr d h=some xs):∃a vs,v=.ref a/\(Cg G.K H a vs∨Ca G.K H a vs)/\RelDL G μ h.length H xs vs:=by
 cases d with
 |tup ds=>cases e;obtain⟨a,vs,rfl,e1,r1⟩:=r;exact⟨a,vs,rfl,.inr (Gb e1),r1⟩
 |ref i=>obtain⟨_,rfl⟩:=r;obtain⟨vs,e1,r1⟩:=s.ob i _ (cW e);exact⟨_,vs,rfl,.inl (Gn e1),r1⟩
 |scr=>cases e;obtain⟨rfl,hf⟩:=r;exact⟨_,_,rfl,.inl hf.sq,rE _⟩
 |_=>cases e
def JE (K:ao):V->Hp->VK->Prop:=λx H Q=>∃p ys,x=.ref p/\(Cg K H p ys∨Ca K H p ys)/\Q (.int ys.length) H
theorem JF:mU G (JE G.K) (gH G.scr):=by
 intro E μ h H d v Q s r1 o;unfold gH at o
 cases e:eW G.scr d h with
 |none=>rw[e]at o;exact o.elim
 |some ys=>rw[e]at o;obtain⟨a,ws,rfl,hs,r2⟩:=BS s r1 e;exact⟨a,ws,rfl,hs,by rw[r2.length];exact o.val s rfl⟩
theorem Bv.imp {f:af}{r r':Hf->Hp->VK->Prop}(h:Bv X f r) (i:∀xs H Q,r' xs H Q->r xs H Q):Bv X f r':=λpins s σ H xs us Q I rv q=>h pins s σ H xs us Q I rv (i xs H Q q)
theorem JG (hg:Gl X "len") (hm:X.mg "len" = none) (ha:dX X G E (e::es) aR)
  (he:aw (e::es) X.env=(false,eval e X.env)::aw es X.env:=by rfl) (Dh:(backTo pos (aw es X.env)).any (·.1)=false:=by rfl):aI X G E (.Call (.Name "len" p) (e::es) [] pos) (aF (f1 (gH G.scr)) aR):=λhK=>
 tP (Bv.imp (HS (X:=X)) λxs H Q ⟨v,h1,a,ys,h2,h3,h4⟩=>⟨a,ys,by rw[h1,h2],by rw[hK];exact h3,h4⟩) (tQ JF) hg hm yi ha (by decide) (by decide) he Dh hK
def mW:Bg
 | [.int i,.int j],h=>.ok (.int (if j>i then j else i)) h
 |_,_=>.bad
def rH:Bg
 | [.int i,.int j],h=>.ok (.int (if j<i then j else i)) h
 |_,_=>.bad
theorem JH {f:Bg}{g:Int->Int->Int}(h2:∀i j h,f [.int i,.int j] h=.ok (.int (g i j)) h) (hb:∀xs h,(∀i j,xs≠[.int i,.int j])->f xs h=.bad):
  pK G (λxs H Q=>∃i j,xs=[.int i,.int j]/\Q (.int (g i j)) H) f:=by
 intro E μ h H xs vs Q s r o
 by_cases hx:∃i j,xs=[.int i,.int j]
 ·obtain⟨i,j,rfl⟩:=hx;obtain⟨v,v',rfl,r1,r2⟩:=rG r;rw[Bo]at r1 r2;subst r1;subst r2;rw[h2]at o;exact⟨i,j,rfl,o.val s rfl⟩
 ·rw[hb xs h (λi j e=>hx ⟨i,j,e⟩)]at o;exact o.elim
theorem VR:pK G (λxs H Q=>∃i j,xs=[.int i,.int j]/\Q (.int (if j>i then j else i)) H) mW:=JH (λ_ _ _=>rfl) λxs h hx=>by
 unfold mW;split
 ·rename_i i j;exact absurd rfl (hx i j)
 ·rfl
theorem VS:pK G (λxs H Q=>∃i j,xs=[.int i,.int j]/\Q (.int (if j<i then j else i)) H) rH:=JH (λ_ _ _=>rfl) λxs h hx=>by
 unfold rH;split
 ·rename_i i j;exact absurd rfl (hx i j)
 ·rfl
def gN:Dv->Hs->Rs Dv
 | .tup xs,h=>.ok (.tup xs) h
 | .ref i,h=>match getL h i with
  |some xs=>.ok (.tup xs) h
  |none=>.bad
 |_,_=>.bad
def VT (K:ao):V->Hp->VK->Prop:=λx H Q=>∃p ys,x=.ref p/\((Cg K H p ys/\∀l,H l=none->Q (.ref l) (upd H l (.tup ys)))∨(Ca K H p ys/\Q (.ref p) H))
theorem VU:mU G (VT G.K) gN:=by
 intro E μ h H d v Q s r1 o
 cases d with
 |tup ds=>have r1':=r1;obtain⟨a,ws,rfl,e1,r2⟩:=r1;exact⟨a,ws,rfl,.inr ⟨Gb e1,o.val s r1'⟩⟩
 |ref i=>
  dsimp only[gN]at o
  cases g:getL h i with
  |none=>rw[g]at o;exact o.elim
  |some ys=>rw[g]at o;obtain⟨_,rfl⟩:=r1;obtain⟨ws,e1,r2⟩:=s.ob i _ (cW g);exact⟨_,ws,rfl,.inl ⟨Gn e1,λl hl=>o μ _ _ (F' (cK hl)) (s.same (cK hl)) ⟨l,ws,rfl,cR,Ga (F' (cK hl)) _ _ r2⟩⟩⟩
 |_=>exact o.elim
theorem xC (hg:Gl X "tuple") (hm:X.mg "tuple" = none) (ha:dX X G E (e::es) aR)
  (he:aw (e::es) X.env=(false,eval e X.env)::aw es X.env:=by rfl) (Dh:(backTo pos (aw es X.env)).any (·.1)=false:=by rfl):aI X G E (.Call (.Name "tuple" p) (e::es) [] pos) (aF (f1 gN) aR):=λhK=>
 JD (Bv.imp (UA (X:=X)) λxs H Q ⟨v,h1,a,ys,h2,h3⟩=>⟨a,ys,by rw[h1,h2],by rw[hK];exact h3⟩) (tQ VU) hg hm BR ha (by decide) (by decide) he Dh hK
def pM (scr:Bd) (d:Dv) (h:Hs):Rs Dv:=match eW scr d h with
 |some xs=>.ok (.ref h.length) (h++[.lst xs])
 |none=>.bad
theorem VV:mU G (λx H Q=>∃p ys,x=.ref p/\(Cg G.K H p ys∨Ca G.K H p ys)/\∀l,H l=none->Q (.ref l) (upd H l (.lst ys))) (pM G.scr):=by
 intro E μ h H d v Q s r1 o;unfold pM at o
 cases e:eW G.scr d h with
 |none=>rw[e]at o;exact o.elim
 |some ys=>rw[e]at o;obtain⟨a,ws,rfl,hs,r2⟩:=BS s r1 e;exact⟨a,ws,rfl,hs,λl hl=>oE s r2 hl o⟩
theorem JI (hc:X.calm=true) (hg:Gl X "max") (hm:X.mg "max" = none) (ha:dX X G E (e::es) aR)
  (he:aw (e::es) X.env=(false,eval e X.env)::aw es X.env:=by rfl) (Dh:(backTo pos (aw es X.env)).any (·.1)=false:=by rfl):aI X G E (.Call (.Name "max" p) (e::es) [] pos) (aF mW aR):=
 tP (SS hc) VR hg hm VP ha (by decide) (by decide) he Dh
theorem VW (hc:X.calm=true) (hg:Gl X "min") (hm:X.mg "min" = none) (ha:dX X G E (e::es) aR)
  (he:aw (e::es) X.env=(false,eval e X.env)::aw es X.env:=by rfl) (Dh:(backTo pos (aw es X.env)).any (·.1)=false:=by rfl):aI X G E (.Call (.Name "min" p) (e::es) [] pos) (aF rH aR):=
 tP (SU hc) VS hg hm VQ ha (by decide) (by decide) he Dh
end
inductive Sr where
 |nx (ρ:Ev) (h:Hs)|rt (d:Dv) (h:Hs)|bk (ρ:Ev) (h:Hs)|ct (ρ:Ev) (h:Hs)|ex (c:Nat) (h:Hs)|bad
abbrev MS:=Ev->Hs->Sr
def Cp (G:Cfg) (E:XK) (μ:Nat->ai) (n:Nat) (H:Hp) (r:Sr) (D:Ends):Prop:=match r with
 | .nx ρ h'=>∀μ' H' σ',Ext μ n H μ' h'.length H'->Bw G μ' h' H'->Bs G μ' h'.length H' ρ σ'->D.nx σ' H'
 | .bk ρ h'=>∀μ' H' σ',Ext μ n H μ' h'.length H'->Bw G μ' h' H'->Bs G μ' h'.length H' ρ σ'->D.bk σ' H'
 | .ct ρ h'=>∀μ' H' σ',Ext μ n H μ' h'.length H'->Bw G μ' h' H'->Bs G μ' h'.length H' ρ σ'->D.ct σ' H'
 | .rt d h'=>∀μ' H' v,Ext μ n H μ' h'.length H'->Bw G μ' h' H'->Bo G μ' h'.length H' d v->D.rt v H'
 | .ex c h'=>∀μ' H' u,Ext μ n H μ' h'.length H'->Bw G μ' h' H'->wR G H' c u->E u none H'
 | .bad=>False
theorem Cp.ext {G:Cfg}{E:XK}{μ μ1:Nat->ai}{n n1:Nat}{H H1:Hp}{r:Sr}{D:Ends}(o:Cp G E μ n H r D) (x:Ext μ n H μ1 n1 H1):Cp G E μ1 n1 H1 r D:=by
 cases r with
 |nx ρ h'=>exact λμ' H' σ' y=>o μ' H' σ' (x.trans y)
 |bk ρ h'=>exact λμ' H' σ' y=>o μ' H' σ' (x.trans y)
 |ct ρ h'=>exact λμ' H' σ' y=>o μ' H' σ' (x.trans y)
 |rt d h'=>exact λμ' H' σ' y=>o μ' H' σ' (x.trans y)
 |ex c h'=>exact λμ' H' σ' y=>o μ' H' σ' (x.trans y)
 |bad=>exact o
def xD (G:Cfg) (E:XK) (m:MS):TS:=λD σ H=>∃μ ρ h,Bs G μ h.length H ρ σ/\Bw G μ h H/\Cp G E μ h.length H (m ρ h) D
def hJ (X:Cx) (G:Cfg) (E:XK) (st:ie) (m:MS):Prop:=X.K=G.K->PS X st (xD G E m)
def jJ (X:Cx) (G:Cfg) (E:XK) (st:List ie) (m:MS):Prop:=X.K=G.K->Fw X st (xD G E m)
theorem PS.imp {X:Cx}{e:ie}{t t':TS}(h:PS X e t) (i:∀D σ H,t' D σ H->t D σ H):PS X e t':=λpins s σ H D I q=>h pins s σ H D I (i D σ H q)
theorem Fw.imp {X:Cx}{e:List ie}{t t':TS}(h:Fw X e t) (i:∀D σ H,t' D σ H->t D σ H):Fw X e t':=λpins s σ H D I q=>h pins s σ H D I (i D σ H q)
noncomputable def Rs.thenS {α:Type}(r:Rs α) (f:α->Hs->Sr):Sr:=match r with
 | .ok a h=>f a h
 | .ex c h=>.ex c h
 | .bad=>.bad
@[simp] theorem Rs.thenS_ok {α:Type}(a:α) (h:Hs) (f:α->Hs->Sr):(Gp a h).thenS f=f a h:=rfl
@[simp] theorem Rs.thenS_ex {α:Type}(c:Nat) (h:Hs) (f:α->Hs->Sr):(Rs.ex c h).thenS f=.ex c h:=rfl
@[simp] theorem Rs.thenS_bad {α:Type}(f:α->Hs->Sr):(Rs.bad).thenS f=.bad:=rfl
theorem Cp.thenS {α β:Type}{G:Cfg}{E:XK}{μ:Nat->ai}{n:Nat}{H:Hp}{r:Rs α}{f:α->Hs->Sr}{D:Ends}{R:(Nat->ai)->Nat->Hp->α->β->Prop}
  (o:Cp G E μ n H (r.thenS f) D):Out G E μ n H r R λv H1=>∃μ1 d h1,Ext μ n H μ1 h1.length H1/\Bw G μ1 h1 H1/\R μ1 h1.length H1 d v/\Cp G E μ1 h1.length H1 (f d h1) D:=by
 cases r with
 |bad=>exact o
 |ex c h'=>exact o
 |ok d h'=>exact λμ1 H1 v x1 s1 r1=>⟨μ1,d,h',x1,s1,r1,Cp.ext o x1⟩
variable{X:Cx}{G:Cfg}{E:XK}
section
variable{st:ie}{rest:List ie}{m u:MS}{e:bj}{me:M Dv}{pos:Pos}
theorem iW {m:M Dv}{σ:St}{H:Hp}{f:Dv->Hs->Sr}{D:Ends}{Q1:V->Hp->Prop}{μ:Nat->ai}{ρ:Ev}{h:Hs}(rs:Bs G μ h.length H ρ σ) (s:Bw G μ h H) (o:Cp G E μ h.length H ((m ρ h).thenS f) D)
  (k:∀μ1 d h1 v H1,Ext μ h.length H μ1 h1.length H1->Bs G μ1 h1.length H1 ρ σ->Bw G μ1 h1 H1->Bo G μ1 h1.length H1 d v->Cp G E μ1 h1.length H1 (f d h1) D->Q1 v H1):iA G E m σ H Q1:=
 ⟨μ,ρ,h,rs,s,(o.thenS (R:=Bo G)).mono λv H1 ⟨μ1,d,h1,x,s1,r1,o1⟩=>k μ1 d h1 v H1 x (rs.mono x) s1 r1 o1⟩
theorem JJ {m:M Bool}{σ:St}{H:Hp}{f:Bool->Hs->Sr}{D:Ends}{Q1:Bool->Hp->Prop}{μ:Nat->ai}{ρ:Ev}{h:Hs}(rs:Bs G μ h.length H ρ σ) (s:Bw G μ h H) (o:Cp G E μ h.length H ((m ρ h).thenS f) D)
  (k:∀μ1 b h1 H1,Ext μ h.length H μ1 h1.length H1->Bs G μ1 h1.length H1 ρ σ->Bw G μ1 h1 H1->Cp G E μ1 h1.length H1 (f b h1) D->Q1 b H1):iG G E m σ H Q1:=
 ⟨μ,ρ,h,rs,s,(o.thenS (R:=RB)).mono λv H1 ⟨μ1,d,h1,x,s1,r1,o1⟩=>by have e:v=d:=r1;subst e;exact k μ1 v h1 H1 x (rs.mono x) s1 o1⟩
def cA:MS:=λρ h=>.nx ρ h
def aH (m u:MS):MS:=λρ h=>match m ρ h with
 | .nx ρ1 h1=>u ρ1 h1
 |r=>r
theorem fH:jJ X G E [] cA:=λ_=>Fw.imp Q4 λD σ H ⟨μ,ρ,h,rs,s,o⟩=>o μ H σ Gj s rs
theorem aZ (h1:hJ X G E st m) (h2:jJ X G E rest u):jJ X G E (st::rest) (aH m u):=λhK=>Fw.imp (Q5 (h1 hK) (h2 hK)) λD σ H ⟨μ,ρ,h,rs,s,o⟩=>by
 refine⟨μ,ρ,h,rs,s, ?_⟩;unfold aH at o
 cases q:m ρ h with
 |nx ρ1 h1=>rw[q]at o;exact λμ1 H1 σ1 x1 s1 Cb=>⟨μ1,ρ1,h1,Cb,s1,Cp.ext o x1⟩
 |bk ρ1 h1=>rw[q]at o;exact o
 |ct ρ1 h1=>rw[q]at o;exact o
 |rt ρ1 h1=>rw[q]at o;exact o
 |ex ρ1 h1=>rw[q]at o;exact o
 |bad=>rw[q]at o;exact o
theorem bQ (h1:hJ X G E st m):jJ X G E [st] m:=λhK=>GP (h1 hK)
def dG (me:M Dv):MS:=λρ h=>(me ρ h).thenS λ_ h1=>.nx ρ h1
theorem oG (he:aI X G E e me) (hs:swapsWith e none pos.line X.env=pure false:=by rfl):hJ X G E (.Expr e pos) (dG me):=λhK=>PS.imp (Q7 (he hK) hs) λD σ H ⟨μ,ρ,h,rs,s,o⟩=>iW rs s o λμ1 d h1 v H1 x1 Cb s1 r1 o1=>o1 μ1 H1 σ Gj s1 Cb
def aO (me:M Dv):MS:=λρ h=>(me ρ h).thenS λd h1=>.rt d h1
theorem cE (he:aI X G E e me):hJ X G E (.Return (some e) pos) (aO me):=λhK=>PS.imp (Q9 (he hK)) λD σ H ⟨μ,ρ,h,rs,s,o⟩=>iW rs s o λμ1 d h1 v H1 x1 Cb s1 r1 o1=>o1 μ1 H1 v Gj s1 r1
def bS (c:M Bool) (t u:MS):MS:=λρ h=>(c ρ h).thenS λb h1=>if b=true then t ρ h1 else u ρ h1
theorem fI {c:bj}{a b:List ie}{mc:M Bool}(hc:gE X G E c mc) (ha:jJ X G E a m) (hb:jJ X G E b u):hJ X G E (.If c a b pos) (bS mc m u):=λhK=>PS.imp (RC (hc hK) (ha hK) (hb hK)) λD σ H ⟨μ,ρ,h,rs,s,o⟩=>
 JJ rs s o λμ1 k h1 H1 x1 Cb s1 o1=>by
  cases k with
  |true=>rw[if_pos rfl]at o1 ⊢;exact⟨μ1,ρ,h1,Cb,s1,o1⟩
  |false=>rw[if_neg (by decide)]at o1 ⊢;exact⟨μ1,ρ,h1,Cb,s1,o1⟩
theorem Bs.set {μ:Nat->ai}{n:Nat}{H:Hp}{ρ:Ev}{σ:St}{d:Dv}{v:V}(rs:Bs G μ n H ρ σ) (i:Nat) (r:Bo G μ n H d v):Bs G μ n H (ρ.set i (some d)) (σ.set i (some v)):=⟨by rw[lr,lr];exact rs.len,λj d' e=>by
 have hl:=rs.len
 by_cases C':i=j
 ·subst C';have hi:i<ρ.length:=by have:=(ax.mp e).1;simpa using this
  rw[dz hi]at e;cases e;exact⟨v,dz (by omega),r⟩
 ·rw[fi C']at e ⊢;exact rs.at_ j d' e⟩
abbrev dE:=Dv->Ev->Option Ev
def rJ (G:Cfg) (st:dE):TG:=λv σ H Q=>∃μ ρ h d ρ',Bs G μ h H ρ σ/\Bo G μ h H d v/\st d ρ=some ρ'/\∀σ',Bs G μ h H ρ' σ'->Q σ' H
def iX (X:Cx) (G:Cfg) (tg:bj) (st:dE):Prop:=X.K=G.K->PG X tg (rJ G st)
theorem PG.imp {tg:bj}{t t':TG}(h:PG X tg t) (i:∀v σ H Q,t' v σ H Q->t v σ H Q):PG X tg t':=λpins s σ H v u Q I r q=>h pins s σ H v u Q I r (i v σ H Q q)
theorem PGs.imp {tg:List bj}{t t':mQ}(h:PGs X tg t) (i:∀v σ H Q,t' v σ H Q->t v σ H Q):PGs X tg t':=λpins s σ H v u Q I r q=>h pins s σ H v u Q I r (i v σ H Q q)
def aE (i:Nat):dE:=λd ρ=>some (ρ.set i (some d))
theorem VX {i:Nat}{x:Str}(hN:X.N.Nodup) (hi:X.N[i]?=some x) (hx:lF X.env.scope x) (hf:X.fn x=true∨X.env.scope.names.lookup x=some .local:=by first|exact .inl rfl|exact .inr rfl|assumption):iX X G (.Name x pos) (aE i):=λ_=>PG.imp (RD hN hi hx hf) λv σ H Q ⟨μ,ρ,h,d,ρ',rs,r,e,k⟩=>by cases e;exact k _ (rs.set i r)
abbrev oH:=Bh->Ev->Option Ev
def VY (G:Cfg) (st:oH):mQ:=λvs σ H Q=>∃μ ρ h ds ρ',Bs G μ h H ρ σ/\RelDL G μ h H ds vs/\st ds ρ=some ρ'/\∀σ',Bs G μ h H ρ' σ'->Q σ' H
def xE (X:Cx) (G:Cfg) (tg:List bj) (st:oH):Prop:=X.K=G.K->PGs X tg (VY G st)
def cJ:oH:=λds ρ=>match ds with
 | []=>some ρ
 |_=>none
def aX (s:dE) (t:oH):oH:=λds ρ=>match ds with
 |d::r=>match s d ρ with
  |some ρ1=>t r ρ1
  |none=>none
 | []=>none
theorem iI:xE X G [] cJ:=λ_=>PGs.imp GR λvs σ H Q ⟨μ,ρ,h,ds,ρ',rs,r,e,k⟩=>by
 cases ds with
 |nil=>cases e;rw[RelDL]at r;subst r;exact⟨rfl,k _ rs⟩
 |cons d r=>cases e
theorem dO {tg:bj}{tgs:List bj}{s:dE}{t:oH}(h1:iX X G tg s) (h2:xE X G tgs t)
  (hs:(assignEach (tg::tgs) X.env).map (·.2)=assign tg X.env::(assignEach tgs X.env).map (·.2):=by rfl):xE X G (tg::tgs) (aX s t):=λhK=>PGs.imp (AU (h1 hK) (h2 hK) hs) λvs σ H Q ⟨μ,ρ,h,ds,ρ',rs,r,e,k⟩=>by
 cases ds with
 |nil=>cases e
 |cons d ds=>
  rw[RelDL]at r;obtain⟨v,rr,rfl,r1,r2⟩:=r;unfold aX at e;dsimp only at e
  cases q:s d ρ with
  |none=>rw[q]at e;cases e
  |some ρ1=>rw[q]at e;exact⟨v,rr,rfl,μ,ρ,h,d,ρ1,rs,r1,q,λσ1 Cb=>⟨μ,ρ1,h,ds,ρ',Cb,r2,e,k⟩⟩
def cH (n:Nat) (t:oH):dE:=λd ρ=>match d with
 | .tup ds=>if ds.length=n then t ds ρ else none
 |_=>none
theorem iJ {tgs:List bj}{k:Nat}{t:oH}{n:Nat}(hc:X.calm=true) (h:xE X G tgs t)
  (hn:(assignEach tgs X.env).length=n:=by rfl) (Fq:(assignEach tgs X.env).findIdx? (·.1)=none:=by rfl):iX X G (.Tuple tgs k pos) (cH n t):=λhK=>
 PG.imp (GS hc (h hK) hn Fq) λv σ H Q ⟨μ,ρ,hh,d,ρ',rs,r,e,kk⟩=>by
  cases d with
  |tup ds=>
   dsimp only[cH]at e
   split at e
   ·rename_i hl;obtain⟨a,vs,rfl,e1,r1⟩:=r;exact⟨a,vs,rfl,Gb e1,by rw[r1.length];exact hl,μ,ρ,hh,ds,ρ',rs,r1,e,kk⟩
   ·cases e
  |_=>cases e
def aJ (me:M Dv) (st:dE):MS:=λρ h=>(me ρ h).thenS λd h1=>match st d ρ with
 |some ρ1=>.nx ρ1 h1
 |none=>.bad
theorem VZ {st:dE}{σ:St}{H:Hp}{D:Ends}(t:xD G E (aJ me st) D σ H):wB (iA G E me) (rJ G st) D σ H:=by
 obtain⟨μ,ρ,h,rs,s,o⟩:=t;refine iW rs s o λμ1 d h1 v H1 x1 Cb s1 r1 o1=>?_
 cases q:st d ρ with
 |none=>rw[q]at o1;exact o1.elim
 |some ρ1=>rw[q]at o1;exact⟨μ1,ρ,h1.length,d,ρ1,Cb,r1,q,λσ' rs'=>o1 μ1 H1 σ' Gj s1 rs'⟩
theorem BU {tg:bj}{st:dE}(he:aI X G E e me) (hg:iX X G tg st) (hs:swapsWithSole [tg] e pos.line X.env=pure false:=by rfl) (hw:swappedStores [tg] e X.env=pure none:=by rfl)
  (h1:(assignEach [tg] X.env).map (·.2)=[assign tg X.env]:=by rfl):hJ X G E (.Assign [tg] e pos) (aJ me st):=λhK=>PS.imp (AW (he hK) (hg hK) hs hw h1) λ_ _ _ t=>VZ t
theorem BV {i:Nat}{x:Str}{pos':Pos}(hN:X.N.Nodup) (hi:X.N[i]?=some x) (hx:lF X.env.scope x) (he:aI X G E e me) (hs:swapsWith e (some (.Name x pos')) pos.line X.env=pure false:=by rfl) (hf:X.fn x=true∨X.env.scope.names.lookup x=some .local:=by first|exact .inl rfl|exact .inr rfl|assumption):
  hJ X G E (.Assign [.Name x pos'] e pos) (aJ me (aE i)):=λhK=>PS.imp (AX hN hi hx (he hK) hs hf) λD σ H t=>by
 obtain⟨μ,ρ,h,rs,s,o⟩:=t;exact iW rs s o λμ1 d h1 v H1 x1 Cb s1 r1 o1=>o1 μ1 H1 _ Gj s1 (Cb.set i r1)
end
structure Src where
 n:Nat
 get:Nat->Hs->Bi
 fin:Hs->Bool
def Cv (G:Cfg) (μ0:Nat->ai) (n0:Nat) (H0:Hp) (src:Src) (J:It):Prop:=
 ∀(k:Nat) (μ:Nat->ai) (h:Hs) (H:Hp),Ext μ0 n0 H0 μ h.length H->Bw G μ h H->
  (k<src.n->∀d,src.get k h=some d->J.go k H/\∀x H',J.yld k H x H'->De H H'/\Bo G μ h.length H' d x)/\(k=src.n->src.fin h=true->J.stop k H)
def BW (G:Cfg) (E:XK) (m:M Src):TI:=λσ H R=>∃μ ρ h,Bs G μ h.length H ρ σ/\Bw G μ h H/\Out G E μ h.length H (m ρ h) (Cv G) R
def iK (X:Cx) (G:Cfg) (E:XK) (tg iter:bj) (m:M Src):Prop:=X.K=G.K->PI X tg iter (BW G E m)
theorem PI.imp {X:Cx}{tg iter:bj}{t t':TI}(h:PI X tg iter t) (i:∀σ H R,t' σ H R->t σ H R):PI X tg iter t':=λpins s σ H R I q=>h pins s σ H R I (i σ H R q)
def cV (xs:Bh):Src:=⟨xs.length,λk _=>xs[k]?,λ_=>true⟩
def cP (i n:Nat):Src:=⟨n,λk h=>match getL h i with
 |some xs=>if xs.length=n then xs[k]? else none
 |none=>none,λh=>match getL h i with
 |some xs=>xs.length==n
 |none=>false⟩
def cS (lo hi:Int):Src:=⟨(hi - lo).toNat,λk _=>some (.int (lo+k)),λ_=>true⟩
def bF (f:Dv->Hs->Rs Src) (m:M Dv):M Src:=λρ h=>(m ρ h).bind f
section
variable{tg e a b:bj}{me ma mb:M Dv}{pos p:Pos}
def cG:Dv->Hs->Rs Src
 | .ref i,h=>match getL h i with
  |some xs=>.ok (cP i xs.length) h
  |none=>.bad
 |_,_=>.bad
def dY:Dv->Hs->Rs Src
 | .tup xs,h=>.ok (cV xs) h
 |_,_=>.bad
theorem mX (he:aI X G E e me):iK X G E tg e (bF cG me):=λhK=>PI.imp (RS (he hK)) λσ H R ⟨μ,ρ,h,rs,s,o⟩=>eV rs s o λμ1 x h1 vx H1 x1 Cb s1 r1 o1=>by
 rw[hK]
 cases x with
 |ref i=>
  obtain⟨hi,rfl⟩:=r1;dsimp only[cG]at o1
  cases g:getL h1 i with
  |none=>rw[g]at o1;exact o1.elim
  |some xs=>
   rw[g]at o1;obtain⟨vs,e1,r2⟩:=s1.ob i _ (cW g);refine⟨_,rfl,⟨vs,Gn e1⟩,o1.val s1 λk μ2 h2 H2 x2 s2=>?_⟩;have emu:=x2.mu i hi;constructor
   ·intro hk d hd;dsimp only[cP]at hd
    cases g2:getL h2 i with
    |none=>rw[g2]at hd;cases hd
    |some ys=>
     rw[g2]at hd;dsimp only at hd
     split at hd
     ·obtain⟨ws,e2,r3⟩:=s2.ob i _ (cW g2);rw[emu]at e2;obtain⟨v,ev,rv⟩:=r3.get hd;refine⟨⟨ws,v,Gn e2,ev⟩,λx H' hy=>?_⟩;obtain⟨rfl,hy⟩:=hy;have:=hy ws (Gn e2);rw[ev]at this;cases this;exact⟨De.refl _,rv⟩
     ·cases hd
   ·intro hk hf;dsimp only[cP]at hf
    cases g2:getL h2 i with
    |none=>rw[g2]at hf;cases hf
    |some ys=>
     rw[g2]at hf;obtain⟨ws,e2,r3⟩:=s2.ob i _ (cW g2);rw[emu]at e2;refine⟨ws,Gn e2, ?_⟩;have h3:ys.length=xs.length:=by simpa using hf
     rw[r3.length,h3,hk];exact ak _
 |_=>exact o1.elim
theorem Cv.tup {μ:Nat->ai}{n:Nat}{H:Hp}{a:ai}{vs:Hf}{xs:Bh}{K:ao}(e:H a=some (.tup vs)) (r:RelDL G μ n H xs vs) (hi:∀(X:Cx),True):Cv G μ n H (cV xs) (AZ K a):=by
 intro k μ2 h2 H2 x2 s2;have e2:=x2.im a (.tup vs) trivial e;have r2:=Ga x2 _ _ r;have inj:∀ws,Ca K H2 a ws->ws=vs->True:=λ_ _ _=>trivial;constructor
 ·intro hk d hd;obtain⟨v,ev,rv⟩:=r2.get hd;refine⟨⟨vs,v,Gb e2,ev⟩,λx H' hy=>?_⟩;obtain⟨rfl,hy⟩:=hy;have:=hy vs (Gb e2);rw[ev]at this;cases this;exact⟨De.refl _,rv⟩
 ·intro hk _;exact⟨vs,Gb e2,by rw[r2.length,hk];exact ak _⟩
theorem kR (he:aI X G E e me):iK X G E tg e (bF dY me):=λhK=>PI.imp (RT (he hK)) λσ H R ⟨μ,ρ,h,rs,s,o⟩=>eV rs s o λμ1 x h1 vx H1 x1 Cb s1 r1 o1=>by
 cases x with
 |tup xs=>obtain⟨a,vs,rfl,e1,r2⟩:=r1;exact⟨a,rfl,⟨vs,Gb e1⟩,o1.val s1 (Cv.tup e1 r2 λ_=>trivial)⟩
 |_=>exact o1.elim
def kS (i:Int):Bool:=decide (-4611686018427387904<=i)&&decide (i<4611686018427387904)
def cN:Bh->Hs->Rs Src
 | [.int j],h=>if kS j=true then .ok (cS 0 j) h else .bad
 |_,_=>.bad
def pN:Bh->Hs->Rs Src
 | [.int i,.int j],h=>if kS i=true/\kS j=true then .ok (cS i j) h else .bad
 |_,_=>.bad
def aR (f:Bh->Hs->Rs Src) (ms:M Bh ):M Src:=λρ h=>(ms ρ h).bind f
theorem Cv.rng {μ:Nat->ai}{n:Nat}{H:Hp}(lo hi:Int):Cv G μ n H (cS lo hi) (tD lo (hi - lo).toNat):=by
 intro k μ2 h2 H2 x2 s2;constructor
 ·intro hk d hd;cases hd;exact⟨hk,λx H' hy=>by obtain⟨rfl,rfl⟩:=hy;exact⟨De.refl _,rfl⟩⟩
 ·intro hk _;exact qi hk.symm
variable{ms:M Bh }
theorem jY (hg:Gl X "range") (hm:X.mg "range" = none) (ha:dX X G E [a] ms) (hs:aw [a] X.env=[(false,eval a X.env)]:=by rfl):iK X G E tg (.Call (.Name "range" p) [a] [] pos) (aR cN ms):=λhK=>
 PI.imp (RW hg hm (ha hK) hs) λσ H R ⟨μ,ρ,h,rs,s,o⟩=>jV rs s o λμ1 ds h1 vs H1 x1 Cb s1 r1 o1=>by
  unfold cN at o1
  split at o1
  ·rename_i j
   split at o1
   ·rename_i hj;obtain⟨v,rfl,rv⟩:=rF r1;rw[Bo]at rv;subst rv;simp only[kS,cx,decide_eq_true_eq]at hj;refine⟨j,rfl,by omega,by omega, ?_⟩;have:=o1.val s1 (Cv.rng (G:=G) (μ:=μ1) (n:=h1.length) (H:=H1) 0 j);rw[Int.sub_zero]at this;exact this
   ·exact o1.elim
  ·exact o1.elim
theorem V0 (hg:Gl X "range") (hm:X.mg "range" = none) (ha:dX X G E [a,b] ms) (hs:aw [a,b] X.env=[(false,eval a X.env),(false,eval b X.env)]:=by rfl) (hs2:aw [b] X.env=[(false,eval b X.env)]:=by rfl):iK X G E tg (.Call (.Name "range" p) [a,b] [] pos) (aR pN ms):=λhK=>
 PI.imp (RX hg hm (ha hK) hs hs2) λσ H R ⟨μ,ρ,h,rs,s,o⟩=>jV rs s o λμ1 ds h1 vs H1 x1 Cb s1 r1 o1=>by
  unfold pN at o1
  split at o1
  ·rename_i i j
   split at o1
   ·rename_i hj;obtain⟨v,v',rfl,rv,rv'⟩:=rG r1;rw[Bo]at rv rv';subst rv;subst rv';simp only[kS,cx,decide_eq_true_eq]at hj;exact⟨i,j,rfl,⟨by omega,by omega,by omega,by omega⟩,o1.val s1 (Cv.rng (G:=G) (μ:=μ1) (n:=h1.length) (H:=H1) i j)⟩
   ·exact o1.elim
  ·exact o1.elim
end
def iC (src:Src) (st:dE) (body:MS):Nat->Nat->MS
 |0,_=>λρ h=>if src.fin h=true then .nx ρ h else .bad
 |f+1,k=>λρ h=>match src.get k h with
  |none=>.bad
  |some d=>match st d ρ with
   |none=>.bad
   |some ρ1=>match body ρ1 h with
    | .nx ρ2 h2=>iC src st body f (k+1) ρ2 h2
    | .ct ρ2 h2=>iC src st body f (k+1) ρ2 h2
    | .bk ρ2 h2=>.nx ρ2 h2
    |r=>r
def eC (mi:M Src) (st:dE) (body:MS):MS:=λρ h=>(mi ρ h).thenS λsrc h1=>iC src st body src.n 0 ρ h1
section
variable{tg iter:bj}{body:List ie}{mi:M Src}{st:dE}{mb:MS}{pos:Pos}
theorem lI (hp:yw (model X.prog X.w) X.A X.env X.xe) (hc:X.calm=true) (hi:iK X G E tg iter mi) (hg:iX X G tg st) (hb:jJ X G E body mb)
  (hs:∀x,foldedSetIterable iter X.env x=pure x:=by intro _;rfl):hJ X G E (.For tg iter body [] pos) (eC mi st mb):=λhK=>PS.imp (RZ hp hc (hi hK) (hg hK) (hb hK) hs) λD σ H ⟨μ,ρ,h,rs,s,o⟩=>by
 refine⟨μ,ρ,h,rs,s,(o.thenS (R:=Cv G)).mono λJ H1 ⟨μ1,src,h1,x1,s1,ok,o1⟩=>?_⟩;refine⟨λi m σ H=>∃μ2 ρ2 h2,Ext μ1 h1.length H1 μ2 h2.length H/\Bs G μ2 h2.length H ρ2 σ/\Bw G μ2 h2 H/\i+m=src.n/\Cp G E μ2 h2.length H (iC src st mb m i ρ2 h2) D,⟨src.n,μ1,ρ,h1,Gj,rs.mono x1,s1,Ag _,o1⟩, ?_⟩
 rintro i m σ2 H2 ⟨μ2,ρ2,h2,x2,Dl,s2,him,o2⟩
 cases m with
 |zero=>
  unfold iC at o2
  split at o2
  ·rename_i hf;exact .inl ⟨(ok i μ2 h2 H2 x2 s2).2 (by omega) hf,o2 μ2 H2 σ2 Gj s2 Dl⟩
  ·exact o2.elim
 |succ m=>
  unfold iC at o2
  cases q:src.get i h2 with
  |none=>rw[q]at o2;exact o2.elim
  |some d=>
   rw[q]at o2;dsimp only at o2
   cases q2:st d ρ2 with
   |none=>rw[q2]at o2;exact o2.elim
   |some ρ3=>
    rw[q2]at o2;dsimp only at o2;obtain⟨go,yl⟩:=(ok i μ2 h2 H2 x2 s2).1 (by omega) d q;refine .inr ⟨go,λσ' H'=>∃μ3 ρ4 h4,Ext μ1 h1.length H1 μ3 h4.length H'/\Bs G μ3 h4.length H' ρ4 σ'/\Bw G μ3 h4 H'/\(i+1)+m=src.n/\Cp G E μ3 h4.length H' (iC src st mb m (i+1) ρ4 h4) D,λσ' H' z=>⟨m,jy m,z⟩,λx H' hy=>?_⟩;obtain⟨sm,rx⟩:=yl x H' hy;have xs:Ext μ2 h2.length H2 μ2 h2.length H':=F' sm;refine⟨μ2,ρ2,h2.length,d,ρ3,Dl.mono xs,rx,q2,λσ3 Fi=>⟨μ2,ρ3,h2,Fi,s2.same sm, ?_⟩⟩;have step:∀ρ5 h5,Cp G E μ2 h2.length H2 (iC src st mb m (i+1) ρ5 h5) D->∀μ6 H6 σ6,Ext μ2 h2.length H' μ6 h5.length H6->Bw G μ6 h5 H6->Bs G μ6 h5.length H6 ρ5 σ6->
      ∃μ3 ρ4 h4,Ext μ1 h1.length H1 μ3 h4.length H6/\Bs G μ3 h4.length H6 ρ4 σ6/\Bw G μ3 h4 H6/\(i+1)+m=src.n/\Cp G E μ3 h4.length H6 (iC src st mb m (i+1) ρ4 h4) D:=
     λρ5 h5 o5 μ6 H6 σ6 x6 s6 rs6=>⟨μ6,ρ5,h5,(x2.trans xs).trans x6,rs6,s6,by omega,o5.ext (xs.trans x6)⟩
    cases q3:mb ρ3 h2 with
    |nx ρ5 h5=>rw[q3]at o2;exact step ρ5 h5 o2
    |ct ρ5 h5=>rw[q3]at o2;exact step ρ5 h5 o2
    |bk ρ5 h5=>rw[q3]at o2;exact λμ6 H6 σ6 x6 s6 rs6=>o2 μ6 H6 σ6 (xs.trans x6) s6 rs6
    |rt d5 h5=>rw[q3]at o2;exact λμ6 H6 σ6 x6 s6 rs6=>o2 μ6 H6 σ6 (xs.trans x6) s6 rs6
    |ex d5 h5=>rw[q3]at o2;exact λμ6 H6 σ6 x6 s6 rs6=>o2 μ6 H6 σ6 (xs.trans x6) s6 rs6
    |bad=>rw[q3]at o2;exact o2.elim
end
abbrev MC:=Ev->Hs->Bh->Rs (Ev×Bh)
def bA (me:M Dv):MC:=λρ h acc=>match me ρ h with
 | .ok d h1=>if acc.length<1000000 then .ok (ρ,acc++[d]) h1 else .bad
 |_=>.bad
def eM (src:Src) (st:dE) (test:M Bool) (inner:MC):Nat->Nat->MC
 |0,_=>λρ h acc=>if src.fin h=true then .ok (ρ,acc) h else .bad
 |f+1,k=>λρ h acc=>match src.get k h with
  |none=>.bad
  |some d=>match st d ρ with
   |none=>.bad
   |some ρ1=>match test ρ1 h with
    | .ok true h2=>match inner ρ1 h2 acc with
     | .ok r h3=>eM src st test inner f (k+1) r.1 h3 r.2
     |_=>.bad
    | .ok false h2=>eM src st test inner f (k+1) ρ1 h2 acc
    |_=>.bad
def jK (mi:M Src) (st:dE) (test:M Bool) (inner:MC):MC:=λρ h acc=>match mi ρ h with
 | .ok src h1=>eM src st test inner src.n 0 ρ h1 acc
 |_=>.bad
def cT:M Bool:=λ_ h=>.ok true h
def jL (cap:List (Option Nat)) (ρ:Ev):Ev:=cap.map λo=>match o with
 |some j=>(ρ[j]?).getD none
 |none=>none
def bM (mi:M Src) (cap:List (Option Nat)) (st:dE) (test:M Bool) (inner:MC):M Bh :=λρ h=>(mi ρ h).bind λsrc h1=>match eM src st test inner src.n 0 (jL cap ρ) h1 []with
 | .ok r h2=>.ok r.2 h2
 |_=>.bad
def tR (G:Cfg) (m:MC):TC:=λσ H vs K=>∃μ ρ h xs ρ' xs' h',Bs G μ h.length H ρ σ/\Bw G μ h H/\RelDL G μ h.length H xs vs/\m ρ h xs=.ok (ρ',xs') h' /\
 ∀μ' H' σ' Cs,Ext μ h.length H μ' h'.length H'->Bw G μ' h' H'->Bs G μ' h'.length H' ρ' σ'->RelDL G μ' h'.length H' xs' Cs->K σ' H' Cs
section
variable{G:Cfg}
theorem JK {μ:Nat->ai}{n:Nat}{H:Hp}{ρ:Ev}{σ:St}(rs:Bs G μ n H ρ σ) (cap:List (Option Nat)):Bs G μ n H (jL cap ρ) (qW cap σ):=⟨by simp[jL,qW],λi d e=>by
 unfold jL at e;rw[dj]at e
 cases q:cap[i]? with
 |none=>rw[q]at e;cases e
 |some o=>
  rw[q]at e
  cases o with
  |none=>cases e
  |some j=>
   have e':(ρ[j]?).getD none=some d:=by simpa using e
   have e2:ρ[j]?=some (some d):=by
    cases z:ρ[j]? with
    |none=>rw[z]at e';cases e'
    |some y=>rw[z]at e';simp at e';rw[e']
   obtain⟨v,e3,r⟩:=rs.at_ j d e2;refine⟨v, ?_,r⟩;unfold qW;rw[dj,q];simp[e3]⟩
theorem xF {E:XK}{me:M Dv}{σ:St}{H:Hp}{vs:Hf}{K:St->Hp->Hf->Prop}(t:tR G (bA me) σ H vs K):wN (iA G E me) σ H vs K:=by
 obtain⟨μ,ρ,h,xs,ρ',xs',h',rs,s,r,e,k⟩:=t;refine⟨μ,ρ,h,rs,s, ?_⟩;unfold bA at e
 cases q:me ρ h with
 |bad=>rw[q]at e;cases e
 |ex c h1=>rw[q]at e;cases e
 |ok d h1=>
  rw[q]at e;dsimp only at e
  split at e
  ·rename_i hl;cases e;intro μ1 H1 v x1 s1 r1;refine⟨?_,k μ1 H1 σ _ x1 s1 (rs.mono x1) ((Ga x1 _ _ r).append (Gf r1 Ge))⟩;rw[r.length];exact au hl (by decide)
  ·cases e
theorem JL {E:XK}{src:Src}{st:dE}{test:M Bool}{inner:MC}{J:It}{μ1:Nat->ai}{h1:Hs}{H1:Hp}{ρ ρ':Ev}{σ:St}{xs xs':Bh}{vs:Hf}{h':Hs}{K:St->Hp->Hf->Prop}
  (ok:Cv G μ1 h1.length H1 src J) (rs:Bs G μ1 h1.length H1 ρ σ) (s1:Bw G μ1 h1 H1) (r:RelDL G μ1 h1.length H1 xs vs) (e:eM src st test inner src.n 0 ρ h1 xs=.ok (ρ',xs') h')
  (k:∀μ' H' σ' Cs,Ext μ1 h1.length H1 μ' h'.length H'->Bw G μ' h' H'->Bs G μ' h'.length H' ρ' σ'->RelDL G μ' h'.length H' xs' Cs->K σ' H' Cs):
  qX J (rJ G st) (iG G E test) (tR G inner) K σ H1 vs:=by
 refine⟨λi m σ H vs=>∃μ2 ρ2 h2 xs2,Ext μ1 h1.length H1 μ2 h2.length H/\Bs G μ2 h2.length H ρ2 σ/\Bw G μ2 h2 H/\RelDL G μ2 h2.length H xs2 vs/\i+m=src.n/\eM src st test inner m i ρ2 h2 xs2=.ok (ρ',xs') h',⟨src.n,μ1,ρ,h1,xs,Gj,rs,s1,r,Ag _,e⟩, ?_⟩
 rintro i m σ2 H2 Fh ⟨μ2,ρ2,h2,xs2,x2,Dl,s2,r2,him,e2⟩
 cases m with
 |zero=>
  unfold eM at e2
  split at e2
  ·rename_i hf;cases e2;exact .inl ⟨(ok i μ2 _ H2 x2 s2).2 (by omega) hf,k μ2 H2 σ2 Fh x2 s2 Dl r2⟩
  ·cases e2
 |succ m=>
  unfold eM at e2
  cases q:src.get i h2 with
  |none=>rw[q]at e2;cases e2
  |some d=>
   rw[q]at e2;dsimp only at e2
   cases q2:st d ρ2 with
   |none=>rw[q2]at e2;cases e2
   |some ρ3=>
    rw[q2]at e2;dsimp only at e2;obtain⟨go,yl⟩:=(ok i μ2 h2 H2 x2 s2).1 (by omega) d q;refine .inr ⟨go,λσ' H' Cs=>∃μ3 ρ4 h4 xs4,Ext μ1 h1.length H1 μ3 h4.length H'/\Bs G μ3 h4.length H' ρ4 σ'/\Bw G μ3 h4 H'/\RelDL G μ3 h4.length H' xs4 Cs/\(i+1)+m=src.n/\eM src st test inner m (i+1) ρ4 h4 xs4=.ok (ρ',xs') h',
     λσ' H' Cs z=>⟨m,jy m,z⟩,λx H' hy=>?_⟩
    obtain⟨sm,rx⟩:=yl x H' hy;have xsm:Ext μ2 h2.length H2 μ2 h2.length H':=F' sm;refine⟨μ2,ρ2,h2.length,d,ρ3,Dl.mono xsm,rx,q2,λσ3 Fi=>⟨μ2,ρ3,h2,Fi,s2.same sm, ?_⟩⟩
    cases q3:test ρ3 h2 with
    |bad=>rw[q3]at e2;cases e2
    |ex c h3=>rw[q3]at e2;cases e2
    |ok b h3=>
     rw[q3]at e2;intro μ4 H4 b' x4 s4 rb;have eb:b'=b:=rb;subst eb
     cases b' with
     |false=>rw[if_neg (by decide)];exact⟨μ4,ρ3,h3,xs2,(x2.trans xsm).trans x4,Fi.mono x4,s4,Ga (xsm.trans x4) _ _ r2,by omega,e2⟩
     |true=>
      rw[if_pos rfl];dsimp only at e2
      cases q4:inner ρ3 h3 xs2 with
      |bad=>rw[q4]at e2;cases e2
      |ex c h5=>rw[q4]at e2;cases e2
      |ok rr h5=>rw[q4]at e2;obtain⟨ρ5,xs5⟩:=rr;exact⟨μ4,ρ3,h3,xs2,ρ5,xs5,h5,Fi.mono x4,s4,Ga (xsm.trans x4) _ _ r2,q4,λμ6 H6 σ6 vs6 x6 s6 rs6 r6=>⟨μ6,ρ5,h5,xs5,((x2.trans xsm).trans x4).trans x6,rs6,s6,r6,by omega,e2⟩⟩
theorem JM {E:XK}{mi:M Src}{st:dE}{test:M Bool}{inner:MC}{σ:St}{H:Hp}{vs:Hf}{K:St->Hp->Hf->Prop}(t:tR G (jK mi st test inner) σ H vs K):IL (BW G E mi) (rJ G st) (iG G E test) (tR G inner) σ H vs K:=by
 obtain⟨μ,ρ,h,xs,ρ',xs',h',rs,s,r,e,k⟩:=t;refine⟨μ,ρ,h,rs,s, ?_⟩;unfold jK at e
 cases q:mi ρ h with
 |bad=>rw[q]at e;cases e
 |ex c h1=>rw[q]at e;cases e
 |ok src h1=>rw[q]at e;exact λμ1 H1 J x1 s1 ok=>JL ok (rs.mono x1) s1 (Ga x1 _ _ r) e λμ2 H2 σ2 Fh x2=>k μ2 H2 σ2 Fh (x1.trans x2)
def RL (G:Cfg):(Nat->ai)->Nat->Hp->Bh->V->Prop:=λμ n H xs v=>∃p vs,v=.ref p/\H p=some (.lst vs)/\(∀i,i<n->μ i≠p)/\RelDL G μ n H xs vs
def xG (G:Cfg) (E:XK) (m:M Bh ):TE:=λσ H Q=>∃μ ρ h,Bs G μ h.length H ρ σ/\Bw G μ h H/\Out G E μ h.length H (m ρ h) (RL G) Q
def mY (X:Cx) (G:Cfg) (E:XK) (pe:bj) (m:M Bh ):Prop:=X.K=G.K->PE X pe (xG G E m)
theorem Bw.adopt {μ:Nat->ai}{h:Hs}{H:Hp}{p:ai}{ds:Bh}{vs:Hf}(s:Bw G μ h H) (e:H p=some (.lst vs)) (hq:∀i,i<h.length->μ i≠p) (r:RelDL G μ h.length H ds vs):
  Ext μ h.length H (λi=>if i=h.length then p else μ i) (h++[Fy ds]).length H/\Bw G (λi=>if i=h.length then p else μ i) (h++[.lst ds]) H:=by
 have hl:(h++[Fy ds]).length=h.length+1:=by simp
 have x:Ext μ h.length H (λi=>if i=h.length then p else μ i) (h++[Fy ds]).length H:=⟨by omega,λi hi=>if_neg (ay hi),λa o _ e=>e⟩
 refine⟨x,λi j hi hj e=>?_,λi o q=>?_,s.tab⟩
 ·rw[hl]at hi hj
  by_cases h1:i=h.length <;> by_cases h2:j=h.length
  ·omega
  ·rw[if_pos h1,if_neg h2]at e;exact absurd e.symm (hq j (by omega))
  ·rw[if_neg h1,if_pos h2]at e;exact absurd e (hq i (by omega))
  ·rw[if_neg h1,if_neg h2]at e;exact s.inj i j (by omega) (by omega) e
 ·by_cases h1:i<h.length
  ·rw[dw h1]at q;have r1:=s.ob i o q
   cases o with
   |lst xs=>obtain⟨ws,e1,r2⟩:=r1;exact⟨ws,by rw[if_neg (ay h1)];exact e1,Ga x _ _ r2⟩
   |clo k t=>rw[if_neg (ay h1)];exact r1.clo x
  ·rw[gg (by omega)]at q;have h2:i=h.length:=by have:=(ax.mp q).1;simp at this;omega
   subst h2;simp at q;subst q;exact⟨vs,by rw[if_pos rfl];exact e,Ga x _ _ r⟩
def bH (m:M Bh ):M Dv:=λρ h=>(m ρ h).bind λxs h1=>.ok (.ref h1.length) (h1++[.lst xs])
theorem BX {E:XK}{m:M Bh }{σ:St}{H:Hp}{Q:VK}(t:iA G E (bH m) σ H Q):xG G E m σ H Q:=by obtain⟨μ,ρ,h,rs,s,o⟩:=t;refine⟨μ,ρ,h,rs,s,(o.bind (R1:=RL G)).mono λv H1 ⟨μ1,xs,h1,x1,s1,⟨p,vs,ev,e1,hq,r1⟩,o1⟩=>?_⟩;subst ev;obtain⟨x2,s2⟩:=s1.adopt e1 hq r1;exact o1 _ _ _ x2 s2 ⟨by simp,by show Gx p=Gx (if h1.length=h1.length then p else μ1 h1.length);rw[if_pos rfl]⟩
theorem jZ {X:Cx}{E:XK}{pe:bj}{m:M Bh }(h:mY X G E pe m):aI X G E pe (bH m):=λhK=>Gg (h hK) λ_ _ _ t=>BX t
theorem xH {E E':XK}{mi:M Src}{cap:List (Option Nat)}{st:dE}{test:M Bool}{inner:MC}{σ:St}{H:Hp}{Q:VK}(t:xG G E (bM mi cap st test inner) σ H Q):wO (BW G E mi) cap (rJ G st) (iG G E' test) (tR G inner) σ H Q:=by
 obtain⟨μ,ρ,h,rs,s,o⟩:=t;refine⟨μ,ρ,h,rs,s,(o.bind (R1:=Cv G)).mono λJ H1 ⟨μ1,src,h1,x1,s1,ok,o1⟩=>?_⟩
 cases q:eM src st test inner src.n 0 (jL cap ρ) h1 []with
 |bad=>rw[q]at o1;exact o1.elim
 |ex c h2=>rw[q]at o1;exact o1.elim
 |ok r h2=>rw[q]at o1;obtain⟨ρ',xs'⟩:=r;refine JL ok (JK (rs.mono x1) cap) s1 Ge q λμ2 H2 σ2 Fh x2 s2 Dl r2 p hp=>?_;exact o1 μ2 _ _ (x2.trans (F' (cK hp))) (s2.same (cK hp)) ⟨p,Fh,rfl,cR,s2.not hp,Ga (F' (cK hp)) _ _ r2⟩
end
section
variable{elt tg iter Dr Bz:bj}{ifs Co:List bj}{sc:gq}{ps pos:Pos}{mi mi':M Src}{st Eh:dE}{test Eg:M Bool}{me:M Dv}{N:Bf}{cap:List (Option Nat)}
def oI (X:Cx) (G:Cfg) (ifs:List bj) (m:M Bool):Prop:=X.K=G.K->PTs X ifs (iG G E0 m)
theorem PTs.imp {Y:Cx}{ifs:List bj}{t t':TT}(h:PTs Y ifs t) (i:∀σ H Q,t' σ H Q->t σ H Q):PTs Y ifs t':=λpins s σ H Q I q=>h pins s σ H Q I (i σ H Q q)
theorem lJ {Y:Cx}:oI Y G [] cT:=λ_=>PTs.imp IG λσ H Q ⟨μ,ρ,h,rs,s,o⟩=>o.val s rfl
theorem iY {Y:Cx}{c:bj}{m:M Bool}(h:gE Y G E0 c m):oI Y G [c] m:=λhK=>UT (h hK)
theorem Ff.imp {Y:Cx}{D:ai}{m:Sem Unit}{t t':TC}(h:Ff Y D m t) (i:∀σ H xs K,t' σ H xs K->t σ H xs K):Ff Y D m t':=λpins s σ H xs K I a f q=>h pins s σ H xs K I a f (i σ H xs K q)
theorem gO (hc:X.calm=true) (C:Ci X sc N cap) (hi:iK X G E tg iter mi) (hg:∀s H ex,iX (bV X sc N s H ex) G tg st) (En:∀s H ex,oI (bV X sc N s H ex) G ifs test) (hel:∀s H ex,aI (bV X sc N s H ex) G E0 elt me)
  (hs:∀x,foldedSetIterable iter X.env x=pure x:=by intro _;rfl):mY X G E (.ListComp elt [⟨tg,iter,ifs,0⟩] sc ps) (bM mi cap st test (bA me)):=λhK=>
 Gg (IP hc C rfl (λit D env=>BF elt tg iter ifs sc ps (.ref it) D env) (hi hK) (λs H ex=>hg s H ex hK) (λs H ex=>En s H ex hK) (λs H ex D=>Ff.imp (tJ (hel s H ex hK)) λ_ _ _ _ t=>xF t) hs) λ_ _ _ t=>xH t
theorem V1 (hc:X.calm=true) (C:Ci X sc N cap) (hi:iK X G E tg iter mi) (hg:∀s H ex,iX (bV X sc N s H ex) G tg st) (En:∀s H ex,oI (bV X sc N s H ex) G ifs test)
  (hi':∀s H ex,iK (bV X sc N s H ex) G E0 Dr Bz mi') (Fb:∀s H ex,iX (bV X sc N s H ex) G Dr Eh) (htt':∀s H ex,oI (bV X sc N s H ex) G Co Eg) (hel:∀s H ex,aI (bV X sc N s H ex) G E0 elt me)
  (hs:∀x,foldedSetIterable iter X.env x=pure x:=by intro _;rfl) (hs':∀s H ex x,foldedSetIterable Bz (bV X sc N s H ex).env x=pure x:=by intro _ _ _ _;rfl):
  mY X G E (.ListComp elt [⟨tg,iter,ifs,0⟩,⟨Dr,Bz,Co,0⟩] sc ps) (bM mi cap st test (jK mi' Eh Eg (bA me))):=λhK=>
 Gg (IP hc C rfl (inner:=λD env=>qY Bz (.ListComp elt [⟨tg,iter,ifs,0⟩,⟨Dr,Bz,Co,0⟩] sc ps) 1 D env) (λit D env=>II elt tg iter Dr Bz ifs Co sc ps (.ref it) D env) (hi hK) (λs H ex=>hg s H ex hK) (λs H ex=>En s H ex hK)
  (λs H ex D=>Ff.imp (IM (X:=bV X sc N s H ex) (D:=D) (gens:=[⟨tg,iter,ifs,0⟩,⟨Dr,Bz,Co,0⟩]) (d:=1) rfl hc rfl (λit=>IJ elt tg iter Dr Bz ifs Co sc ps (.ref it) D _) (hi' s H ex hK) (Fb s H ex hK) (htt' s H ex hK) (Ff.imp (tJ (hel s H ex hK)) λ_ _ _ _ t=>xF t) (hs' s H ex)) λ_ _ _ _ t=>JM t) hs) λ_ _ _ t=>xH t
end
def eE (T:ai) (h:cy):Prop:=∃oT ts,h.get? T=some oT/\oT.data=.fields ts/\ts[3]?=some .none
structure Chg (fs:List ai) (e T:ai) (h h':cy):Prop where
 new:h.objs.size<=T
 keep:∀b o,b≠e->b∉fs->h.get? b=some o->h'.get? b=some o
 slot:∀b o,b≠e->h.get? b=some o->∃sl,h'.get? b=some { o with slots:=sl }
 tb:eE T h'
theorem V2 (f:Array af->Array af) (o:Obj):(Obj.mapFields f o).dict=o.dict:=by
 unfold Obj.mapFields
 split <;> rfl
section
variable{M:yf}{A:bw}{E:af->ag->Prop}{s:ag}
theorem BY {a:ai}{o:Obj}{vs:Array af}{i:Nat}{v:af}{Q:Unit->ag->Prop}(e:s.heap.get? a=some o) (hd:o.data=.fields vs) (hi:i<vs.size)
  (k:∀h' o',ja a s.heap h'->h'.get? a=some o'->o'.cls=o.cls->o'.dict=o.dict->o'.data=.fields (vs.setIfInBounds i v)->Q () { s with heap:=h' }):wpAny M A (setField (.ref a) i v) Q E s:=
 have d':=vv hd (·.setIfInBounds i v)
 Ah e hd hi (k _ _ (oq ..) (ow _ e (Ao d')) (Obj.cls_mapFields ..) (V2 ..) d')
theorem V3 {head v:af}{L:Int}{pl:List af}{Q:af->ag->Prop}(Dh:IsPlace pl) (k:∀ob ts,ob.data=.fields ts->3<ts.size->ob.isFreed=false->Q (.ref s.heap.objs.size) { s with heap:=s.heap.push ob }):
  wpAny M A (yz head v .none (rawInt L) .none pl) Q E s:=
 dk (k _ _ rfl (by simp only[av,bx,dg,nr];omega) rfl) (Dh.sizeOk5 ..)
theorem JN {e T:ai}{oe oT:Obj}{vs ts:Array af}{Q:Unit->ag->Prop}(he:s.heap.get? e=some oe) (hd:oe.data=.fields vs) (h1:vs[1]?=some (.ref T)) (hT:s.heap.get? T=some oT) (hdT:oT.data=.fields ts) (hs:3<ts.size)
  (k:∀h',ja T s.heap h'->eE T h'->Q () { s with heap:=h' }):wpAny M A (setFlight (.ref e) none) Q E s:=by
 refine aa (ff he hd h1 ?_);show wpAny M A (if(ik T != jx)=true then _ else _) Q E s;rw[if_pos (by simp)];exact BY hT hdT hs λh' o' sb g _ _ d=>k h' sb ⟨o',_,g,d,by rw[jg hs];rfl⟩
theorem JO {base:cy}{l:List Env}{a:ai}{o:Obj}{vs:Array af}(hl:s.heap.FunFrames base l) (e:s.heap.get? a=some o) (hd:o.data=.fields vs):a∉dN l:=λhm=>by obtain⟨_,o',e',nf⟩:=hl.mem hm;rw[e]at e';cases e';exact nf vs hd
theorem JP {base:cy}{env:Env}{outer:List Env}{L e:ai}{oe:Obj}{vs:Array af}{head a0:af}{nx:Bool}{Q:Unit->ag->Prop}(hfr:A.frames=some (env::outer)) (hl:s.heap.FunFrames base (env::outer)) (hf:env.frame=some L)
  (he:s.heap.get? e=some oe) (hd:oe.data=.fields vs) (hdn:oe.dict=none) (Cu:1<vs.size) (h0:vs[0]?=some a0)
  (k:∀h' T,Chg (dN (env::outer)) e T s.heap h'->dS oe.cls e T a0 h'->Q () { s with heap:=h' }):
  wpAny M A (do let a <-frameOf env;let pl <-entryPlaceOf L nx;let b <-yz head a .none (rawInt L) .none pl;setField (.ref e) 1 b)
   (λ_ s'=>wpAny M A (setFlight (.ref e) none) Q E s') E s:=by
 have ne:=JO hl he hd;refine aa (wpAny_frameOf_fun hfr hl hf λg1 so=>aa (wpAny_entryPlaceOf λpl Dh=>aa (V3 Dh λob ts dt hts nf=>?_)));have e1:g1.get? e=some oe:=(so.2.1 e ne).trans he;have lt:e<g1.objs.size:=aq e1;refine BY (s:={ s with heap:=g1.push ob }) (aj _ e1) hd Cu λg2 oe2 sb2 ge c2 dn2 d2=>?_;have gT:g2.get? g1.objs.size=some ob:=sb2.extBut _ _ (ji lt) (bc _ nf);refine JN (s:={ s with heap:=g2 }) ge d2 (T:=g1.objs.size) (by rw[jg Cu]) gT dt hts λg3 sb3 tb=>?_;have kp:∀b o,b≠e->g1.get? b=some o->g3.get? b=some o:=λb o hb q=>sb3.extBut _ _ (ay (aq q)) (sb2.extBut _ _ hb (aj _ q));refine k g3 g1.objs.size ⟨qi so.1.symm,λb o hb hn q=>kp b o hb ((so.2.1 b hn).trans q),λb o hb q=>?_,tb⟩ ⟨oe2,_,sb3.extBut _ _ (ay lt) ge,c2,d2, ?_, ?_,dn2.trans hdn⟩
 ·obtain⟨sl,q'⟩:=so.2.2 b o q;exact⟨sl,kp b _ hb q'⟩
 ·rw[Array.getElem?_setIfInBounds_ne (by decide)];exact h0
 ·rw[jg Cu]
theorem V4 {base:cy}{env:Env}{outer:List Env}{L e:ai}{oe:Obj}{vs:Array af}{a0:af}{Q:Unit->ag->Prop}(hfr:A.frames=some (env::outer)) (hl:s.heap.FunFrames base (env::outer)) (hf:env.frame=some L)
  (he:s.heap.get? e=some oe) (hd:oe.data=.fields vs) (hdn:oe.dict=none) (h0:vs[0]?=some a0) (h1:vs[1]?=some .none)
  (k:∀h' T,Chg (dN (env::outer)) e T s.heap h'->dS oe.cls e T a0 h'->Q () { s with heap:=h' }):
  wpAny M A (noteFrame (.ref e) env) (λ_ s'=>wpAny M A (setFlight (.ref e) none) Q E s') E s:=by
 unfold noteFrame;rw[hf];refine aa (ff he hd h1 ?_);exact JP hfr hl hf he hd hdn (dm.mp h1).1 h0 k
theorem V5 {base:cy}{env:Env}{outer:List Env}{L e T:ai}{C a0:af}{Q:Unit->ag->Prop}(hfr:A.frames=some (env::outer)) (hl:s.heap.FunFrames base (env::outer)) (hf:env.frame=some L)
  (hx:dS C e T a0 s.heap) (ht:eE T s.heap) (hne:T≠e)
  (k:∀h' T',s.heap.objs.size<=T'->(∀b o,b≠e->b≠T->b∉dN (env::outer)->s.heap.get? b=some o->h'.get? b=some o)->(∀b o,b≠e->b≠T->s.heap.get? b=some o->∃sl,h'.get? b=some { o with slots:=sl })->
   dS C e T' a0 h'->eE T h'->eE T' h'->Q () { s with heap:=h' }):
  wpAny M A (noteFrame (.ref e) env) (λ_ s'=>wpAny M A (setFlight (.ref e) none) Q E s') E s:=by
 obtain⟨oe,vs,he,rfl,hd,h0,h1,hdn⟩:=hx;obtain⟨oT,ts,hT,hdT,h3⟩:=ht;have l3:3<ts.size:=(dm.mp h3).1;have nT:=JO hl hT hdT;unfold noteFrame;rw[hf];refine aa (ff he hd h1 ?_);rw[if_pos (by simp)];refine aa (ff hT hdT h3 ?_);rw[if_neg (by simp[rawInt])];refine aa (BY hT hdT l3 λg o' sb gT _ _ dT=>?_);have hl':g.FunFrames base (env::outer):=hl.of_keeps λb o q nf=>⟨o,sb.extBut _ _ (λz=>by subst z;rw[hT]at q;cases q;exact nf ts hdT) q,rfl⟩
 refine JP (s:={ s with heap:=g }) hfr hl' hf (sb.extBut _ _ (de hne) he) hd hdn (dm.mp h1).1 h0 λh' T' c x=>?_;refine k h' T' (by rw[<-sb.1];exact c.new) (λb o n1 n2 n3 q=>c.keep b o n1 n3 (sb.extBut _ _ n2 q)) (λb o n1 n2 q=>c.slot b o n1 (sb.extBut _ _ n2 q)) x ⟨_,_,c.keep T _ hne nT gT,dT, ?_⟩ c.tb;rw[jg l3]
end
theorem BZ {P:bh}{w:cj}{H:Hp}{h:cy}{a:ai}{o:HO}(x:Br P w H h a o):∃ob,h.get? a=some ob:=by
 cases o with
 |lst xs=>obtain⟨_,_,_,_,e⟩:=x;exact⟨_,e⟩
 |tup xs=>obtain⟨_,_,_,ob,e,_⟩:=x;exact⟨_,e⟩
 |dK kvs=>obtain⟨_,_,_,_,o,_,_,e,_⟩:=x;exact⟨_,e⟩
 |dT kvs=>obtain⟨_,_,_,_,o,_,_,e,_⟩:=x;exact⟨_,e⟩
 |set S n=>obtain⟨o,_,_,_,e,_⟩:=x;exact⟨_,e⟩
 |ins C dx fs=>obtain⟨_,_,_,e,_⟩:=x;exact⟨_,e⟩
 |own y=>exact x
 |xd fs=>obtain⟨_,⟨_,_,_,e,_⟩,_⟩:=x;exact⟨_,e⟩
 |rng lo hi=>obtain⟨_,_,_,e⟩:=x;exact⟨_,e⟩
 |frz ob u=>obtain⟨e,_⟩:=x;exact⟨_,e⟩
 |tbl ps=>exact⟨_,(show h.get? a=some _ from x)⟩
 |met f y=>exact⟨_,(show h.get? a=some _ from x)⟩
 |ext φ=>obtain⟨_,e,_⟩:=x;exact e
def xI (base:cy) (H:Hp) (C:af) (e:ai):Prop:=∃T a0,H e=some (.ext (dS C e T a0))/\H T=some (.ext (eE T))/\base.get? e=none/\T≠e
def tS (e:ai) (H H':Hp):Prop:=∀b o,b≠e->H b=some o->H' b=some o
theorem V6 {C a0:af}{e T:ai}{h1 h2:cy}(x:dS C e T a0 h1) (k:∀o,h1.get? e=some o->h2.get? e=some o):dS C e T a0 h2:=by obtain⟨oe,vs,he,r⟩:=x;exact⟨oe,vs,k oe he,r⟩
theorem V7 {T:ai}{h1 h2:cy}(x:eE T h1) (k:∀o,h1.get? T=some o->h2.get? T=some o):eE T h2:=by obtain⟨oe,vs,he,r⟩:=x;exact⟨oe,vs,k oe he,r⟩
theorem JQ {P:bh}{w:cj}{H:Hp}{h:cy}{C a0:af}{e T:ai}(x:dS C e T a0 h):Br P w H h e (.ext (dS C e T a0)):=⟨x,(let ⟨oe,_,he,_⟩:=x;⟨oe,he⟩),λ_ _ y k=>V6 y k⟩
theorem xJ {P:bh}{w:cj}{H:Hp}{h:cy}{T:ai}(x:eE T h):Br P w H h T (.ext (eE T)):=⟨x,(let ⟨oe,_,he,_⟩:=x;⟨oe,he⟩),λ_ _ y k=>V7 y k⟩
section
variable{P:bh}{w:cj}{M:yf}{A:bw}{E:af->ag->Prop}{s:ag}{H:Hp}{base:cy}{env:Env}{outer:List Env}{L e:ai}{C:af}
theorem CA {Q:Unit->ag->Prop}(hfr:A.frames=some (env::outer)) (hl:s.heap.FunFrames base (env::outer)) (hf:env.frame=some L) (hok:Cw P w H s.heap) (hfree:∀b∈dN (env::outer),H b=none) (fl:xI base H C e)
  (k:∀h' H',Un (dN (env::outer)) [] H H' s.heap h'->Cw P w H' h'->xI base H' C e->tS e H H'->Q () { s with heap:=h' }):
  wpAny M A (noteFrame (.ref e) env) (λ_ s'=>wpAny M A (setFlight (.ref e) none) Q E s') E s:=by
 obtain⟨T,a0,he,hT,hb,hne⟩:=fl;have xe:dS C e T a0 s.heap:=(show Br P w H s.heap e _ from hok e _ he).1;have xt:eE T s.heap:=(show Br P w H s.heap T _ from hok T _ hT).1;refine V5 hfr hl hf xe xt hne λh' T' Eo keep slot x' t0 t'=>?_;have nT':H T'=none:=hok.fresh Eo;have eT':T'≠e:=(fW he nT').symm;have TT':T'≠T:=(fW hT nT').symm;have sx:tS e H (upd (upd H e (.ext (dS C e T' a0))) T' (.ext (eE T'))):=λb o hbe q=>by rw[bU (fW q nT'),bU hbe];exact q
 have ee:upd (upd H e (.ext (dS C e T' a0))) T' (.ext (eE T')) e=some (.ext (dS C e T' a0)):=by rw[bU (de eT'),cR]
 refine k h' (upd (upd H e (.ext (dS C e T' a0))) T' (.ext (eE T'))) ?_ ?_ ⟨T',a0,ee,cR,hb,eT'⟩ sx
 ·have free:∀b o,s.heap.get? b=some o->H b=none->upd (upd H e (.ext (dS C e T' a0))) T' (.ext (eE T')) b=none:=λb o q n=>by have h1:b≠T':=ay (au (aq q) Eo);have h2:b≠e:=(fW he n).symm;rw[bU h1,bU h2];exact n
  refine⟨λb o q n hb _=>keep b o (fW he n).symm (fW hT n).symm hb q,λb o q n _ _=>slot b o (fW he n).symm (fW hT n).symm q,λb o q n _=>free b o q n,λb o q _=>?_,λb xs q=>?_,λb o u q=>?_,λb ps q=>?_⟩
  ·by_cases h1:b=e
   ·subst h1;obtain⟨oe,_,z,_⟩:=x';exact⟨oe,z⟩
   ·by_cases h2:b=T
    ·subst h2;obtain⟨oe,_,z,_⟩:=t0;exact⟨oe,z⟩
    ·obtain⟨sl,z⟩:=slot b o h1 h2 q;exact⟨_,z⟩
  ·exact sx b _ (oA q he (by intro z;cases z)) q
  ·exact sx b _ (oA q he (by intro z;cases z)) q
  ·exact⟨#[],by rw[sx b _ (oA q he (by intro z;cases z)) q];simp⟩
 ·intro a o q
  by_cases h1:a=T'
  ·subst h1;rw[cR]at q;cases q;exact xJ t'
  ·rw[bU h1]at q
   by_cases h2:a=e
   ·subst h2;rw[cR]at q;cases q;exact JQ x'
   ·rw[bU h2]at q
    by_cases h3:a=T
    ·subst h3;rw[hT]at q;cases q;exact xJ t0
    ·have nf:a∉dN (env::outer):=λz=>by rw[hfree a z]at q;cases q
     refine(hok a o q).stay (λb u hb z=>?_) (λb z=>sx b _ (oA z he (by intro y;cases y)) z) λb xs z=>sx b _ (oA z he (by intro y;cases y)) z
     rcases hb with rfl|hb
     ·exact keep b u h2 h3 nf z
     ·exact keep b u (oA hb he (by intro y;cases y)) (oA hb hT (by intro y;cases y)) (λy=>by rw[hfree b y]at hb;cases hb) z
theorem JR {Q:Unit->ag->Prop}{h0:cy}{args:List af}(hfr:A.frames=some (env::outer)) (hl:h0.FunFrames base (env::outer)) (hf:env.frame=some L) (hok:Cw P w H h0) (hfree:∀b∈dN (env::outer),H b=none) (hsb:∀b o,base.get? b=some o->h0.get? b=some o)
  (mx:Heap.MadeExcOf h0 s.heap e C args)
  (k:∀h' H',Un (dN (env::outer)) [] H H' h0 h'->Cw P w H' h'->xI base H' C e->De H H'->Q () { s with heap:=h' }):
  wpAny M A (noteFrame (.ref e) env) (λ_ s'=>wpAny M A (setFlight (.ref e) none) Q E s') E s:=by
 obtain⟨t,he,hnt,ht⟩:=mx.there;have hbn:base.get? e=none:=by
  cases q:base.get? e with
  |none=>rfl
  |some o=>have:=hsb e o q;rw[mx.new]at this;cases this
 have nH:H e=none:=by
  cases q:H e with
  |none=>rfl
  |some o=>
   have z:∀a o,H a=some o->h0.get? a≠none:=λa o q n=>by
    have lt:=hok.lt q;have:=(hok a o q)
    have ex:∃ob,h0.get? a=some ob:=BZ this;obtain⟨ob,eo⟩:=ex;rw[n]at eo;cases eo
   exact absurd mx.new (z e o q)
 have hl1:s.heap.FunFrames base (env::outer):=hl.of_keeps λb o hb _=>⟨o,mx.keeps b o hb,rfl⟩
 refine V4 hfr hl1 hf he rfl rfl (a0:=.ref t) rfl rfl λh' T c x=>?_;have ne_e:∀b o,h0.get? b=some o->b≠e:=λb o q z=>by subst z;rw[mx.new]at q;cases q
 have lt0:∀b o,h0.get? b=some o->b<T:=λb o q=>au (aq (mx.keeps b o q)) c.new;have nT:H T=none:=by
  cases q:H T with
  |none=>rfl
  |some o=>obtain⟨ob,eo⟩:=BZ (hok T o q);exact absurd (lt0 T ob eo) (gz _)
 have eT:T≠e:=ji (au (aq he) c.new);have sm:De H (upd (upd H e (.ext (dS C e T (.ref t)))) T (.ext (eE T))):=λb o q=>by rw[bU (fW q nT),bU (fW q nH)];exact q
 refine k h' (upd (upd H e (.ext (dS C e T (.ref t)))) T (.ext (eE T))) ?_ ?_ ⟨T,.ref t,by rw[bU (de eT),cR],cR,hbn,eT⟩ sm
 ·refine⟨λb o q n hb _=>c.keep b o (ne_e b o q) hb (mx.keeps b o q),λb o q n _ _=>c.slot b o (ne_e b o q) (mx.keeps b o q),λb o q n _=>?_,λb o q _=>?_,λb xs q=>sm b _ q,λb o u q=>sm b _ q,λb ps q=>⟨#[],by rw[sm b _ q];simp⟩⟩
  ·rw[bU (ay (lt0 b o q)),bU (ne_e b o q)];exact n
  ·obtain⟨sl,z⟩:=c.slot b o (ne_e b o q) (mx.keeps b o q);exact⟨_,z⟩
 ·intro a o q
  by_cases h1:a=T
  ·subst h1;rw[cR]at q;cases q;exact xJ c.tb
  ·rw[bU h1]at q
   by_cases h2:a=e
   ·subst h2;rw[cR]at q;cases q;exact JQ x
   ·rw[bU h2]at q;have nf:a∉dN (env::outer):=λz=>by rw[hfree a z]at q;cases q
    refine(hok a o q).stay (λb u hb z=>?_) (λb z=>sm b _ z) λb xs z=>sm b _ z
    rcases hb with rfl|hb
    ·exact c.keep b u (ne_e b u z) nf (mx.keeps b u z)
    ·exact c.keep b u (ne_e b u z) (λy=>by rw[hfree b y]at hb;cases hb) (mx.keeps b u z)
end
def bN (P:bh) (w:cj) (base:cy):mS:=λouter H s E u s'=>∃e C H',u=.ref e/\s'.os=s.os/\ua s'.gens/\Un (dN outer) [] H H' s.heap s'.heap/\Cw P w H' s'.heap/\xI base H' C e/\E u none H'
def V8 (X:Cx) (E:XK):Prop:=∀(pins:List (ai×Obj)) (σ:St) (H:Hp) (s:ag) (h':cy) (e:ai) (C:af) (args:List af),Inv X pins σ H s->Heap.MadeExcOf s.heap h' e C args->
 (∀H',De H H'->(∃T a0,H' e=some (.ext (dS C e T a0)))->E (.ref e) none H')->X.xe (.ref e) { s with heap:=h' }
structure Good (X:Cx) (G:Cfg) (E:XK) (k:Nat):Prop where
 calm:X.calm=true
 room:Ce k X.A
 K:X.K=G.K
 pas:A3 (bN X.prog X.w X.base) X E
 own:yw (model X.prog X.w) X.A X.env X.xe
 rais:V8 X E
def CB (E:XK):Prop:=∀e H H',tS e H H'->(∃C T a0 T' a0',H e=some (.ext (dS C e T a0))/\(∃h,dS C e T a0 h)/\H' e=some (.ext (dS C e T' a0')))->E (.ref e) none H->E (.ref e) none H'
section
variable{P:bh}{w:cj}{K:ao}{mg:Str->Option af}{base:cy}{N:Bf}{qual:Str}{scope:gq}{f:ai}{cdv:af}{A:bw}{outer:List Env}{s0:ag}{H0:Hp}{E0:XK}{G:Cfg}{E:XK}{k:Nat}
theorem CC (hr:Ce k (A.deeper (envOfC qual scope s0.heap.objs.size f cdv))) (hK:K=G.K) (hE:∀u H',E u none H'->E0 u none H') (hF:CB E):
  Good (fO (bN P w base) P w K mg base N qual scope f cdv A outer s0 H0 E0) G E k where
 calm:=rfl
 room:=hr
 K:=hK
 own:=zv
 pas:=by intro pins σ H s u s' I ⟨e,C,H',eu,os,bare,un,hok,fl,he⟩;subst eu;have I':=I.call' os un hok bare (λb z=>absurd z (by simp));refine aa (CA (P:=P) (w:=w) (H:=H') (base:=base) I'.ok.frames I'.stack rfl hok I'.stkFree fl λh'' H'' un2 Dy Fv sx=>?_);have I2:=I'.call (h':=h'') (g':=s'.gens) (d':=s'.drawn) (t':=s'.toks) un2 Dy I'.bare (λb z=>absurd z (by simp));obtain⟨T,a0,h1,_⟩:=id fl;obtain⟨T2,a2,h3,_⟩:=id Fv;have xe1:dS C e T a0 s'.heap:=(show Br P w H' s'.heap e _ from hok e _ h1).1;have:E (.ref e) none H'':=hF e H' H'' sx ⟨C,T,a0,T2,a2,h1,⟨_,xe1⟩,h3⟩ he;exact⟨e,C,H'',rfl,I2.os,I2.bare,I2.base,Dy,Fv,hE _ _ this⟩
 rais:=by intro pins σ H s h' e C args I mx he;refine aa (JR (P:=P) (w:=w) (H:=H) (base:=base) I.ok.frames I.stack rfl I.hok I.stkFree I.bk mx λh'' H'' un2 Dy Fv sm=>?_);have I2:=I.call (h':=h'') (g':=s.gens) (d':=s.drawn) (t':=s.toks) un2 Dy I.bare (λb z=>absurd z (by simp));obtain⟨T2,a2,h3,_⟩:=id Fv;exact⟨e,C,H'',rfl,I2.os,I2.bare,I2.base,Dy,Fv,hE _ _ (he H'' sm ⟨T2,a2,h3⟩)⟩
theorem cQ {X:Cx}{sc:gq}{N':Bf}{s:ag}{H:Hp}{ex:List ai}(g:Good X G E k):Good (bV X sc N' s H ex) G L2.E0 k where
 calm:=g.calm
 room:=g.room
 K:=g.K
 own:=PassesOwn.never
 pas:=λ_ _ _ _ _ _ _ ⟨_,_,_,_,_,_,_,_,_,z⟩=>z
 rais:=λ_ _ H s h' e C args I mx he=>by
  have nH:H e=none:=by
   cases q:H e with
   |none=>rfl
   |some o=>obtain⟨ob,eo⟩:=BZ (I.hok e o q);rw[mx.new]at eo;cases eo
  exact he (upd H e (.ext (dS C e 0 .none))) (cK nH) ⟨0,.none,cR⟩
def bW (n:Nat) (ds:Bh):Ev:=ds.map some++bq (n - ds.length) none
def bK:Sr->Rs Dv
 | .rt d h=>.ok d h
 | .nx _ h=>.ok .non h
 | .ex c h=>.ex c h
 |_=>.bad
def aY (np n:Nat) (mb:MS):Bg:=λds h=>if ds.length=np then bK (mb (bW n ds) h)else .bad
def cU (G:Cfg) (F:Bg):Sp:=λvs H Q E=>∃μ h ds,RelDL G μ h.length H ds vs/\Bw G μ h H/\Out G E μ h.length H (F ds h) (Bo G) Q
theorem CD {μ:Nat->ai}{n:Nat}{H:Hp}{ds:Bh}{vs:Hf}(r:RelDL G μ n H ds vs) (N:Bf):Bs G μ n H (bW N.length ds) (start N vs):=by
 have hl:=r.length;refine⟨by simp[bW,start,hl],λi d e=>?_⟩;unfold bW at e
 by_cases hi:i<ds.length
 ·rw[dw (by simpa using hi),dj]at e
  cases q:ds[i]? with
  |none=>rw[q]at e;cases e
  |some d'=>rw[q]at e;cases e;obtain⟨v,e1,r1⟩:=r.get q;refine⟨v, ?_,r1⟩;unfold start;rw[dw (by simp;omega),dj,e1];rfl
 ·rw[gg (by simpa using hi),sr]at e
  split at e <;> cases e
def EB (G:Cfg) (μ0:Nat->ai) (n0:Nat) (H0:Hp) (r:Sr):XK:=λu _ H'=>∃c h' μ',r=.ex c h'/\Ext μ0 n0 H0 μ' h'.length H'/\Bw G μ' h' H'/\wR G H' c u
theorem Bw.sameX {μ:Nat->ai}{h:Hs}{H H':Hp}{e:ai}(s:Bw G μ h H) (sx:tS e H H') (hx:∃φ,H e=some (.ext φ)):Bw G μ h H'/\∀(n:Nat),Ext μ n H μ n H':=by
 obtain⟨φ,hx⟩:=hx;have x:∀n:Nat,Ext μ n H μ n H':=λn=>⟨ak _,λ_ _=>rfl,λa o i q=>sx a o (by rintro rfl;rw[hx]at q;cases q;exact i) q⟩
 refine⟨⟨s.inj,λi o q=>?_,s.tab.keep λa o _ n2 q=>sx a o (by rintro rfl;rw[hx]at q;cases q;exact n2 _ rfl) q⟩,x⟩;have r:=s.ob i o q
 cases o with
 |lst xs=>obtain⟨vs,e1,r1⟩:=r;exact⟨vs,sx _ _ (oA e1 hx (by intro z;cases z)) e1,Ga (x _) _ _ r1⟩
 |clo k t=>exact r.clo (x _)
theorem CF {μ0:Nat->ai}{n0:Nat}{H0:Hp}{r:Sr}:CB (EB G μ0 n0 H0 r):=by intro e H H' sx ⟨C,T,a0,T',a0',h1,⟨hp,hx⟩,h3⟩ ⟨c,h',μ',er,x,s,e',φ,eu,h4,h5⟩;cases eu;obtain⟨s2,x2⟩:=s.sameX sx ⟨_,h1⟩;refine⟨c,h',μ',er,x.trans (x2 _),s2,e,_,rfl,h3,λhh z=>?_⟩;rw[h1]at h4;cases h4;obtain⟨o,g1,g2⟩:=h5 hp hx;obtain⟨oe,vs,g3,g4,_⟩:=hx;rw[g3]at g1;cases g1;obtain⟨oe',Cs,g5,g6,_⟩:=z;exact⟨oe',g5,by rw[g6,<-g4,g2]⟩
theorem dZ {x qual:Str}{st:ie}{fd:bp}{ps:Bf}{mb:MS}(Fn:Cy K x qual st f fd) (S:Bq N ps (aT st)) (hK:K=G.K)
  (Cm:∀(cdv:af) (A:bw) (outer:List Env) (s:ag) (H:Hp) (E₀ E:XK),Good (fO (bN P w base) P w K mg base N qual (aT st) f cdv A outer s H E₀) G E k->jJ (fO (bN P w base) P w K mg base N qual (aT st) f cdv A outer s H E₀) G E (hZ st) mb):
  Bt P w K mg base (bN P w base) (k+1) f fd ps (cU G (aY ps.length N.length mb)):=by
 obtain⟨oc,od,kV,doc,pm,an,cdv,ct,osl,rfl,lk,hcd⟩:=Fn.ex;have hlen:∀vs H Q E,cU G (aY ps.length N.length mb) vs H Q E->vs.length=ps.length:=λvs H Q E ⟨μ,h,ds,r,sm,o⟩=>by
  rw[r.length];unfold aY at o
  by_cases hd:ds.length=ps.length
  ·exact hd
  ·rw[if_neg hd]at o;exact o.elim
 refine A4 lk hcd S hlen λA outer s H vs Q E hr hsp=>?_;have hl:=hlen _ _ _ _ hsp;obtain⟨μ,h,ds,r,sm,o⟩:=hsp;have o':Out G E μ h.length H (bK (mb (bW N.length ds) h)) (Bo G) Q:=by unfold aY at o;rw[if_pos (by rw[<-r.length];exact hl)]at o;exact o
 refine⟨_,Cm cdv A outer s H E (EB G μ h.length H (mb (bW N.length ds) h)) (CC hr hK (λu H' ⟨c,h',μ',er,x,s',fl⟩=>?_) CF) hK, ?_⟩
 ·rw[er]at o';exact o' μ' H' u x s' fl
 ·refine⟨μ,bW N.length ds,h,CD r N,sm, ?_⟩
  cases q:mb (bW N.length ds) h with
  |bad=>rw[q]at o';exact o'.elim
  |bk ρ h'=>rw[q]at o';exact o'.elim
  |ct ρ h'=>rw[q]at o';exact o'.elim
  |rt d h'=>rw[q]at o';exact o'
  |nx ρ h'=>rw[q]at o';exact λμ' H' σ' x' s' rs'=>o' μ' H' .non x' s' rfl
  |ex c h'=>exact λμ' H' u x' s' fl=>⟨c,h',μ',rfl,x',s',fl⟩
theorem JS {X:Cx}{F:Bg}{ps:Bf}{fd:bp}{x:Str}{p pos:Pos}{e:bj}{es:List bj}{ms:M Bh }{j:Nat}(g:Good X G E k) (Fn:Bt X.prog X.w X.K X.mg X.base (bN X.prog X.w X.base) j f fd ps (cU G F)) (hj:j<=k)
  (hg:Gl X x) (hm:X.mg x=some (.ref f)) (hk:kj X.K (.ref f)=true) (hb:Binds X.K fd ps []) (ha:dX X G E (e::es) ms)
  (Ed:(x==He)=false:=by decide) (he:aw (e::es) X.env=(false,eval e X.env)::aw es X.env:=by rfl) (Dh:(backTo pos (aw es X.env)).any (·.1)=false:=by rfl):
  aI X G E (.Call (.Name x p) (e::es) [] pos) (aF F ms):=λhK=>
 Gg (G8 Fn (g.room.mono hj) hg hm hk hb .nil g.pas (ha hK) Ed he Dh) λσ H Q ⟨μ,ρ,h,rs,s,o⟩=>jV rs s o λμ1 ds1 h1 vs H1 x1 Cb s1 r1 o1=>by rw[uf];exact⟨μ1,h1,ds1,r1,s1,o1⟩
end
abbrev CG:List af:=[.type "ValueError",.type "Exception",.type "BaseException",.type "object"]
theorem V9 {K:ao}{mg:Str->Option af}{base:cy}(p:bh) (m:Mod K mg base):∃loose mb,PySem.W.TopRead p loose mg mb base:=by
 obtain⟨mb,hb,hbb⟩:=m.blt;obtain⟨o,es,ep,ho,hd,hk,hf⟩:=id m.glob;refine⟨es.toList.filterMap λe=>match e.key with
  | .str n _=>some n
  |_=>none,mb,m.glob,hb,m.nolimit,hbb,λx _ hx _ _ _=>?_⟩
 rw[<-hf x]
 cases q:nsFind es x with
 |none=>rfl
 |some v=>
  exfalso
  apply hx
  unfold nsFind findBy at q;obtain⟨e,he,_⟩:=Option.map_eq_some_iff.mp q;have h1:=Array.find?_some he;have h2:=Array.mem_of_find?_eq_some he;obtain⟨n,t,hn⟩:=hk e h2;rw[hn]at h1;have h3:n=x:=by simpa[Value.isStr]using h1
  exact jz.mpr ⟨e,by simpa using h2,by rw[hn,h3]⟩
section
variable{k:Nat}{x:Str}{C:ai}{np cpos pos:Pos}{e:bj}{es:List bj}{t:TA}{ms:M Bh }{c:Nat}
theorem WA (g:Good X G E k) (hg:Gl X x) (hm:X.mg x=some (.ref C)) (hns:zb X.K di x=some (some (.ref C))) (hx:yj X.K C CG "ValueError.__new__" = true) (ha:PA X (e::es) t) (hd:(x==He)=false:=by decide)
  (he:aw (e::es) X.env=(false,eval e X.env)::aw es X.env:=by rfl) (Dh:(backTo cpos (aw es X.env)).any (·.1)=false:=by rfl):
  PS X (.Raise (some (.Call (.Name x np) (e::es) [] cpos)) none pos) (λ_ σ H=>t σ H λvs H1=>vs.length<=cb/\∀e H',De H1 H'->(∃T a0,H' e=some (.ext (dS (.ref C) e T a0)))->E (.ref e) none H'):=by
 intro pins s σ H D I h;obtain⟨bm,N,nm,q,bs,hdct,sn,sub,ab,col,dd,k0,k1,k2,k3,k5,mN,hC,hN,hni,T⟩:=(let ⟨_,_,tr⟩:=V9 X.prog I.ok.mod;PySem.W.own_of_in I.ok.mod.kin tr hns hx).obj;refine wpAny_Raise_call_subU (C:=C) (nm:=nm) (q:=q) (N:=N) (bs:=bs) (bm:=bm) (hdct:=hdct) (sn:=sn) (sub:=sub) (ab:=ab) (col:=col) (dd:=dd) (k0:=k0) (k1:=k1) (k2:=k2) (k3:=k3) (k5:=k5)
  xu (by decide) xu (mN:=mN) (T.hasType (by decide)) (I.ok.hd g.calm) (by rw[he];show(false||(backTo cpos (aw es X.env)).any (·.1))=false;rw[Dh];rfl) hni (vZ I hg hm ⟨rfl, ?_⟩ hd)
 have hh:=ha cpos pins s σ H _ I h;rw[he]at hh ⊢;refine Calls.evalArgs_plain (aW hh λus s2 ⟨vs,H2,I2,r,hz,w⟩=>⟨rfl,by rw[<-r.length];exact hz,I2.bk _ _ hC,hN.keeps I2.bk,T.keeps I2.bk,λh' e' mx=>?_⟩);exact g.rais pins σ H2 s2 h' e' _ _ I2 mx λH' sm z=>w e' H' sm z
theorem WB {H:Hp}{e:ai}(hc:C=G.cl c) (z:∃T a0,H e=some (.ext (dS (.ref C) e T a0))):wR G H c (.ref e):=by obtain⟨T,a0,z⟩:=z;exact⟨e,_,rfl,z,λh ⟨oe,vs,h1,h2,_⟩=>⟨oe,h1,by rw[h2,hc]⟩⟩
def xK (c:Nat) (ms:M Bh ):MS:=λρ h=>(ms ρ h).thenS λds h1=>if ds.length<=1000 then .ex c h1 else .bad
theorem WC (g:Good X G E k) (hg:Gl X x) (hm:X.mg x=some (.ref C)) (hns:zb X.K di x=some (some (.ref C))) (hx:yj X.K C CG "ValueError.__new__" = true) (hc:C=G.cl c) (ha:dX X G E (e::es) ms) (hd:(x==He)=false:=by decide)
  (he:aw (e::es) X.env=(false,eval e X.env)::aw es X.env:=by rfl) (Dh:(backTo cpos (aw es X.env)).any (·.1)=false:=by rfl):
  hJ X G E (.Raise (some (.Call (.Name x np) (e::es) [] cpos)) none pos) (xK c ms):=λhK=>PS.imp (WA g hg hm hns hx (ha hK) hd he Dh) λD σ H ⟨μ,ρ,h,rs,s,o⟩=>
 ⟨μ,ρ,h,rs,s,(o.thenS (R:=RelDL G)).mono λvs H1 ⟨μ1,ds,h1,x1,s1,r1,o1⟩=>by
  split at o1
  ·rename_i hl;refine⟨by rw[r1.length];exact cz hl (by decide),λe' H' sm z=>?_⟩;exact o1 μ1 H' (.ref e') (F' sm) (s1.same sm) (WB hc z)
  ·exact o1.elim⟩
end
open PySem.W
section
variable{prog:bh}{w:cj}{A:bw}{E:af->ag->Prop}{h:cy}{g:Array GenState}{d:Drawn}{t:Nat}{os:OsState}{a C:ai}{o:Obj}{K:Frag}
structure Du (K:Frag) (C:ai):Prop where
 ga:findIn K (.ref C) "__getattribute__" = some (some (.builtin "BaseException.__getattribute__"))
 ng:findIn K (.ref C) "__getattr__" = some none
 cl:findIn K (.ref C) "__class__" = some (some (.builtin "object.__class__"))
 ob:mroIn K C (.type "object")=some true
 be:subIn K (.ref C) (.type "BaseException")=some true
 se:kitCls K (.ref C) (.ref C)=some true
 lk:∃oc od cd osl,K.lookup C=some ⟨oc,od,.cls cd,osl⟩
theorem kindGa:builtinKind "BaseException.__getattribute__" = some .slot/\splitId "BaseException.__getattribute__" = some ("BaseException","__getattribute__"):=by decide +kernel
theorem WD:(vf "BaseException.__getattribute__" == vf "object.__getattribute__")=false:=by decide +kernel
section
variable{R:xq->ag->Prop}{s:ag}
theorem WE {M:yf}{n:af}{Q:Unit->ag->Prop}(X:K.In s.heap) (I:InstAt s.heap a o C none) (k:Du K C) (hq:Q () s):wpAny M A (checkBuiltinCall "BaseException.__getattribute__" ⟨[.ref a,n],[]⟩) Q E s:=by
 have one:Looks M s.heap (isInstance (.ref a) (.type "BaseException")) true:=I.type.andThen (looks_subIn X k.be);have two:=F.args_bexc_ga (.ref a) n;obtain⟨hh,g,d,t,os⟩:=s;unfold checkBuiltinCall;rw[kindGa.1,kindGa.2];refine aa (one.at ?_)
 repeat (first|assumption|wp_step)
theorem WG {n:Tok}(X:K.In s.heap) (I:InstAt s.heap a o C none) (k:Du K C) (hq:R (.ok (.ret (.ref C))) s):codeAny (model prog w) A (.call (.builtin "BaseException.__getattribute__") ⟨[.ref a,.str "__class__" n],[]⟩) R s:=by
 refine qj F.excAttr_ValueError.ga.plain F.entry_bexc_ga (WE X I k ?_);have own:=I.type (M:=model prog w);have entry:=looks_findIn (M:=model prog w) X k.cl;have of_get:=F.slot_gs_get.lookup;have of_set:=F.slot_gs_set.lookup;have kind:=F.typeOf_object_class;have kindIs:s.TypeIs (.builtin "object.__class__") "getset_descriptor" := kind;obtain⟨hh,g,d,t,os⟩:=s
 repeat (any_goals (first|assumption|with_reducible refine own.at ?_|with_reducible refine entry.at ?_|wp_step))
 exact class_get (s:=⟨hh,g,d,t,os⟩) X I k.ob (by repeat (any_goals (first|assumption|wp_step)))
end
theorem WH {Q:Option af->ag->Prop}(X:K.In h) (I:InstAt h a o C none) (k:Du K C) (hq:Q (some (.ref C)) ⟨h,g,d,t+1,os⟩):
  wpAny (model prog w) A (getAttr? (.ref a) "__class__") Q E ⟨h,g,d,t,os⟩:=by
 have own:=I.type (M:=model prog w);have first_:=looks_findIn (M:=model prog w) X k.ga;have then_:=looks_findIn (M:=model prog w) X k.ng;have bound:=F.excAttr_ValueError.ga.bind (.ref a);have other:=WD;have apart:(onTheHeap (ik C)&&vf "BaseException.__getattribute__" == vf "object.__getattribute__")=false:=by rw[other];rfl
 unfold getAttr? getAttrBy?
 repeat (any_goals (first|assumption|with_reducible refine own.at ?_|with_reducible refine first_.at ?_|with_reducible refine then_.at ?_|wp_step))
 exact WG X I k (by repeat (any_goals (first|assumption|wp_step)))
def WI (a C:ai) (h:cy):Prop:=∃o,InstAt h a o C none
theorem WJ (k:Du K C):KitX K (.ref a) (.ref C) (WI a C) where
 ty:=λ_ _ _ ⟨_,I⟩=>I.type
 it:=λ_ _ X _=>(kit_cls X k.se).2.1
 ne:=λh tp dd its n sl X htp=>by
  cases z:(ik C==ik tp)with
  |false=>rfl
  |true=>
   obtain rfl:C=tp:=by simpa using z
   obtain⟨oc,od,cd,osl,lk⟩:=k.lk;have:=X _ _ lk;rw[htp]at this;simp at this
 ca:=λ{prog w A E Q s} X ⟨o,I⟩ hq=>by obtain⟨hh,g,d,t,os⟩:=s;exact WH X I k hq
end
inductive Ty where
 |non|bl|int|str|tup|lst|dct|exc (c:Nat)
def fY:Dv->Hs->Option Ty
 | .non,_=>some .non
 | .bl _,_=>some .bl
 | .int _,_=>some .int
 | .str _,_=>some .str
 | .tup _,_=>some .tup
 | .ref i,h=>match getL h i with
  |some _=>some .lst
  |none=>none
 | .edc,_=>some .dct
 | .exc c,_=>some (.exc c)
 | .scr,_=>none
def lK (cl:Nat->ai):Ty->af
 | .non=>.type "NoneType"
 | .bl=>.type "bool"
 | .int=>.type "int"
 | .str=>.type "str"
 | .tup=>.type "tuple"
 | .lst=>.type "list"
 | .dct=>.type "dict"
 | .exc c=>.ref (cl c)
def aV (f:Ty->Option Bool) (d:Dv) (h:Hs):Rs Dv:=match fY d h with
 |some ty=>match f ty with
  |some b=>.ok (.bl b) h
  |none=>.bad
 |none=>.bad
section
variable{pins:List (ai×Obj)}{σ:St}{H:Hp}{s:ag}
theorem JT {μ:Nat->ai}{h:Hs}{d:Dv}{v:V}{u:af}{ty:Ty}(I:Inv X pins σ H s) (sm:Bw G μ h H) (r:Bo G μ h.length H d v) (ru:RelV v u) (e:fY d h=some ty) (hex:∀c,ty=.exc c->Du X.K (G.cl c)):
  ∃P,KitX X.K u (lK G.cl ty) P/\P s.heap/\u≠.builtin "__main__.__loader__#opaque":=by
 cases d with
 |non=>cases e;rw[Bo]at r;subst r;cases ru;exact⟨_,kitx_none,trivial,λz=>nomatch z⟩
 |bl b=>cases e;rw[Bo]at r;subst r;cases ru;exact⟨_,kitx_bool,trivial,λz=>nomatch z⟩
 |int i=>cases e;rw[Bo]at r;subst r;obtain⟨t,rfl⟩:=ru;exact⟨_,kitx_int,trivial,λz=>nomatch z⟩
 |str i=>cases e;rw[Bo]at r;subst r;obtain⟨t,rfl⟩:=ru;exact⟨_,kitx_str,trivial,λz=>nomatch z⟩
 |tup ds=>
  cases e;obtain⟨a,vs,rfl,ea,_⟩:=r;cases ru;obtain⟨_,_,_,o,h1,h2,_⟩:=(show Br X.prog X.w H s.heap a (.tup vs) from I.hok a _ ea)
  exact⟨_,kitx_tuple,⟨o,h1,h2⟩,λz=>nomatch z⟩
 |ref i=>
  dsimp only[fY]at e
  cases g:getL h i with
  |none=>rw[g]at e;cases e
  |some xs=>
   rw[g]at e;cases e;obtain⟨_,rfl⟩:=r;cases ru;obtain⟨vs,ea,_⟩:=sm.ob i _ (cW g);obtain⟨_,_,n,_,h1⟩:=(show Br X.prog X.w H s.heap (μ i) (.lst vs) from I.hok _ _ ea)
   exact⟨_,kitx_list,⟨_,h1,rfl⟩,λz=>nomatch z⟩
 |edc=>
  cases e;obtain⟨a,rfl,ea⟩:=r;cases ru;obtain⟨_,_,vs,_,p⟩:=(show Br X.prog X.w H s.heap a (.dK []) from I.hok a _ ea)
  obtain⟨o,es,ep,h1,h2,_⟩:=p;exact⟨_,kitx_dict,⟨o,h1,h2.1⟩,λz=>nomatch z⟩
 |exc c=>
  cases e;obtain⟨a,o,uo,rfl,ea,hc,hdn,vs,hd⟩:=r;cases ru;obtain⟨h1,_⟩:=(show Br X.prog X.w H s.heap a (.frz o uo) from I.hok a _ ea)
  refine⟨_,WJ (hex c rfl),⟨o,h1,hc, ?_, ?_⟩,λz=>nomatch z⟩
  ·unfold notCls;rw[hd]
  ·rw[hdn];trivial
 |scr=>cases e
end
section
variable{a b:bj}{ma:M Dv}{p pos:Pos}{f:Ty->Option Bool}
theorem JU:dy "isinstance" = some (.builtin "isinstance"):=by decide +kernel
def JV (G:Cfg) (f:Ty->Option Bool) (c:V):Hf->Hp->VK->Prop:=λxs H Q=>∃μ h d v ty bb,xs=[v,c]/\Bw G μ h H/\Bo G μ h.length H d v/\fY d h=some ty/\f ty=some bb/\Q (.bl bb) H
theorem WK {c:V}{u:af}(hc:(∃T,c=.ty T)∨∃C,c=.ref C) (rc:RelV c u) (hf:∀ty bb,f ty=some bb->kitOne X.K (lK G.cl ty) u=some bb) (hex:∀c bb,f (.exc c)=some bb->Du X.K (G.cl c)):Bv X (.builtin "isinstance") (JV G f c):=by
 intro pins s σ H xs us Q I rv ⟨μ,h,d,v,ty,bb,e1,sm,r,et,ef,q⟩;subst e1;obtain⟨u1,u2,rfl,r1,r2⟩:=qU rv;have e2:u2=u:=by rcases hc with⟨T,rfl⟩|⟨C,rfl⟩ <;> (cases rc;cases r2;rfl)
 subst e2;obtain⟨P,Z,hP,hne⟩:=JT I sm r r1 et (λc z=>by subst z;exact hex c bb ef);exact kia_one Z I.kIn hP (hf ty bb ef) hne λtk=>⟨.bl bb,H,I.tok _,rfl,q⟩
theorem pO {x:Str}{T:String}(hg:Gl X x) (hm:X.mg x=none) (hv:dy x=some (.type T)) (hn:x ≠ "__name__" := by decide) (hd:(x==He)=false:=by decide):PE X (.Name x pos) (tC (.ty T)):=λpins s σ H Q I h=>pE I hg hm hv ⟨.ty T,H,I,rfl,h⟩ hn hd
theorem rK {c:V}{u:af}(hg:Gl X "isinstance") (hm:X.mg "isinstance" = none) (ha:aI X G E a ma) (hb:PE X b (tC c)) (hc:(∃T,c=.ty T)∨∃C,c=.ref C) (rc:RelV c u)
  (hf:∀ty bb,f ty=some bb->kitOne G.K (lK G.cl ty) u=some bb) (hex:∀c bb,f (.exc c)=some bb->Du G.K (G.cl c))
  (he:aw [a,b] X.env=[(false,eval a X.env),(false,eval b X.env)]:=by rfl) (Ec:aw [b] X.env=[(false,eval b X.env)]:=by rfl):
  aI X G E (.Call (.Name "isinstance" p) [a,b] [] pos) (m1 (aV f) ma):=λhK=>
 Gg (qV (WK (G:=G) (f:=f) hc rc (by rw[hK];exact hf) (by rw[hK];exact hex)) hg hm JU (hY (ha hK) (hY hb jG Ec) (by rw[he,Ec])) (by decide) (by decide) (by rw[he,Ec]) (by rw[Ec];rfl))
  λσ H Q ⟨μ,ρ,h,rs,s,o⟩=>eV rs s o λμ1 d h1 v H1 x1 Cb s1 r1 o1=>by
   show JV G f c [v,c] H1 Q;unfold aV at o1
   cases q:fY d h1 with
   |none=>rw[q]at o1;exact o1.elim
   |some ty=>
    rw[q]at o1;dsimp only at o1
    cases q2:f ty with
    |none=>rw[q2]at o1;exact o1.elim
    |some bb=>rw[q2]at o1;exact⟨μ1,h1,d,v,ty,bb,rfl,s1,r1,q,q2,o1.val s1 rfl⟩
def JW (G:Cfg) (f:Ty->Option Bool) (cs:Hf):Hf->Hp->VK->Prop:=λxs H Q=>∃μ h d v ty bb tp,xs=[v,.ref tp]/\H tp=some (.tup cs)/\Bw G μ h H/\Bo G μ h.length H d v/\fY d h=some ty/\f ty=some bb/\Q (.bl bb) H
theorem WL {cs:Hf}{us:List af}(Fu:∀us',Bp cs us'->us'=us) (hf:∀ty bb,f ty=some bb->kitAny X.K (lK G.cl ty) us=some bb) (hex:∀c bb,f (.exc c)=some bb->Du X.K (G.cl c)):Bv X (.builtin "isinstance") (JW G f cs):=by
 intro pins s σ H xs uu Q I rv ⟨μ,h,d,v,ty,bb,tp,e1,etp,sm,r,et,ef,q⟩;subst e1;obtain⟨u1,u2,rfl,r1,r2⟩:=qU rv;cases r2;obtain⟨_,its,rits,o,h1,h2,_,n,h3⟩:=(show Br X.prog X.w H s.heap tp (.tup cs) from I.hok tp _ etp)
 have eits:=Fu its rits;subst eits;obtain⟨oc,od,odata,osl⟩:=o
 cases h2;cases h3
 obtain⟨P,Z,hP,hne⟩:=JT I sm r r1 et (λc z=>by subst z;exact hex c bb ef);exact kia_tup Z I.kIn hP h1 (hf ty bb ef) hne λtk=>⟨.bl bb,H,I.tok _,rfl,q⟩
theorem WM {cs:Hf}{us:List af}{bs:List bj}{kt:Nat}{tpos:Pos}(hg:Gl X "isinstance") (hm:X.mg "isinstance" = none) (ha:aI X G E a ma) (hb:PA X bs (λ_ H Q=>Q cs H)) (hl:cs.length<=cb) (Fu:∀us',Bp cs us'->us'=us)
  (hf:∀ty bb,f ty=some bb->kitAny G.K (lK G.cl ty) us=some bb) (hex:∀c bb,f (.exc c)=some bb->Du G.K (G.cl c))
  (he:aw [a,.Tuple bs kt tpos] X.env=[(false,eval a X.env),(false,eval (.Tuple bs kt tpos) X.env)]:=by rfl) (Ec:aw [.Tuple bs kt tpos] X.env=[(false,eval (.Tuple bs kt tpos) X.env)]:=by rfl):
  aI X G E (.Call (.Name "isinstance" p) [a,.Tuple bs kt tpos] [] pos) (m1 (aV f) ma):=λhK=>
 Gg (qV (WL (G:=G) (f:=f) Fu (by rw[hK];exact hf) (by rw[hK];exact hex)) hg hm JU (hY (ha hK) (hY (G7 hb) jG Ec) (by rw[he,Ec])) (by decide) (by decide) (by rw[he,Ec]) (by rw[Ec];rfl))
  λσ H Q ⟨μ,ρ,h,rs,s,o⟩=>eV rs s o λμ1 d h1 v H1 x1 Cb s1 r1 o1=>by
   refine⟨hl,λtp htp=>?_⟩;show JW G f cs [v,.ref tp] (upd H1 tp (.tup cs)) Q;unfold aV at o1
   cases q:fY d h1 with
   |none=>rw[q]at o1;exact o1.elim
   |some ty=>
    rw[q]at o1;dsimp only at o1
    cases q2:f ty with
    |none=>rw[q2]at o1;exact o1.elim
    |some bb=>rw[q2]at o1;have x2:Ext μ1 h1.length H1 μ1 h1.length (upd H1 tp (.tup cs)):=F' (cK htp);exact⟨μ1,h1,d,v,ty,bb,tp,rfl,cR,s1.same (cK htp),Gi x2 _ _ r1,q,q2,o1 μ1 _ _ x2 (s1.same (cK htp)) rfl⟩
end
def oJ:Dv->Option Bool
 | .bl b=>some b
 |_=>none
theorem CH {G:Cfg}{μ:Nat->ai}{n:Nat}{H:Hp}:∀{xs:Bh}{vs:Hf}{bs:List Bool},RelDL G μ n H xs vs->bP oJ xs=some bs->vs=bs.map V.bl
 | [],vs,bs,r,e=>by cases e;rw[RelDL]at r;exact r
 |x::xs,vs,bs,r,e=>by
  rw[RelDL]at r;obtain⟨v,rr,rfl,r1,r2⟩:=r;unfold bP at e
  cases x with
  |bl b=>
   dsimp only[oJ]at e
   cases q:bP oJ xs with
   |none=>rw[q]at e;cases e
   |some zs=>rw[q]at e;cases e;rw[Bo]at r1;subst r1;rw[CH r2 q];rfl
  |_=>cases e
section
variable{X:Cx}{pins:List (ai×Obj)}{σ:St}{H:Hp}{s:ag}
theorem WN (bs:List Bool):(bo bs.length).all (λi=>bs.getD i false)=bs.all id:=by
 rw[cw,ey,ey];constructor
 ·intro h b hb;obtain⟨i,hi,rfl⟩:=ux.mp hb;simpa[qh,hi]using h i (bu.mpr hi)
 ·intro h i hi;have hi:=bu.mp hi;simpa[qh,hi]using h _ (cm hi)
theorem WO (bs:List Bool):(bo bs.length).any (λi=>bs.getD i false)=bs.any id:=by
 rw[cw,nh,nh];constructor
 ·rintro ⟨i,hi,h⟩
  have hi:=bu.mp hi;exact⟨bs[i],cm hi,by simpa[qh,hi]using h⟩
 ·rintro ⟨b,hb,h⟩
  obtain⟨i,hi,rfl⟩:=ux.mp hb;exact⟨i,bu.mpr hi,by simpa[qh,hi]using h⟩
theorem WQ {bs:List Bool}{its:List af}(rv:Bp (bs.map V.bl) its) {i:Nat}{v:af}(e:its.toArray[i]?=some v):v=.bool (bs.getD i false):=by
 have hl:=rv.length;rw[bg]at hl;have e':its[i]?=some v:=by simpa using e
 have hi:i<its.length:=(ax.mp e').1;have hb:i<bs.length:=by omega
 obtain⟨u,e2,r⟩:=rv.get (i:=i) (x:=V.bl bs[i]) (by simp[hb]);rw[e']at e2;cases e2;have hg:bs.getD i false=bs[i]:=by simp[qh,hb]
 rw[hg];exact r
theorem JX {bs:List Bool}{its:List af}{A:bw}(rv:Bp (bs.map V.bl) its):TruthOf X.prog X.w A (λi v=>its.toArray[i]?=some v) (λi=>bs.getD i false):=by intro i v s Q E e q;rw[WQ rv e];exact nc q
theorem JY {o:Obj}{h':cy}{tk:Nat}(I:Inv X pins σ H s) (k:∀b u,b∉[s.heap.objs.size]->(s.heap.push o).get? b=some u->h'.get? b=some u):Inv X pins σ H { s with heap:=h',toks:=tk }:=by have I1:Inv X pins σ H { s with heap:=s.heap.push o }:=I.kept (t':=s.toks) λb u e=>aj _ e;obtain⟨f0,f1,f2,f3,f4,f5⟩:=I.fpOk (ak s.heap.objs.size) I.fresh;exact I1.turned (t':=tk) (λb u hb e=>k b u (by simpa using hb) e) f0 f1 f3 f4 f5
theorem WR (hc:X.calm=true):Bv X (.builtin "all") (λxs H Q=>∃(p:ai) (bs:List Bool),xs=[.ref p]/\H p=some (.lst (bs.map V.bl))/\Q (.bl (bs.all id)) H):=by
 intro pins s σ H xs us Q I rv ⟨p,bs,e,hp,q⟩;subst e;obtain⟨u,rfl,ru⟩:=iU rv;cases ru;obtain⟨its,rits,pl,hz⟩:=I.list (Gn hp);have hn:its.toArray.size=bs.length:=by have:=rits.length;simp at this ⊢;omega
 have ne:p≠s.heap.objs.size:=ay (I.hok.lt hp);refine call_all_walk (ub pl.isList ⟨_,_,_,_,_,_,λi=>bs.getD i false,rfl,Ax (A:=X.A.in1) (show X.A.in1.handled=none from I.ok.hd hc) _ p ne its.toArray,⟨⟨_,bc _ rfl,rfl,rfl⟩,pl.isList.push _⟩,JX rits,λh' tk k=>?_⟩);rw[hn,WN];exact⟨.bl _,H,(JY (tk:=tk) I k:Inv X pins σ H { s with heap:=h',toks:=tk }),rfl,q⟩
theorem WS (hc:X.calm=true):Bv X (.builtin "any") (λxs H Q=>∃(p:ai) (bs:List Bool),xs=[.ref p]/\H p=some (.lst (bs.map V.bl))/\Q (.bl (bs.any id)) H):=by
 intro pins s σ H xs us Q I rv ⟨p,bs,e,hp,q⟩;subst e;obtain⟨u,rfl,ru⟩:=iU rv;cases ru;obtain⟨its,rits,pl,hz⟩:=I.list (Gn hp);have hn:its.toArray.size=bs.length:=by have:=rits.length;simp at this ⊢;omega
 have ne:p≠s.heap.objs.size:=ay (I.hok.lt hp);refine call_any_walk (ub pl.isList ⟨_,_,_,_,_,_,λi=>bs.getD i false,rfl,Ax (A:=X.A.in1) (show X.A.in1.handled=none from I.ok.hd hc) _ p ne its.toArray,⟨⟨_,bc _ rfl,rfl,rfl⟩,pl.isList.push _⟩,JX rits,λh' tk k=>?_⟩);rw[hn,WO];exact⟨.bl _,H,(JY (tk:=tk) I k:Inv X pins σ H { s with heap:=h',toks:=tk }),rfl,q⟩
end
section
variable{e:bj}{ml:M Bh }{x:Str}{p pos:Pos}{bid T:String}
def mL (f:Bg) (ml:M Bh ):M Dv:=λρ h=>(ml ρ h).bind f
def JZ (G:Cfg) (r:Hf->Hp->VK->Prop) (f:Bg):Prop:=∀(E:XK) (μ:Nat->ai) (h:Hs) (H:Hp) (xs:Bh) (a:ai) (vs:Hf) (Q:VK),Bw G μ h H->H a=some (.lst vs)->RelDL G μ h.length H xs vs->Out G E μ h.length H (f xs h) (Bo G) Q->r [.ref a] H Q
theorem WT {r:Hf->Hp->VK->Prop}{f:Bg}(hd:JZ G r f) {σ:St}{H:Hp}{Q:VK}(t:iA G E (mL f ml) σ H Q):wG r (G6 (xG G E ml) G5) σ H Q:=by obtain⟨μ,ρ,h,rs,s,o⟩:=t;refine⟨μ,ρ,h,rs,s,(o.bind (R1:=RL G)).mono λv H1 ⟨μ1,xs,h1,x1,s1,⟨a,vs,ev,ea,_,r1⟩,o1⟩=>?_⟩;subst ev;exact hd E μ1 h1 H1 xs a vs Q s1 ea r1 o1
theorem J0 {r:Hf->Hp->VK->Prop}{f:Bg}(hc:Bv X (.builtin bid) r) (hd:JZ G r f) (hg:Gl X x) (hm:X.mg x=none) (hv:dy x=some (.builtin bid)) (ha:mY X G E e ml) (hn:x ≠ "__name__" := by decide) (Ed:(x==He)=false:=by decide)
  (he:aw [e] X.env=[(false,eval e X.env)]:=by rfl):aI X G E (.Call (.Name x p) [e] [] pos) (mL f ml):=λhK=>
 Gg (qV hc hg hm hv (hY (ha hK) jG he) hn Ed he rfl) λ_ _ _ t=>WT hd t
theorem WU:dy "all" = some (.builtin "all"):=by decide +kernel
theorem WV:dy "any" = some (.builtin "any"):=by decide +kernel
def iL (xs:Bh) (h:Hs):Rs Dv:=match bP oJ xs with
 |some bs=>.ok (.bl (bs.all id)) h
 |none=>.bad
def tT (xs:Bh) (h:Hs):Rs Dv:=match bP oJ xs with
 |some bs=>.ok (.bl (bs.any id)) h
 |none=>.bad
theorem rM (hc:X.calm=true) (hg:Gl X "all") (hm:X.mg "all" = none) (ha:mY X G E e ml) (he:aw [e] X.env=[(false,eval e X.env)]:=by rfl):aI X G E (.Call (.Name "all" p) [e] [] pos) (mL iL ml):=
 J0 (WR hc) (λE μ h H xs a vs Q s ea r o=>by
  unfold iL at o
  cases q:bP oJ xs with
  |none=>rw[q]at o;exact o.elim
  |some bs=>rw[q]at o;exact⟨a,bs,rfl,by rw[ea,CH r q],o.val s rfl⟩) hg hm WU ha (by decide) (by decide) he
theorem WW (hc:X.calm=true) (hg:Gl X "any") (hm:X.mg "any" = none) (ha:mY X G E e ml) (he:aw [e] X.env=[(false,eval e X.env)]:=by rfl):aI X G E (.Call (.Name "any" p) [e] [] pos) (mL tT ml):=
 J0 (WS hc) (λE μ h H xs a vs Q s ea r o=>by
  unfold tT at o
  cases q:bP oJ xs with
  |none=>rw[q]at o;exact o.elim
  |some bs=>rw[q]at o;exact⟨a,bs,rfl,by rw[ea,CH r q],o.val s rfl⟩) hg hm WV ha (by decide) (by decide) he
end
section
variable{o e i:bj}{mo me mi:M Dv}{ml:M Bh }{pos apos cpos:Pos}
theorem WX {H:Hp}{a:ai}{vs:Hf}(e:H a=some (.lst vs)):wH X.K "list" (.ref a) H:=.inl ⟨rfl,vs,Gn e⟩
def oK (o d:Dv) (h:Hs):Rs Dv:=match o with
 | .ref j=>match getL h j with
  |some xs=>if xs.length<1000000 then .ok .non (h.set j (.lst (xs++[d])))else .bad
  |none=>.bad
 |_=>.bad
def iZ (o:Dv) (h:Hs):Bool:=match o with
 | .ref j=>(getL h j).isSome
 |_=>false
def hO (mo me:M Dv):M Dv:=λρ h=>(mo ρ h).bind λx h1=>if iZ x h1=true then(me ρ h1).bind λd h2=>oK x d h2 else .bad
theorem CI {μ:Nat->ai}{h:Hs}{H:Hp}{x:Dv}{v:V}(s:Bw G μ h H) (r:Bo G μ h.length H x v) (e:iZ x h=true):wH X.K "list" v H:=by
 cases x with
 |ref j=>obtain⟨xs,q⟩:=yq.mp (show(getL h j).isSome=true from e);obtain⟨vs,ea,_⟩:=s.ob j _ (cW q);obtain⟨_,rfl⟩:=r;exact WX ea
 |_=>cases e
theorem tU {y:Str}{np:Pos}(ho:aI X G E (.Name y np) mo) (he:aI X G E e me) (hs:aw [e] X.env=[(false,eval e X.env)]:=by rfl) (hl:(apos.endLine==cpos.line)=true:=by rfl):aI X G E (.Call (.Attribute (.Name y np) "append" apos) [e] [] cpos) (hO mo me):=λhK=>
 Gg (BB rf PySem.F.slot_list_append PySem.F.type_list_append UE (ho hK) (hY (he hK) jG hs) rfl (by rw[hs];rfl) hl hs rfl) λσ H Q ⟨μ,ρ,h,rs,s,oo⟩=>eV rs s oo λμ1 x h1 vx H1 x1 Cb s1 r1 o1=>by
  split at o1
  ·rename_i hl;refine⟨CI s1 r1 hl,eV Cb s1 o1 λμ2 d h2 vd H2 x2 Dl s2 r2 o2=>?_⟩
   cases x with
   |ref j=>
    dsimp only[oK]at o2
    cases q:getL h2 j with
    |none=>rw[q]at o2;exact o2.elim
    |some xs=>
     rw[q]at o2;dsimp only at o2
     split at o2
     ·rename_i hz;obtain⟨vs,ea,ra⟩:=s2.ob j _ (cW q);obtain⟨_,rfl⟩:=Gi x2 _ _ r1;obtain⟨x3,s3⟩:=s2.write (cW q) (ra.append (Gf r2 Ge));exact⟨_,vs,vd,rfl,rfl,ea,by rw[ra.length];exact au hz (by decide),o2 μ2 _ _ x3 s3 rfl⟩
     ·exact o2.elim
   |_=>exact o2.elim
  ·exact o1.elim
end
section
variable{e i:bj}{mo me mi:M Dv}{ml:M Bh }{pos apos cpos np:Pos}{y:Str}
def xM (o:Dv) (ys:Bh) (h:Hs):Rs Dv:=match o with
 | .ref j=>match getL h j with
  |some xs=>lim (xs.length+ys.length) (.ok .non (h.set j (.lst (xs++ys))))
  |none=>.bad
 |_=>.bad
def pP (mo:M Dv) (ml:M Bh ):M Dv:=λρ h=>(mo ρ h).bind λx h1=>if iZ x h1=true then(ml ρ h1).bind λys h2=>xM x ys h2 else .bad
theorem WY (ho:aI X G E (.Name y np) mo) (he:mY X G E e ml) (hs:aw [e] X.env=[(false,eval e X.env)]:=by rfl) (hl:(apos.endLine==cpos.line)=true:=by rfl):aI X G E (.Call (.Attribute (.Name y np) "extend" apos) [e] [] cpos) (pP mo ml):=λhK=>
 Gg (BB rf PySem.F.slot_list_extend PySem.F.type_list_extend UH (ho hK) (hY (he hK) jG hs) rfl (by rw[hs];rfl) hl hs rfl) λσ H Q ⟨μ,ρ,h,rs,s,oo⟩=>eV rs s oo λμ1 x h1 vx H1 x1 Cb s1 r1 o1=>by
  split at o1
  ·rename_i hl;refine⟨CI s1 r1 hl,μ1,ρ,h1,Cb,s1,(o1.bind (R1:=RL G)).mono λv H2 ⟨μ2,ys,h2,x2,s2,⟨b,ws,ev,eb,nb,rb⟩,o2⟩=>?_⟩;subst ev
   cases x with
   |ref j=>
    dsimp only[xM]at o2
    cases q:getL h2 j with
    |none=>rw[q]at o2;exact o2.elim
    |some xs=>
     rw[q]at o2;dsimp only at o2;unfold lim at o2
     split at o2
     ·rename_i hz;obtain⟨vs,ea,ra⟩:=s2.ob j _ (cW q);obtain⟨_,rfl⟩:=Gi x2 _ _ r1;obtain⟨x3,s3⟩:=s2.write (cW q) (ra.append rb);exact⟨_,b,vs,ws,rfl,rfl,ea,eb,by rw[ra.length,rb.length];exact tM hz,o2 μ2 _ _ x3 s3 rfl⟩
     ·exact o2.elim
   |_=>exact o2.elim
  ·exact o1.elim
def jA (o i d:Dv) (h:Hs):Option Hs:=match o,i with
 | .ref j,.int k=>match getL h j with
  |some xs=>match eI xs.length k with
   |some n=>some (h.set j (.lst (xs.set n d)))
   |none=>none
  |none=>none
 |_,_=>none
def tV (mo mi me:M Dv):MS:=λρ h=>(me ρ h).thenS λd h1=>(mo ρ h1).thenS λo h2=>(mi ρ h2).thenS λi h3=>match jA o i d h3 with
 |some h4=>.nx ρ h4
 |none=>.bad
theorem J1 {o:bj}{spos:Pos}(ho:aI X G E o mo) (hi:aI X G E i mi) (he:aI X G E e me)
  (ha:∀v,assign (.Subscript o i spos) X.env v=(do
   let ov <-holding [v] (eval o X.env)
   let iv <-holding [v,ov] (eval i X.env)
   standAt spos
   holding [v,ov,iv] (setItem ov iv v)
   release [v,ov,iv] []):=by intro _;rfl)
  (hs:swapsWithSole [.Subscript o i spos] e pos.line X.env=pure false:=by rfl) (hw:swappedStores [.Subscript o i spos] e X.env=pure none:=by rfl)
  (h1:(assignEach [.Subscript o i spos] X.env).map (·.2)=[assign (.Subscript o i spos) X.env]:=by rfl):hJ X G E (.Assign [.Subscript o i spos] e pos) (tV mo mi me):=λhK=>
 PS.imp (AW (he hK) (AV (ho hK) (hi hK) BA ha) hs hw h1) λD σ H ⟨μ,ρ,h,rs,s,oo⟩=>iW rs s oo λμ1 d h1 v H1 x1 Cb s1 r1 o1=>iW Cb s1 o1 λμ2 ob h2 vo H2 x2 Dl s2 r2 o2=>iW Dl s2 o2 λμ3 ix h3 vi H3 x3 Fi s3 r3 o3=>by
  cases ob with
  |ref j=>
   cases ix with
   |int k=>
    dsimp only[jA]at o3
    cases q:getL h3 j with
    |none=>rw[q]at o3;exact o3.elim
    |some xs=>
     rw[q]at o3;dsimp only at o3
     cases q2:eI xs.length k with
     |none=>rw[q2]at o3;exact o3.elim
     |some n=>rw[q2]at o3;obtain⟨vs,ea,ra⟩:=s3.ob j _ (cW q);obtain⟨_,rfl⟩:=Gi x3 _ _ r2;rw[Bo]at r3;subst r3;obtain⟨x4,s4⟩:=s3.write (cW q) (RelDL.set (Gi (x2.trans x3) _ _ r1) n ra);exact⟨_,vs,k,n,rfl,rfl,ea,by rw[ra.length];exact q2,o3 μ3 _ σ x4 s4 (Fi.mono x4)⟩
   |_=>exact o3.elim
  |_=>cases ix <;> exact o3.elim
end
section
variable{prog:bh}{w:cj}{A:bw}{E:af->ag->Prop}{s:ag}
theorem WZ {it t:ai}{i:Nat}{items:Array af}{x:af}{Q:af->ag->Prop}(hit:s.heap.IsTupleIter it t i) (ht:s.heap.IsTuple t items) (hx:items[i]?=some x)
  (k:∀h',h'.IsTupleIter it t (i+1)->ja it s.heap h'->Q x { s with heap:=h' }):wpAny (model prog w) A (fv (.ref it)) Q E s:=by
 obtain⟨o,ho,hc,hd⟩:=id hit;obtain⟨ol,hol,hcl,nl,hdl⟩:=id ht;refine aa (gm (name:=lj "__next__") hit.typeIs F.slot_tuple_iterator_next (fq F.slot_tuple_iterator_next hit.typeIs F.entry_tuple_iterator_next ?_ (F.args_tuple_iterator_next_1 _)));have q0:∀{Q':af->ag->Prop}{E':af->ag->Prop}{B:bw},Q' (.ref t) s->wpAny (model prog w) B (field (.ref it) 0) Q' E' s:=λq=>ff ho hd (x:=.ref t) rfl q;have q1:∀{Q':af->ag->Prop}{E':af->ag->Prop}{B:bw},Q' (.int i 0) s->wpAny (model prog w) B (field (.ref it) 1) Q' E' s:=λq=>ff ho hd (x:=.int i 0) rfl q;refine aa (ah (aa (q0 ?_)));dsimp only;rw[if_neg (by simp)];refine aa (q1 (aa (jt hol hdl ?_)));rw[show((i:Int)).toNat=i from fj i];dsimp only;rw[hx];refine aa (Ah ho hd (by simp) (ah ⟨x,rfl,ah (k _ ⟨_,ow _ ho (Ao (vv hd _)), ?_, ?_⟩ (oq ..))⟩))
 ·rw[Obj.cls_mapFields];exact hc
 ·rw[vv hd];simp[rawInt]
end
section
variable{prog:bh}{w:cj}{A:bw}{E:af->ag->Prop}{s:ag}
theorem W0 {α:Type}{Q:α->ag->Prop}(hh:A.handled=none) (k:∀h' e,(∀b o,s.heap.get? b=some o->h'.get? b=some o)->(∃o,h'.get? e=some o/\o.cls=.type "StopIteration")->E (.ref e) { s with heap:=h' }):
  wpAny (model prog w) A (sh:Sem α) Q E s:=by
 have e0:firstArgMember (.type "StopIteration") []=pure jx:=by show(pure (if _ then jx else jx):Sem af)=_;rw[ite_self]
 unfold sh newExc newTuple;refine aa (aa (dk (aa (zh e0 (dk (wpAny_raiseNew_none hh (k _ _ (λb o q=>aj _ (aj _ q)) ⟨_,bc _ rfl,rfl⟩)) (by size_fits)))) (by size_fits)))
theorem W2 {it t:ai}{i:Nat}{items:Array af}{Q:af->ag->Prop}(hh:A.handled=none) (hit:s.heap.IsTupleIter it t i) (ht:s.heap.IsTuple t items) (hx:items[i]?=none)
  (k:∀h' e,Ap it s.heap h'->(∃o,h'.get? e=some o/\o.cls=.type "StopIteration")->E (.ref e) { s with heap:=h' }):wpAny (model prog w) A (fv (.ref it)) Q E s:=by
 obtain⟨o,ho,hc,hd⟩:=id hit;obtain⟨ol,hol,hcl,nl,hdl⟩:=id ht;refine aa (gm (name:=lj "__next__") hit.typeIs F.slot_tuple_iterator_next (fq F.slot_tuple_iterator_next hit.typeIs F.entry_tuple_iterator_next ?_ (F.args_tuple_iterator_next_1 _)));have q0:∀{Q':af->ag->Prop}{E':af->ag->Prop}{B:bw},Q' (.ref t) s->wpAny (model prog w) B (field (.ref it) 0) Q' E' s:=λq=>ff ho hd (x:=.ref t) rfl q;have q1:∀{Q':af->ag->Prop}{E':af->ag->Prop}{B:bw},Q' (.int i 0) s->wpAny (model prog w) B (field (.ref it) 1) Q' E' s:=λq=>ff ho hd (x:=.int i 0) rfl q;refine aa (ah (aa (q0 ?_)));dsimp only;rw[if_neg (by simp)];refine aa (q1 (aa (jt hol hdl ?_)));rw[show((i:Int)).toNat=i from fj i];dsimp only;rw[hx];refine aa (si (aa (Ah ho hd (by simp) (W0 (show A.in1.handled=none from hh) λh' e kp st=>k h' e (λb u hb q=>kp b u ?_) st))));rw[oj _ _ (de hb)];exact q
end
structure Draws (prog:bh) (w:cj) (it src:ai) (xs:List af) (st:Nat->cy->Prop):Prop where
 keep:∀i h h',st i h->(∀b o,b=it∨b=src->h.get? b=some o->h'.get? b=some o)->st i h'
 there:∀i h,st i h->∃o vs,h.get? it=some o/\o.data=.fields vs
 item:∀(A:bw) (i:Nat) (x:af) (s:ag) (Q:af->ag->Prop) (E:af->ag->Prop),xs[i]?=some x->st i s.heap->
  (∀h',st (i+1) h'->ja it s.heap h'->Q x { s with heap:=h' })->wpAny (model prog w) A (fv (.ref it)) Q E s
 done:∀(A:bw) (i:Nat) (s:ag) (Q:af->ag->Prop) (E:af->ag->Prop),A.handled=none->xs[i]?=none->st i s.heap->
  (∀h' e,Ap it s.heap h'->(∃o,h'.get? e=some o/\o.cls=.type "StopIteration")->E (.ref e) { s with heap:=h' })->wpAny (model prog w) A (fv (.ref it)) Q E s
structure Four (z TI TO i j u v:ai):Prop where
 a:z≠TO
 b:z≠i
 c:z≠j
 d:TO≠i
 e:TO≠j
 f:i≠j
 g:TI≠z
 h:TI≠TO
 k:TI≠i
 l:TI≠j
 u1:u≠z
 u2:u≠TO
 u3:u≠i
 u4:u≠j
 v1:v≠z
 v2:v≠TO
 v3:v≠i
 v4:v≠j
theorem iD {b x y c:ai}(h:b=x∨b=y) (p:x≠c) (q:y≠c):b≠c:=by
 rcases h with h|h
 ·rw[h];exact p
 ·rw[h];exact q
def xN (z TO i j:ai) (h h':cy):Prop:=∀b o,b≠z->b≠TO->b≠i->b≠j->h.get? b=some o->h'.get? b=some o
section
variable{prog:bh}{w:cj}{A:bw}{E:af->ag->Prop}{s:ag}{z TI TO i j u v:ai}{xs ys:List af}{st su:Nat->cy->Prop}
theorem W3 {n:Nat}{x y a b:af}{Q:af->ag->Prop}(F4:Four z TI TO i j u v) (P:Draws prog w i u xs st) (R:Draws prog w j v ys su) (hz:yk s.heap z TI TO .none) (hTI:my s.heap TI (.ref i) (.ref j)) (hTO:my s.heap TO a b)
  (p:st n s.heap) (r:su n s.heap) (hx:xs[n]?=some x) (hy:ys[n]?=some y)
  (k:∀h' T,s.heap.objs.size<=T->yk h' z TI TO (rawInt T)->my h' TI (.ref i) (.ref j)->my h' TO x y->st (n+1) h'->su (n+1) h'->my h' T x y->xN z TO i j s.heap h'->Q (.ref T) { s with heap:=h' }):
  wpAny (model prog w) A (md.«zip.__next__» ⟨[.ref z],[]⟩) (λfin s'=>∃v,fin=.done (.ret v)/\Q v s') E s:=by
 refine aa (ah (aa (ff hz rfl (x:=.bool false) rfl (aa (ff hz rfl (x:=.ref TI) rfl (aa (jt hTI rfl ?_)))))));have fr:∀{Q':Bool->ag->Prop}{E':af->ag->Prop},Q' true s->wpAny (model prog w) A (qt (.ref z)) Q' E' s:=λq=>aa (ff hz rfl (x:=.none) rfl (ah q));refine aa (fr ?_);rw[if_pos rfl];refine aa (si (aa (ff hz rfl (x:=.ref TO) rfl (aa (jn hz (by simp) λg1 z1 b1=>?_)))));have z1':yk g1 z TI TO .ellipsis:=z1;refine aa ?_;show wpAny _ _ (forIn [(ik i,0),(ik j,1)] _ _) _ _ _;rw[pz];refine aa (aa (ui ?_));show wpAny _ _ (fv (.ref i) >>= _) _ _ _;refine aa (P.item A n x _ _ _ hx (P.keep n _ _ p λb o hb q=>b1.extBut _ _ (iD hb (de F4.b) F4.u1) q) λg2 p2 b2=>ah ?_);have t2:my g2 TO a b:=b2.extBut _ _ F4.d (b1.extBut _ _ (de F4.a) hTO);refine aa (jt t2 rfl (aa (vz t2 λg3 t3 b3=>aa (wpAny_letGo (ah ?_)))));have t3':my g3 TO x b:=t3;dsimp only;rw[pz];refine aa (aa (ui ?_));show wpAny _ _ (fv (.ref j) >>= _) _ _ _;have r3:su n g3:=R.keep n _ _ r λb o hb q=>b3.extBut _ _ (iD hb (de F4.e) F4.v2) (b2.extBut _ _ (iD hb (de F4.f) F4.v3) (b1.extBut _ _ (iD hb (de F4.c) F4.v1) q));refine aa (R.item A n y _ _ _ hy r3 λg4 r4 b4=>ah ?_);have t4:my g4 TO x b:=b4.extBut _ _ F4.e t3';refine aa (jt t4 rfl (aa (vz t4 λg5 t5 b5=>aa (wpAny_letGo (ah ?_)))));have t5':my g5 TO x y:=t5;dsimp only;rw[List.forIn_nil];refine ah ?_;refine aa (jt t5' rfl (aa (wpAny_newTuple ?_)));have z5:yk g5 z TI TO .ellipsis:=b5.extBut _ _ F4.a (b4.extBut _ _ F4.c (b3.extBut _ _ F4.a (b2.extBut _ _ F4.b z1')));have sz:g5.objs.size=s.heap.objs.size:=by rw[b5.1,b4.1,b3.1,b2.1,b1.1]
 have all5:xN z TO i j s.heap g5:=λc o c1 c2 c3 c4 q=>b5.extBut _ _ c2 (b4.extBut _ _ c4 (b3.extBut _ _ c2 (b2.extBut _ _ c3 (b1.extBut _ _ c1 q))));have p5:st (n+1) g5:=P.keep _ _ _ p2 λb o hb q=>b5.extBut _ _ (iD hb (de F4.d) F4.u2) (b4.extBut _ _ (iD hb F4.f F4.u4) (b3.extBut _ _ (iD hb (de F4.d) F4.u2) q));have r5:su (n+1) g5:=R.keep _ _ _ r4 λb o hb q=>b5.extBut _ _ (iD hb (de F4.e) F4.v2) q;generalize hob:({ cls:=.type "tuple",dict:=none,data:=.seq [x,y].toArray }:Obj)=ob;have zp:yk (g5.push ob) z TI TO .ellipsis:=aj _ z5;refine aa (aa (jn zp (by simp) λg7 z7 b7=>?_));have z7':yk g7 z TI TO (rawInt g5.objs.size):=z7;refine jn z7' (by simp) λg8 z8 b8=>ah ⟨_,rfl, ?_⟩;have up:∀c o,c≠z->g5.get? c=some o->g8.get? c=some o:=λc o c1 q=>b8.extBut _ _ c1 (b7.extBut _ _ c1 (aj _ q));have lz:z<g5.objs.size:=aq z5;have T8:my g8 g5.objs.size x y:=b8.extBut _ _ (ji lz) (b7.extBut _ _ (ji lz) (by rw[<-hob];exact bc _ rfl));refine k g8 g5.objs.size (qi sz.symm) z8 (up _ _ F4.g (all5 _ _ F4.g F4.h F4.k F4.l hTI)) (up _ _ (de F4.a) t5') (P.keep _ _ _ p5 λb o hb q=>up _ _ (iD hb (de F4.b) F4.u1) q) (R.keep _ _ _ r5 λb o hb q=>up _ _ (iD hb (de F4.c) F4.v1) q) T8 λc o c1 c2 c3 c4 q=>up _ _ c1 (all5 c o c1 c2 c3 c4 q)
end
section
variable{prog:bh}{w:cj}{A:bw}{E:af->ag->Prop}{s:ag}{z TI TO i j u v:ai}{xs ys:List af}{st su:Nat->cy->Prop}
theorem W4 {n:Nat}{a b:af}{Q:PySem.Fin->ag->Prop}(hh:A.handled=none) (F4:Four z TI TO i j u v) (P:Draws prog w i u xs st) (R:Draws prog w j v ys su) (hz:yk s.heap z TI TO .none) (hTI:my s.heap TI (.ref i) (.ref j)) (hTO:my s.heap TO a b)
  (p:st n s.heap) (r:su n s.heap) (hend:xs[n]?=none∨ys[n]?=none)
  (k:∀h' e,xN z TO i j s.heap h'->(∃o,h'.get? e=some o/\o.cls=.type "StopIteration")->E (.ref e) { s with heap:=h' }):
  wpAny (model prog w) A (md.«zip.__next__» ⟨[.ref z],[]⟩) Q E s:=by
 refine aa (ah (aa (ff hz rfl (x:=.bool false) rfl (aa (ff hz rfl (x:=.ref TI) rfl (aa (jt hTI rfl ?_)))))));have fr:∀{Q':Bool->ag->Prop}{E':af->ag->Prop},Q' true s->wpAny (model prog w) A (qt (.ref z)) Q' E' s:=λq=>aa (ff hz rfl (x:=.none) rfl (ah q));refine aa (fr ?_);rw[if_pos rfl];refine aa (si (aa (ff hz rfl (x:=.ref TO) rfl (aa (jn hz (by simp) λg1 z1 b1=>?_)))));have z1':yk g1 z TI TO .ellipsis:=z1;have p1:st n g1:=P.keep n _ _ p λb o hb q=>b1.extBut _ _ (iD hb (de F4.b) F4.u1) q;have fin:∀(g:cy) (e:ai),yk g z TI TO .ellipsis->xN z TO i j s.heap g->(∃o,g.get? e=some o/\o.cls=.type "StopIteration")->
   wpAny (model prog w) A (setField (.ref z) 0 .none) (λ_ s'=>E (.ref e) s') E { s with heap:=g }:=λg e zz bt ⟨o,he,hc⟩=>
  jn zz (by simp) λg' _ b'=>k g' e (λc u c1 c2 c3 c4 q=>b'.extBut _ _ c1 (bt c u c1 c2 c3 c4 q)) ⟨o,b'.extBut _ _ (λq=>by subst q;rw[zz]at he;cases he;simp at hc) he,hc⟩
 refine aa ?_;show wpAny _ _ (forIn [(ik i,0),(ik j,1)] _ _) _ _ _;rw[pz];refine aa (aa (ui ?_));show wpAny _ _ (fv (.ref i) >>= _) _ _ _
 cases hx:xs[n]? with
 |none=>exact aa (P.done A n _ _ _ hh hx p1 λg2 e b2 he=>fin g2 e (b2 _ _ F4.b z1') (λc u c1 _ c3 _ q=>b2 _ _ c3 (b1.extBut _ _ c1 q)) he)
 |some x=>
  have hy:ys[n]?=none:=by
   rcases hend with q|q
   ·rw[hx]at q;cases q
   ·exact q
  refine aa (P.item A n x _ _ _ hx p1 λg2 p2 b2=>ah ?_);have t2:my g2 TO a b:=b2.extBut _ _ F4.d (b1.extBut _ _ (de F4.a) hTO);refine aa (jt t2 rfl (aa (vz t2 λg3 t3 b3=>aa (wpAny_letGo (ah ?_)))));dsimp only;rw[pz];refine aa (aa (ui ?_));show wpAny _ _ (fv (.ref j) >>= _) _ _ _;have r3:su n g3:=R.keep n _ _ r λb o hb q=>b3.extBut _ _ (iD hb (de F4.e) F4.v2) (b2.extBut _ _ (iD hb (de F4.f) F4.v3) (b1.extBut _ _ (iD hb (de F4.c) F4.v1) q));exact aa (R.done A n _ _ _ hh hy r3 λg4 e b4 he=>fin g4 e (b4 _ _ F4.c (b3.extBut _ _ F4.a (b2.extBut _ _ F4.b z1'))) (λc u c1 c2 c3 c4 q=>b4 _ _ c4 (b3.extBut _ _ c2 (b2.extBut _ _ c3 (b1.extBut _ _ c1 q)))) he)
theorem xO {it t:ai}{items:Array af}(hne:t≠it):Draws prog w it t items.toList (λi h=>h.IsTupleIter it t i/\h.IsTuple t items) where
 keep:=λi h h' ⟨⟨o,e,r⟩,⟨o2,e2,r2⟩⟩ k=>⟨⟨o,k _ _ (.inl rfl) e,r⟩,⟨o2,k _ _ (.inr rfl) e2,r2⟩⟩
 there:=λi h ⟨⟨o,e,_,d⟩,_⟩=>⟨o,_,e,d⟩
 item:=λA i x s Q E hx ⟨a,b⟩ k=>WZ a b (by simpa using hx) λh' a' sb=>k h' ⟨a',b.extBut sb.extBut hne⟩ sb
 done:=λA i s Q E hh hx ⟨a,b⟩ k=>W2 hh a b (by simpa using hx) k
end
def xP (K:ao) (t u:ai):It:=
 ⟨λi H=>∃vs ws v w,Ca K H t vs/\Ca K H u ws/\vs[i]?=some v/\ws[i]?=some w,
  λi H x H'=>∃p v w,x=.ref p/\H p=none/\H'=upd H p (.tup [v,w])/\(∀vs,Ca K H t vs->vs[i]?=some v)/\∀ws,Ca K H u ws->ws[i]?=some w,
  λi H=>∃vs ws,Ca K H t vs/\Ca K H u ws/\(vs.length<=i∨ws.length<=i)⟩
structure ZipAt (z TI TO i j t u:ai) (n:Nat) (h:cy):Prop where
 zp:yk h z TI TO .none
 ti:my h TI (.ref i) (.ref j)
 to:∃a b,my h TO a b
 i1:h.IsTupleIter i t n
 i2:h.IsTupleIter j u n
section
variable{X:Cx}{pins:List (ai×Obj)}{σ:St}{H:Hp}{s:ag}
theorem Inv.turns {h':cy}{ch:List ai}{T:ai}{vs:Hf}{its:List af}(I:Inv X pins σ H s) (Et:∀b∈ch,cZ X pins H b) (k:∀b o,b∉ch->s.heap.get? b=some o->h'.get? b=some o) (there:∀b∈ch,∃o,h'.get? b=some o)
  (hT:s.heap.objs.size<=T) (hv:Bp vs its) (hl:vs.length<=cb) (tp:Cj h' T its.toArray):Inv X pins σ (upd H T (.tup vs)) { s with heap:=h' }:=by
 have nT:H T=none:=I.hok.fresh hT;have nch:∀b o,H b=some o->b∉ch:=λb o q z=>by rw[(Et b z).1]at q;cases q
 have un:Un (dN X.stack) ch H (upd H T (.tup vs)) s.heap h':=
  ⟨λb o q _ _ hb=>k b o hb q,λb o q _ _ hb=>⟨o.slots,k b o hb q⟩,λb o q n _=>by rw[bU (ay (au (aq q) hT))];exact n,
   λb o q hb=>⟨o,k b o hb q⟩,λb xs q=>cK nT b _ q,λb o u q=>cK nT b _ q,λb ps q=>⟨#[],by rw[cK nT b _ q];simp⟩⟩
 have ok:Cw X.prog X.w (upd H T (.tup vs)) h':=λb o q=>by
  by_cases hb:b=T
  ·subst hb;rw[cR]at q;cases q;exact⟨hl,its,hv,tp⟩
  ·rw[bU hb]at q;refine(I.hok b o q).stay (λc v hc z=>k c v ?_ z) (λc z=>cK nT c _ z) λc xs z=>cK nT c _ z
   rcases hc with rfl|hc
   ·exact nch c o q
   ·exact nch c _ hc
 exact I.call (g':=s.gens) (d':=s.drawn) (t':=s.toks) un ok I.bare λb hb=>let ⟨_,f1,_,f3,f4,f5⟩:=Et b hb;⟨f3,f1,f4,f5⟩
theorem Inv.turns0 {h':cy}{ch:List ai}(I:Inv X pins σ H s) (Et:∀b∈ch,cZ X pins H b) (k:∀b o,b∉ch->s.heap.get? b=some o->h'.get? b=some o):Inv X pins σ H { s with heap:=h' }:=by
 have nch:∀b o,H b=some o->b∉ch:=λb o q z=>by rw[(Et b z).1]at q;cases q
 refine I.call (g':=s.gens) (d':=s.drawn) (t':=s.toks) (ch:=ch) ⟨λb o q _ _ hb=>k b o hb q,λb o q _ _ hb=>⟨o.slots,k b o hb q⟩,λ_ _ _ n _=>n,λb o q hb=>⟨o,k b o hb q⟩,λ_ _ q=>q,λ_ _ _ q=>q,λb ps q=>⟨#[],by rw[q];simp⟩⟩ (λb o q=>?_) I.bare λb hb=>let ⟨_,f1,_,f3,f4,f5⟩:=Et b hb;⟨f3,f1,f4,f5⟩;refine(I.hok b o q).stay (λc v hc z=>k c v ?_ z) (λ_ z=>z) λ_ _ z=>z
 rcases hc with rfl|hc
 ·exact nch c o q
 ·exact nch c _ hc
end
theorem J2 {P:bh}{w:cj}{K:ao}{elts:List bj}{kk:Nat}{tp:Pos}{z TI TO i j t u:ai}(F4:Four z TI TO i j t u) (hti:t≠i) (huj:u≠j):
  Turn P w K (.Tuple elts kk tp) (xP K t u) [z,TI,TO,i,j] z (ZipAt z TI TO i j t u) where
 mem:=by simp
 obj:=λn h st b hb=>by
  obtain⟨zp,ti,⟨a,b',to⟩,⟨o1,e1,_,d1⟩,⟨o2,e2,_,d2⟩⟩:=st;simp at hb
  rcases hb with rfl|rfl|rfl|rfl|rfl
  ·exact⟨_,zp,λv q=>by cases q⟩
  ·exact⟨_,ti,λv q=>by cases q⟩
  ·exact⟨_,to,λv q=>by cases q⟩
  ·exact⟨_,e1,λv q=>by rw[d1]at q;cases q⟩
  ·exact⟨_,e2,λv q=>by rw[d2]at q;cases q⟩
 keep:=λn h h' st k=>by obtain⟨zp,ti,⟨a,b',to⟩,⟨o1,e1,r1⟩,⟨o2,e2,r2⟩⟩:=st;exact⟨k _ (by simp) _ zp,k _ (by simp) _ ti,⟨a,b',k _ (by simp) _ to⟩,⟨o1,k _ (by simp) _ e1,r1⟩,⟨o2,k _ (by simp) _ e2,r2⟩⟩
 item:=by
  intro X hP hw hK hc n pins s σ H E I hf st hg;subst hP hw hK;obtain⟨vs,ws,v,w',hq,hr,hv,hw'⟩:=hg;obtain⟨its,rv,p1,z1⟩:=I.tuple hq;obtain⟨jts,rw',p2,z2⟩:=I.tuple hr;obtain⟨x,hx,rx⟩:=rv.get hv;obtain⟨y,hy,ry⟩:=rw'.get hw';obtain⟨zp,ti,⟨a,b,to⟩,i1,i2⟩:=st;have hT:s.TypeIs (.ref z) "zip" := ⟨_,zp,rfl⟩;unfold pyNext;refine aa (xi (gm (name:=lj "__next__") hT F.slot_zip_next (fq F.slot_zip_next hT F.entry_zip_next
   (W3 F4 (xO (items:=its.toArray) hti) (xO (items:=jts.toArray) huj) zp ti to ⟨i1,p1⟩ ⟨i2,p2⟩ (by simpa using hx) (by simpa using hy) λh' T Eo a1 a2 a3 a4 a5 a6 bt=>ah ⟨_,rfl, ?_⟩) (F.args_zip_next_1 _))))
  refine Aq a1 λh2 z2' sb=>?_;have kp:∀b o,b∉[z,TI,TO,i,j]->s.heap.get? b=some o->h2.get? b=some o:=λb o hb q=>by simp at hb;obtain⟨n1,n2,n3,n4,n5⟩:=hb;exact sb.extBut _ _ n1 (bt b o n1 n3 n4 n5 q)
  have Tz:T≠z:=ji (au (aq zp) Eo);have T2:my h2 T x y:=sb.extBut _ _ Tz a6;have th:∀b∈[z,TI,TO,i,j],∃o,h2.get? b=some o:=λb hb=>by
   obtain⟨⟨o1,e1,_⟩,_⟩:=a4;obtain⟨⟨o2,e2,_⟩,_⟩:=a5;simp at hb
   rcases hb with rfl|rfl|rfl|rfl|rfl
   ·exact⟨_,z2'⟩
   ·exact⟨_,sb.extBut _ _ F4.g a2⟩
   ·exact⟨_,sb.extBut _ _ (de F4.a) a3⟩
   ·exact⟨_,sb.extBut _ _ (de F4.b) e1⟩
   ·exact⟨_,sb.extBut _ _ (de F4.c) e2⟩
  have I2:=Inv.turns (T:=T) (vs:=[v,w']) (its:=[x,y]) I hf kp th Eo (.cons rx (.cons ry .nil)) (by show 2<=cb;decide) ⟨_,T2,rfl,rfl,_,rfl⟩;have nT:H T=none:=I.hok.fresh Eo;refine⟨.ref T,_,I2,rfl,⟨T,v,w',rfl,nT,rfl,λCs h'=>by rw[I.tuple_inj h' hq];exact hv,λws' h'=>by rw[I.tuple_inj h' hr];exact hw'⟩, ?_,λb hb=>?_⟩
  ·exact⟨z2',sb.extBut _ _ F4.g a2,⟨_,_,sb.extBut _ _ (de F4.a) a3⟩,a4.1.extBut sb.extBut (de F4.b),a5.1.extBut sb.extBut (de F4.c)⟩
  ·obtain⟨o,q,_⟩:∃o,s.heap.get? b=some o/\True:=by
    obtain⟨o1,e1,_⟩:=i1;obtain⟨o2,e2,_⟩:=i2;simp at hb
    rcases hb with rfl|rfl|rfl|rfl|rfl
    ·exact⟨_,zp,trivial⟩
    ·exact⟨_,ti,trivial⟩
    ·exact⟨_,to,trivial⟩
    ·exact⟨_,e1,trivial⟩
    ·exact⟨_,e2,trivial⟩
   rw[bU (ay (au (aq q) Eo))];exact(hf b hb).1
 done:=by
  intro X hP hw hK hc n pins s σ H E I hf st hg;subst hP hw hK;obtain⟨vs,ws,hq,hr,hend⟩:=hg;obtain⟨its,rv,p1,z1⟩:=I.tuple hq;obtain⟨jts,rw',p2,z2⟩:=I.tuple hr;have l1:=rv.length;have l2:=rw'.length;obtain⟨zp,ti,⟨a,b,to⟩,i1,i2⟩:=st;have hT:s.TypeIs (.ref z) "zip" := ⟨_,zp,rfl⟩;unfold pyNext;refine aa (xi (gm (name:=lj "__next__") hT F.slot_zip_next (fq F.slot_zip_next hT F.entry_zip_next
   (W4 (show X.A.in1.handled=none from I.ok.hd hc) F4 (xO (items:=its.toArray) hti) (xO (items:=jts.toArray) huj) zp ti to ⟨i1,p1⟩ ⟨i2,p2⟩ (by
    rcases hend with q|q
    ·exact .inl (by simp;omega)
    ·exact .inr (by simp;omega)) λh' e bt ⟨o,he,hcl⟩=>aa (zc (T := "StopIteration") (b:=true) ⟨o,he,hcl⟩ isSubtype_stop (ah ⟨rfl, ?_⟩))) (F.args_zip_next_1 _))))
  refine Inv.turns0 I hf λb o hb q=>?_;simp at hb;exact bt b o hb.1 hb.2.2.1 hb.2.2.2.1 hb.2.2.2.2 q
 self:=λ_ _ _ _ _ st h=>qe st.zp h
def J3 (t u:ai) (h:cy) (z:ai) (h':cy):Prop:=∃TI TO i j,ZipAt z TI TO i j t u 0 h'/\Four z TI TO i j t u/\(∀b∈[z,TI,TO,i,j],h.objs.size<=b)/\∀b o,h.get? b=some o->h'.get? b=some o
theorem tW {h h':cy}{o:Obj}(e:h'=h.push o) (nf:o.isFreed=false):h'.get? h.objs.size=some o:=by rw[e];exact bc _ nf
theorem W5 (n t u:Nat) (lt:t<n) (lu:u<n):Four (n+4) (n+2) (n+3) n (n+1) t u:=by
 have ne:∀{a b:Nat},(a<b∨b<a)->a≠b:=λh=>by omega
 exact⟨ne (by omega),ne (by omega),ne (by omega),ne (by omega),ne (by omega),ne (by omega),ne (by omega),ne (by omega),ne (by omega),ne (by omega),ne (by omega),ne (by omega),ne (by omega),ne (by omega),ne (by omega),ne (by omega),ne (by omega),ne (by omega)⟩
theorem W6 {t u:ai}{hp h1 h2 h3 h4 h5:cy}{n:Nat}(hn:n=hp.objs.size) (lt:t<n) (lu:u<n)
  (e1:h1=hp.push { cls:=.type "tuple_iterator",data:=.fields #[.ref t,.int 0 0] }) (e2:h2=h1.push { cls:=.type "tuple_iterator",data:=.fields #[.ref u,.int 0 0] }) (e3:h3=h2.push { cls:=.type "tuple",data:=.seq #[.ref n,.ref (n+1)] })
  (e4:h4=h3.push { cls:=.type "tuple",data:=.seq #[.none,.none] }) (e5:h5=h4.push { cls:=.type "zip",data:=.fields #[.none,.bool false,.bool false,.ref (n+2),.ref (n+3)] }):J3 t u hp (n+4) h5:=by
 have z1:h1.objs.size=n+1:=by rw[e1,gh,hn]
 have z2:h2.objs.size=n+2:=by rw[e2,gh,z1]
 have z3:h3.objs.size=n+3:=by rw[e3,gh,z2]
 have z4:h4.objs.size=n+4:=by rw[e4,gh,z3]
 have up:∀(h:cy) (o:Obj) (b:ai) (q:Obj),h.get? b=some q->(h.push o).get? b=some q:=λh o b q e=>aj _ e;have g1:=tW e1 rfl;have g2:=tW e2 rfl;have g3:=tW e3 rfl;have g4:=tW e4 rfl;have g5:=tW e5 rfl;rw[<-hn]at g1;rw[z1]at g2;rw[z2]at g3;rw[z3]at g4;rw[z4]at g5;have u2:∀b q,h2.get? b=some q->h5.get? b=some q:=λb q e=>by rw[e5,e4,e3];exact up _ _ _ _ (up _ _ _ _ (up _ _ _ _ e))
 have u1:∀b q,h1.get? b=some q->h5.get? b=some q:=λb q e=>u2 b q (by rw[e2];exact up _ _ _ _ e);have u3:∀b q,h3.get? b=some q->h5.get? b=some q:=λb q e=>by rw[e5,e4];exact up _ _ _ _ (up _ _ _ _ e)
 have u4:∀b q,h4.get? b=some q->h5.get? b=some q:=λb q e=>by rw[e5];exact up _ _ _ _ e
 refine⟨n+2,n+3,n,n+1,⟨g5,u3 _ _ g3,⟨_,_,u4 _ _ g4⟩,⟨_,u1 _ _ g1,rfl,rfl⟩,⟨_,u2 _ _ g2,rfl,rfl⟩⟩, ?_, ?_,λb q e=>u1 b q (by rw[e1];exact up _ _ _ _ e)⟩
 ·exact W5 n t u lt lu
 ·intro b hb;rw[<-hn];simp at hb
  rcases hb with rfl|rfl|rfl|rfl|rfl
  ·exact pf _ _
  ·exact pf _ _
  ·exact pf _ _
  ·exact ak _
  ·exact pf _ _
theorem J4 {t u:ai}(xs ys:Array af):Meets (md.«zip.__new__» ⟨[.type "zip",.ref t,.ref u],[]⟩) (λ_ R s=>s.heap.IsTuple t xs/\s.heap.IsTuple u ys/\∀h' z,J3 t u s.heap z h'->R (.ok (.ret (.ref z))) { s with heap:=h' }):=
 .of_wp λprog w A R s h=>by
  obtain⟨ht,hu,k⟩:=h;obtain⟨hp,g,d,tk,os⟩:=s;have sub:=sub_zip;have ht':(⟨hp,g,d,tk,os⟩:ag).heap.IsTuple t xs:=ht;have Cc:(⟨hp.push { cls:=.type "tuple_iterator",data:=.fields #[.ref t,.int 0 0] },g,d,tk,os⟩:ag).heap.IsTuple u ys:=hu.push _
  wp_walk using om ht',om Cc
  have lt:t<hp.objs.size:=by obtain⟨o,e,_⟩:=ht;exact aq e
  have lu:u<hp.objs.size:=by obtain⟨o,e,_⟩:=hu;exact aq e
  simp only[gh];refine⟨_,rfl,k _ _ (W6 rfl lt lu rfl rfl rfl rfl ?_)⟩;simp only[gh];rfl
section
variable{a b:bj}{elts:List bj}{kk:Nat}{tp p pos:Pos}{ta:TA}{ms:M Bh }
def W7 (K:ao) (ta:TA):TI:=λσ H R=>ta σ H λvs H1=>∃t u xs ys,vs=[.ref t,.ref u]/\Ca K H1 t xs/\Ca K H1 u ys/\R (xP K t u) H1
theorem J5:dy "zip" = some (.type "zip"):=by decide +kernel
theorem W8 (hg:Gl X "zip") (hm:X.mg "zip" = none) (ha:PA X [a,b] ta) (hs:aw [a,b] X.env=[(false,eval a X.env),(false,eval b X.env)]:=by rfl) (hs2:aw [b] X.env=[(false,eval b X.env)]:=by rfl):
  PI X (.Tuple elts kk tp) (.Call (.Name "zip" p) [a,b] [] pos) (W7 X.K ta):=by
 intro pins s σ H R I h;refine Call_ (pE I hg hm J5 (jm (aW (ha pos pins s σ H _ I h) λus s1 ⟨vs,H1,I1,r1,q1⟩=>?_) (by rw[hs,hs2]) (by rw[hs2];rfl)));obtain⟨t,u,xs,ys,e,hq,hr,q⟩:=q1;subst e;obtain⟨u1,u2,rfl,e1,e2⟩:=qU r1;cases e1;cases e2;obtain⟨its,rv,p1,_⟩:=I1.tuple hq;obtain⟨jts,rw',p2,_⟩:=I1.tuple hr;refine callType_new F.called_zip (by decide) (F.typeCall_zip_2 _ _) (F.newCall_zip_2 _ _) (λobj=>F.args_object_init_3 obj _ _) F.entry_zip_new (J4 its.toArray jts.toArray) ⟨p1,p2,λh' z nz=>?_⟩;obtain⟨TI,TO,i,j,za,f4,fresh,kp⟩:=nz;refine⟨⟨_,za.zp,rfl⟩, ?_⟩;have I2:Inv X pins σ H1 { s1 with heap:=h' }:=I1.kept (t':=s1.toks) kp;refine qe za.zp ⟨z,[z,TI,TO,i,j],_,_,H1,rfl,I2,J2 f4 f4.u3 f4.v4,za,λb hb=>I1.fpOk (fresh b hb) (I1.hok.fresh (fresh b hb)),q⟩
def lL (xs ys:Bh):Src:=cV ((xs.zip ys).map λq=>.tup [q.1,q.2])
def rN:Bh->Hs->Rs Src
 | [.tup xs,.tup ys],h=>.ok (lL xs ys) h
 |_,_=>.bad
theorem Cv.zip {μ:Nat->ai}{n:Nat}{H:Hp}{t u:ai}{vs ws:Hf}{xs ys:Bh}{K:ao}(e:H t=some (.tup vs)) (e':H u=some (.tup ws)) (r:RelDL G μ n H xs vs) (r':RelDL G μ n H ys ws):Cv G μ n H (lL xs ys) (xP K t u):=by
 intro k μ2 h2 H2 x2 s2;have f:=x2.im t (.tup vs) trivial e;have f':=x2.im u (.tup ws) trivial e';have g:=Ga x2 _ _ r;have g':=Ga x2 _ _ r';have hl:(lL xs ys).n=min xs.length ys.length:=by simp[lL,cV]
 constructor
 ·intro hk d hd;have Dj:((xs.zip ys).map λq=>Gy [q.1,q.2])[k]?=some d:=hd;rw[dj]at Dj
  cases q:(xs.zip ys)[k]? with
  |none=>rw[q]at Dj;cases Dj
  |some xy=>
   rw[q]at Dj;cases Dj;obtain⟨qx,qy⟩:=nj.mp q;obtain⟨v,ev,rv⟩:=g.get qx;obtain⟨w',ew,rw'⟩:=g'.get qy;refine⟨⟨vs,ws,v,w',Gb f,Gb f',ev,ew⟩,λx H' hy=>?_⟩;obtain⟨pp,v1,w1,rfl,np,rfl,a1,a2⟩:=hy;have b1:=a1 vs (Gb f);have b2:=a2 ws (Gb f');rw[ev]at b1;rw[ew]at b2
   cases b1;cases b2
   have sm:De H2 (upd H2 pp (.tup [v,w'])):=cK np;exact⟨sm,pp,_,rfl,cR,Gf (Gi (F' sm) _ _ rv) (Gf (Gi (F' sm) _ _ rw') Ge)⟩
 ·intro hk _;refine⟨vs,ws,Gb f,Gb f', ?_⟩;rw[g.length,g'.length,hk,hl];omega
theorem W9 (hg:Gl X "zip") (hm:X.mg "zip" = none) (ha:dX X G E [a,b] ms) (hs:aw [a,b] X.env=[(false,eval a X.env),(false,eval b X.env)]:=by rfl) (hs2:aw [b] X.env=[(false,eval b X.env)]:=by rfl):
  iK X G E (.Tuple elts kk tp) (.Call (.Name "zip" p) [a,b] [] pos) (aR rN ms):=λhK=>
 PI.imp (W8 hg hm (ha hK) hs hs2) λσ H R ⟨μ,ρ,h,rs,s,o⟩=>jV rs s o λμ1 ds h1 vs H1 x1 Cb s1 r1 o1=>by
  unfold rN at o1
  split at o1
  ·rename_i xs ys;obtain⟨v,v',rfl,rv,rv'⟩:=rG r1;obtain⟨t,us,rfl,e,r⟩:=rv;obtain⟨u,ws,rfl,e',r'⟩:=rv';exact⟨t,u,us,ws,rfl,Gb e,Gb e',o1.val s1 (Cv.zip e e' r r')⟩
  ·exact o1.elim
end
section
variable{prog:bh}{w:cj}{A:bw}{E:af->ag->Prop}{s:ag}{K:Frag}{e C N:ai}{o:Obj}
theorem XA {Q:Bool->ag->Prop}(X:K.In s.heap) (he:s.heap.get? e=some o) (hc:o.cls=.ref C) (hn:subIn K (.ref N) (.type "BaseException")=some true) (ht:subIn K (.type "type") (.type "tuple")=some false) (hk:kitCls K (.ref N) (.ref N)=some true) {b:Bool}(hs:subIn K (.ref C) (.ref N)=some b) (q:Q b s):
  wpAny (model prog w) A (excMatches (.ref e) (.ref N)) Q E s:=by
 have L1:=(kit_cls (M:=model prog w) X hk).1;have L2:=(kit_cls (M:=model prog w) X hk).2.1;have L3:=looks_subIn (M:=model prog w) X hn;have L4:=looks_subIn (M:=model prog w) X hs;have L5:=looks_subIn (M:=model prog w) X ht;obtain⟨hp,g,d,tk,os⟩:=s;unfold excMatches
 repeat (any_goals (first|assumption|(with_reducible refine wpAny_loadPart_at he ?_;rw[hc])|with_reducible refine L1.at ?_|with_reducible refine L2.at ?_|with_reducible refine L3.at ?_|with_reducible refine L4.at ?_|with_reducible refine L5.at ?_|wp_step))
 cases b
 all_goals (repeat (any_goals (first|assumption|wp_step)))
end
def jM (P:bh) (w:cj) (K:ao) (mg:Str->Option af) (base:cy) (N:Bf) (qual:Str) (scope:gq) (f:ai) (cd:af) (cl:List (Str×ai)) (A:bw) (outer:List Env) (s:ag) (H:Hp) (E:XK):Cx where
 prog:=P
 w:=w
 K:=K
 mg:=mg
 base:=base
 A:=A.deeper (og qual scope s.heap.objs.size f cd cl)
 N:=N
 s₀:=s
 H₀:=H
 env:=og qual scope s.heap.objs.size f cd cl
 outer:=outer
 stack:=og qual scope s.heap.objs.size f cd cl::outer
 ex:=[]
 calm:=true
 fn:=λ_=>false
 pn:=[]
 xe:=λe s'=>wpAny (model P w) (A.deeper (og qual scope s.heap.objs.size f cd cl)) (leaving (og qual scope s.heap.objs.size f cd cl) e) (λ_ s''=>bN P w base outer H s E e s'') (λe' s''=>bN P w base outer H s E e' s'') s'
structure Cd (N:Bf) (sc:gq):Prop where
 kind:sc.kind=.function
 co:sc.isCoroutine=false
 gen:sc.isGenerator=false
 nocell:∀x∈sc.names,x.2≠.cell
 fr:∀x∈N,sc.names.lookup x=some .free
 all:∀x∈sc.names,x.2=.free->x.1∈N
structure Fg (G:Cfg) (base:cy) (H:Hp) (μ:Nat->ai) (n:Nat) (N:Bf) (params:km) (body:bj) (scope:gq) (f c':ai) (cl:List (Str×ai)) (ds:Bh):Prop where
 ob:∃pm ctv,H f=some (.frz (kv "<lambda>" G.lq params body scope cl pm c' ctv) (.own 0))
 cd:∃oc,H c'=some (.frz oc (.own 0))/\wV G.lq oc
 inj:∀x y c,cl.lookup x=some c->cl.lookup y=some c->x=y
 len:ds.length=N.length
 at_:∀(i:Nat) (x:Str),N[i]?=some x->∃c,cl.lookup x=some c
 cell:∀(x:Str) (c:ai),cl.lookup x=some c->∃o u,base.get? c=some o/\o.data=.cell u
 val:∀(i:Nat) (x:Str) (c:ai) (d:Dv),N[i]?=some x->ds[i]?=some d->cl.lookup x=some c->∃o u v,base.get? c=some o/\o.data=.cell (some u)/\RelV v u/\Bo G μ n H d v
section
variable{P:bh}{w:cj}{K:ao}{mg:Str->Option af}{base:cy}{N:Bf}{qual:Str}{scope:gq}{f:ai}{cdv:af}{cl:List (Str×ai)}{A:bw}{outer:List Env}{s0:ag}{H0:Hp}{E0:XK}{G:Cfg}{E:XK}{k:Nat}
theorem XB (hr:Ce k (A.deeper (og qual scope s0.heap.objs.size f cdv cl))) (hK:K=G.K) (hE:∀u H',E u none H'->E0 u none H') (hF:CB E):
  Good (jM P w K mg base N qual scope f cdv cl A outer s0 H0 E0) G E k where
 calm:=rfl
 room:=hr
 K:=hK
 own:=zv
 pas:=by intro pins σ H s u s' I ⟨e,C,H',eu,os,bare,un,hok,fl,he⟩;subst eu;have I':=I.call' os un hok bare (λb z=>absurd z (by simp));refine aa (CA (P:=P) (w:=w) (H:=H') (base:=base) I'.ok.frames I'.stack rfl hok I'.stkFree fl λh'' H'' un2 Dy Fv sx=>?_);have I2:=I'.call (h':=h'') (g':=s'.gens) (d':=s'.drawn) (t':=s'.toks) un2 Dy I'.bare (λb z=>absurd z (by simp));obtain⟨T,a0,h1,_⟩:=id fl;obtain⟨T2,a2,h3,_⟩:=id Fv;have xe1:dS C e T a0 s'.heap:=(show Br P w H' s'.heap e _ from hok e _ h1).1;have:E (.ref e) none H'':=hF e H' H'' sx ⟨C,T,a0,T2,a2,h1,⟨_,xe1⟩,h3⟩ he;exact⟨e,C,H'',rfl,I2.os,I2.bare,I2.base,Dy,Fv,hE _ _ this⟩
 rais:=by intro pins σ H s h' e C args I mx he;refine aa (JR (P:=P) (w:=w) (H:=H) (base:=base) I.ok.frames I.stack rfl I.hok I.stkFree I.bk mx λh'' H'' un2 Dy Fv sm=>?_);have I2:=I.call (h':=h'') (g':=s.gens) (d':=s.drawn) (t':=s.toks) un2 Dy I.bare (λb z=>absurd z (by simp));obtain⟨T2,a2,h3,_⟩:=id Fv;exact⟨e,C,H'',rfl,I2.os,I2.bare,I2.base,Dy,Fv,hE _ _ (he H'' sm ⟨T2,a2,h3⟩)⟩
end
def J6 {α:Type}:Rs α->Sr
 | .ex c h=>.ex c h
 |_=>.bad
section
variable{P:bh}{w:cj}{K:ao}{mg:Str->Option af}{base:cy}{N:Bf}{params:km}{body:bj}{scope:gq}{f c':ai}{cl:List (Str×ai)}{A:bw}{outer:List Env}{s:ag}{H:Hp}{E:XK}{G:Cfg}{k:Nat}{μ:Nat->ai}{h:Hs}{ds:Bh}
theorem XC {h1:cy}{tk:Nat}{σ:St}{E₀:XK}(S:Cd N scope) (hd:A.handled=none) (e0:Env0 P w K mg base A outer s H) (L:Fg G base H μ h.length N params body scope f c' cl ds)
  (Cn:∀x c,cl.lookup x=some c->x∈N)
  (hns:h1.Ns s.heap.objs.size λ_=>none) (hk1:∀b o,s.heap.get? b=some o->h1.get? b=some o)
  (hσ:σ.length=N.length) (hv:∀(i:Nat) (x:Str) (v:V),N[i]?=some x->σ[i]?=some (some v)->∃c o u,cl.lookup x=some c/\base.get? c=some o/\o.data=.cell (some u)/\RelV v u):
  Inv (jM P w K mg base N G.lq scope f (.ref c') cl A outer s H E₀) [] σ H { s with heap:=h1,toks:=tk }:=by
 have noA:∀b:ai,b∉(jM P w K mg base N G.lq scope f (.ref c') cl A outer s H E₀).ex:=λb z=>absurd (show b∈([]:List ai) from z) (by simp);have kfree:∀x,scope.names.lookup x=some .free->x∈N:=λx e=>S.all _ (fw e) rfl;refine⟨⟨e0.mod,S.kind,rfl,rfl,ak _,L.inj,λx hx=>?_,λx c z=>(nomatch z),λ_=>hd,zt e0.frames,.inr ⟨rfl,rfl⟩,λb z=>absurd z (noA b),e0.bs,e0.bsz,λb _ _=>noA b,λb z=>absurd z (noA b),e0.funs,e0.frf⟩,
  rfl,e0.bare,Un.kept hk1,⟨_,hns,λi x v h1' h2 h3=>?_⟩,λx c e=>?_,e0.hok.fresh (ak _),λx c e=>?_,λp hp=>absurd (show p∈([]:List (ai×Obj)) from hp) (by simp),e0.hok.kept hk1,hσ⟩
 ·have hx:scope.names.lookup x=some .cell∨scope.names.lookup x=some .free:=hx
  rcases hx with hx|hx
  ·exact absurd rfl (S.nocell _ (fw hx))
  ·obtain⟨i,hi⟩:=List.getElem?_of_mem (kfree x hx);exact L.at_ i x hi
 ·obtain⟨c,o,u,e1,e2,e3,r⟩:=hv i x v h1' h2;refine⟨u,r,.inr ⟨.inr (S.fr x (cq h1')),c,e1,o,hk1 _ _ (e0.bs _ _ e2).1,e3⟩⟩
 ·obtain⟨o,u,e2,e3⟩:=L.cell x c e;exact⟨u,o,hk1 _ _ (e0.bs _ _ e2).1,e3⟩
 ·obtain⟨o,u,e2,e3⟩:=L.cell x c e;exact(e0.bs _ _ e2).2
theorem XD {me:M Dv}{Q:VK}(S:Cd N scope) (hK:K=G.K) (hb:∀(cl:List (Str×ai)) (pm cdv ct:af),bindArgs (qf "<lambda>" G.lq params body scope cl pm cdv ct) ⟨[],[]⟩=pure [])
  (Cm:∀(f:ai) (cdv:af) (cl:List (Str×ai)) (A:bw) (outer:List Env) (s:ag) (H:Hp) (E₀ E:XK),Good (jM P w K mg base N G.lq scope f cdv cl A outer s H E₀) G E k->aI (jM P w K mg base N G.lq scope f cdv cl A outer s H E₀) G E body me)
  (hr:Ce (k+1) A) (e0:Env0 P w K mg base A outer s H) (L:Fg G base H μ h.length N params body scope f c' cl ds) (Cn:∀x c,cl.lookup x=some c->x∈N) (sm:Bw G μ h H) (o:Out G E μ h.length H (me (ds.map some) h) (Bo G) Q):
  codeAny (model P w) A (.call (.ref f) ⟨[],[]⟩) (CR (bN P w base) outer P w H s Q E) s:=by
 obtain⟨pm,ctv,ho⟩:=L.ob;obtain⟨oc,hc,vs,t,hcd,hq⟩:=L.cd;have lim:s.heap.NoLimit:=e0.mod.nolimit.keeps λb o e=>(e0.bs b o e).1;have gc:s.heap.get? c'=some oc:=(e0.hok c' _ hc).1;refine PySem.W.kla_callFunE hr.depth (e0.hok f _ ho).1 rfl S.co S.gen rfl ⟨c',oc,vs,t,rfl,gc,hcd,hq⟩ ?_;rw[hb];refine ah (wpAny_newFunctionEnv S.nocell (λx hx=>absurd hx (by simp)) (λh₁ hns hsb=>⟨lim.fresh _ hsb, ?_⟩) S.kind);show codeAny _ _ (.expr body (og G.lq scope s.heap.objs.size f (.ref c') cl)) _ _;have hk₁:∀b o,s.heap.get? b=some o->h₁.get? b=some o:=λb o e=>hsb.extBut b o (ay (aq e)) (aj _ e);have hvs:∀(i:Nat),i<N.length->∃v:V,∀d,ds[i]?=some d->Bo G μ h.length H d v/\∀x,N[i]?=some x->∃c o u,cl.lookup x=some c/\base.get? c=some o/\o.data=.cell (some u)/\RelV v u:=λi hi=>by
  obtain⟨x,hx⟩:∃x,N[i]?=some x:=⟨_,ba hi⟩
  obtain⟨d,hd⟩:∃d,ds[i]?=some d:=⟨_,ba (by rw[L.len];exact hi)⟩
  obtain⟨c,ec⟩:=L.at_ i x hx;obtain⟨oo,u,v,e1,e2,r1,r2⟩:=L.val i x c d hx hd ec;refine⟨v,λd' Dj=>?_⟩;rw[hd]at Dj;cases Dj;refine⟨r2,λx' Fp=>?_⟩;rw[hx]at Fp;cases Fp;exact⟨c,oo,u,ec,e1,e2,r1⟩
 have Et:∃vs:Hf,vs.length=N.length/\∀(i:Nat) (v:V),vs[i]?=some v->∀d,ds[i]?=some d->Bo G μ h.length H d v/\∀x,N[i]?=some x->∃c o u,cl.lookup x=some c/\base.get? c=some o/\o.data=.cell (some u)/\RelV v u:=by
  have:∀m,m<=N.length->∃vs:Hf,vs.length=m/\∀(i:Nat) (v:V),vs[i]?=some v->∀d,ds[i]?=some d->Bo G μ h.length H d v/\∀x,N[i]?=some x->∃c o u,cl.lookup x=some c/\base.get? c=some o/\o.data=.cell (some u)/\RelV v u:=by
   intro m
   induction m with
   |zero=>exact λ_=>⟨[],rfl,λi v e=>by simp at e⟩
   |succ m ih=>
    intro hm;obtain⟨vs,hl,hv⟩:=ih (by omega);obtain⟨v,hv'⟩:=hvs m (by omega);refine⟨vs++[v],by simp[hl],λi v' e d hd=>?_⟩
    by_cases hi:i<vs.length
    ·rw[dw hi]at e;exact hv i v' e d hd
    ·rw[gg (by omega)]at e;have:i=m:=by have:=(ax.mp e).1;simp at this;omega
     subst this;simp[hl]at e;subst e;exact hv' d hd
  exact this _ (ak _)
 obtain⟨Cs,hl,hv⟩:=Et;have I:Inv (jM P w K mg base N G.lq scope f (.ref c') cl A outer s H E) [] (Cs.map some) H { s with heap:=h₁,toks:=s.toks+([]:List (Str×af)).length }:=by
  refine XC S hr.hd e0 L Cn hns hk₁ (by simp[hl]) λi x v h1 h2=>?_;have h3:Cs[i]?=some v:=by
   rw[dj]at h2
   cases q:Cs[i]? with
   |none=>rw[q]at h2;cases h2
   |some a=>rw[q]at h2;cases h2;rfl
  obtain⟨d,hd⟩:∃d,ds[i]?=some d:=⟨_,ba (by rw[L.len];exact(ax.mp h1).1)⟩
  exact(hv i v h3 d hd).2 x h1
 have rs:Bs G μ h.length H (ds.map some) (Cs.map some):=⟨by simp[hl,L.len],λi d e=>by
  have h3:ds[i]?=some d:=by
   rw[dj]at e
   cases q:ds[i]? with
   |none=>rw[q]at e;cases e
   |some a=>rw[q]at e;cases e;rfl
  have hi:i<Cs.length:=by rw[hl,<-L.len];exact(ax.mp h3).1
  exact⟨Cs[i],by rw[dj,ba hi];rfl,(hv i _ (ba hi) d h3).1⟩⟩
 have gd:Good (jM P w K mg base N G.lq scope f (.ref c') cl A outer s H E) G (EB G μ h.length H (J6 (me (ds.map some) h))) k:=XB (hr.deeper _) hK (λu H' ⟨c,h',μ',er,x,s',fl⟩=>by
  cases q:me (ds.map some) h with
  |ok d hh=>rw[q]at er;cases er
  |bad=>rw[q]at er;cases er
  |ex c1 h1=>rw[q]at er o;cases er;exact o μ' H' u x s' fl) CF
 refine PySem.W.kla_codeExpr (kn (Cm f (.ref c') cl A outer s H E _ gd hK [] _ (Cs.map some) H Q I ⟨μ,ds.map some,h,rs,sm, ?_⟩) (λu s' ⟨v,H',J,rv,q⟩=>⟨v,H',J.os,J.bare,J.base,J.hok,rv,q⟩) λe s' hs=>hs)
 cases q:me (ds.map some) h with
 |ok d hh=>rw[q]at o;exact o
 |bad=>rw[q]at o;exact o
 |ex c1 h1=>exact λμ' H' u x' s' fl=>⟨c1,h1,μ',rfl,x',s',fl⟩
end
section
variable{X:Cx}{pins:List (ai×Obj)}{σ:St}{H:Hp}{s:ag}
theorem XE {i:Nat}{x:Str}{h':cy}{tk:Nat}{m:Str->Option af}{v:Option af}(I:Inv X pins σ H s) (hN:X.N.Nodup) (hi:X.N[i]?=some x) (hn:s.heap.Ns X.env.locals m)
  (hl:∀(i:Nat) (x:Str) (v:V),X.N[i]?=some x->σ[i]?=some (some v)->mP X.env.scope x->∃u,RelV v u/\GI X.env s.heap m x u)
  (hs:ja X.env.locals s.heap h') (hn':h'.Ns X.env.locals (λy=>if y=x then v else m y)):Inv X pins (σ.set i none) H { s with heap:=h',toks:=tk }:=by
 have cne:=I.cne;have hok:Cw X.prog X.w H h':=λb ob e=>by
  refine(I.hok b ob e).stay (λc w' hc q=>(hs.2 c ?_).trans q) (λ_ q=>q) λ_ _ q=>q
  rintro rfl
  have hfree:=I.free
  rcases hc with hc|hc
  ·rw[<-hc]at e;rw[hfree]at e;cases e
  ·rw[hfree]at hc;cases hc
 refine⟨I.ok,I.os,I.bare,⟨λb o e n hb hx=>?_,λb o e n hb hx=>?_,I.base.free,λb o e hx=>?_,I.base.tups,I.base.frzs,I.base.tbls⟩,⟨_,hn',λj y v' e1 e2 e3=>?_⟩,λy c e=>?_,I.free,I.freeC,λp hp=>?_,hok,by simpa using I.len⟩
 ·exact(hs.2 b (ay (au (aq e) I.ok.above))).trans (I.base.keep b o e n hb hx)
 ·obtain⟨sl,e1⟩:=I.base.slot b o e n hb hx;exact⟨sl,(hs.2 b (ay (au (aq e) I.ok.above))).trans e1⟩
 ·obtain⟨o',e1⟩:=I.base.there b o e hx;exact⟨o',(hs.2 b (ay (au (aq e) I.ok.above))).trans e1⟩
 ·by_cases hj:j=i
  ·subst hj;have hiσ:j<σ.length:=by rw[I.len];exact(ax.mp hi).1
   rw[dz hiσ]at e2;cases e2
  ·rw[fi (de hj)]at e2;obtain⟨u',r',q⟩:=hl j y v' e1 e2 e3;refine⟨u',r', ?_⟩
   rcases q with⟨k,e⟩|⟨k,c,e,z⟩
   ·refine .inl ⟨k, ?_⟩;have:y≠x:=λe=>hj (AQ hN e1 (e▸hi));show(if y=x then v else m y)=some u';rw[if_neg this];exact e
   ·exact .inr ⟨k,c,e,z.sameBut hs (cne y c e)⟩
 ·obtain⟨w',z⟩:=I.cell y c e;exact⟨w',z.sameBut hs (cne y c e)⟩
 ·obtain⟨e,n,ne,nf,d⟩:=I.pin p hp;exact⟨(hs.2 p.1 ne).trans e,n,ne,nf,d⟩
def rO (X:Cx) (e:af):Cx:={ X with A:=X.A.mark (some e),calm:=false,xe:=λ_ _=>False }
theorem J7 (e:af) (I:Inv X pins σ H s):Inv (rO X e) pins σ H s:=
 have ok:=I.ok
 ⟨⟨ok.mod,ok.kind,ok.glob,ok.blt,ok.above,ok.inj,ok.has,ok.cab,λz=>(nomatch z),ok.frames,ok.stk,ok.exf,ok.bs,ok.bsz,ok.noex,ok.exfs,ok.funs,ok.frf⟩,I.os,I.bare,I.base,I.loc,I.cell,I.free,I.freeC,I.pin,I.hok,I.len⟩
theorem XF {e:af}(ok:X.Ok) (I:Inv (rO X e) pins σ H s):Inv X pins σ H s:=⟨ok,I.os,I.bare,I.base,I.loc,I.cell,I.free,I.freeC,I.pin,I.hok,I.len⟩
end
section
variable{k:Nat}{N:Bf}{params:km}{body:bj}{scope:gq}{me:M Dv}{ncl:Nat}{NE:ai}
theorem XG {x xn en nm:Str}{p cpos epos np xp ep apos hpos tpos:Pos}{pins:List (ai×Obj)}{σ:St}{H:Hp}{s:ag}{D:Ends}{f c':ai}{cl:List (Str×ai)}{μ:Nat->ai}{h:Hs}{ds:Bh}
  (hK:X.K=G.K) (Fq:X.stack=X.env::X.outer) (hfr:X.env.frame=some X.env.locals) (hnd:X.N.Nodup) (h0:X.N[0]?=some x) (h1:X.N[1]?=some xn) (h2:X.N[2]?=some en) (hfn:∀y,X.fn y=true)
  (l0:X.env.scope.names.lookup x=some .local) (l1:X.env.scope.names.lookup xn=some .local) (l2:X.env.scope.names.lookup en=some .local)
  (d0:(x==He)=false) (c0:(x==("__classdict__" : Str))=false) (d2:(en==He)=false) (c2:(en==("__classdict__" : Str))=false) (dn:(nm==He)=false)
  (hsw:swapsWith (.Call (.Name x p) [] [] cpos) none epos.line X.env=pure false) (hsw2:swapsWith (.Name en ep) (some (.Name xn xp)) apos.line X.env=pure false)
  (hg:Gl X nm) (hm:X.mg nm=some (.ref NE)) (hx1:kd X.K (.ref NE) (.type "BaseException")=some true) (hx2:kd X.K (.type "type") (.type "tuple")=some false) (hx3:xv X.K (.ref NE) (.ref NE)=some true)
  (hsub:∀c,c<ncl->kd X.K (.ref (G.cl c)) (.ref NE)=some true)
  (S:Cd N scope) (hb:∀(cl:List (Str×ai)) (pm cdv ct:af),bindArgs (qf "<lambda>" G.lq params body scope cl pm cdv ct) ⟨[],[]⟩=pure [])
  (Cm:∀(f:ai) (cdv:af) (cl:List (Str×ai)) (A:bw) (outer:List Env) (s:ag) (H:Hp) (E₀ E:XK),Good (jM X.prog X.w X.K X.mg X.base N G.lq scope f cdv cl A outer s H E₀) G E k->aI (jM X.prog X.w X.K X.mg X.base N G.lq scope f cdv cl A outer s H E₀) G E body me)
  (hr:Ce (k+1) X.A) (I:Inv X pins σ H s) (hσ:σ[0]?=some (some (.ref f))) (L:Fg G X.base H μ h.length N params body scope f c' cl ds) (Cn:∀x c,cl.lookup x=some c->x∈N) (sm:Bw G μ h H)
  (hD:match me (ds.map some) h with
   | .ok _ h1=>∀μ' H',Ext μ h.length H μ' h1.length H'->Bw G μ' h1 H'->D.nx σ H'
   | .ex c h1=>c<ncl/\∀μ' H' a,Ext μ h.length H μ' h1.length H'->Bw G μ' h1 H'->Bo G μ' h1.length H' (.exc c) (.ref a)->D.nx (((σ.set 2 (some (.ref a))).set 1 (some (.ref a))).set 2 none) H'
   | .bad=>False):
  wpAny (model X.prog X.w) X.A (exec (.Try [.Expr (.Call (.Name x p) [] [] cpos) epos] [.ExceptHandler (some (.Name nm np)) (some en) [.Assign [.Name xn xp] (.Name en ep) apos] hpos] [] [] tpos) X.env) (SP X pins D) X.xe s:=by
 have hcls:(X.env.scope.kind==.class||(X.env.scope.kind==.module&&X.env.locals != X.env.globals))=false:=by rw[I.ok.kind];rfl
 refine wpAny_Try_except ?_;obtain⟨pm,ctv,ho⟩:=L.ob;refine qc (wpAny_Expr_any (sj (aW (kn (vY (X:=X.nox) (pos:=p) h0 (.inl l0) d0 c0 pins s σ H (λv H'=>v=.ref f/\H'=H) (I.wish _) ⟨_,hσ,rfl,rfl⟩) (λ_ _ q=>q) λ_ _ z=>je z) λu s1 ⟨v,H',I',r,e1,e2⟩=>?_)) I.quiet hsw);subst e1;subst e2;cases r;have I1:Inv X pins σ H' s1:=I'.unwish;refine PySem.W.callWith_F0 ⟨_,_,_,_,(I1.hok f _ ho).1⟩ ?_;refine wpAny_call (qu (XD (E:=EB G μ h.length H' (J6 (me (ds.map some) h))) (Q:=λ_ H2=>∃d hh μ',me (ds.map some) h=.ok d hh/\Ext μ h.length H' μ' hh.length H2/\Bw G μ' hh H2) S hK hb Cm hr I1.env0 L Cn sm ?_) λr s' hq=>?_)
 ·cases q:me (ds.map some) h with
  |ok d hh=>exact λμ' H' v x' s' _=>⟨d,hh,μ',rfl,x',s'⟩
  |bad=>rw[q]at hD;exact hD.elim
  |ex c1 h1=>exact λμ' H' u x' s' fl=>⟨c1,h1,μ',rfl,x',s',fl⟩
 cases r with
 |ok fl=>
  cases fl with
  |ret u=>obtain⟨v,H2,I2,r2,d,hh,μ',e1,x1,s1⟩:=I1.after hq;refine oi (oi ?_);rw[e1]at hD;exact⟨σ,H2,I2,hD μ' H2 x1 s1⟩
  |next=>exact je hq
  |brk=>exact je hq
  |cont=>exact je hq
 |error ev=>
  obtain⟨e,C,H2,rfl,os,bare,un,hok,fl,c,hh,μ',er,x1,sm1,e',φ,eu,g1,g2⟩:=hq;cases eu
  cases qm:me (ds.map some) h with
  |ok d h3=>rw[qm]at er;cases er
  |bad=>rw[qm]at er;cases er
  |ex c3 h3=>
  rw[qm]at er hD;cases er;obtain⟨hc,hD⟩:=hD;have I2:Inv X pins σ H2 s':=I1.call' os un hok bare (λb z=>absurd z (by simp));refine CA (P:=X.prog) (w:=X.w) (H:=H2) (base:=X.base) (env:=X.env) (outer:=X.outer) (by rw[<-Fq];exact I2.ok.frames) (by rw[<-Fq];exact I2.stack) hfr hok (by rw[<-Fq];exact I2.stkFree) fl λh4 H4 un4 hok4 fl4 sx4=>?_;have I4:Inv X pins σ H4 { s' with heap:=h4 }:=I2.call (h':=h4) (g':=s'.gens) (d':=s'.drawn) (t':=s'.toks) (by rw[Fq];exact un4) hok4 I2.bare (λb z=>absurd z (by simp));obtain⟨sm4,x4⟩:=sm1.sameX sx4 ⟨_,g1⟩;obtain⟨T,a0,w1,w2,w3,w4⟩:=id fl4;obtain⟨T0,b0,v1,_,_,_⟩:=id fl;have hC:C=.ref (G.cl c):=by have xo:dS C e T0 b0 s'.heap:=(show Br X.prog X.w H2 s'.heap e _ from hok e _ v1).1;rw[v1]at g1;cases g1;obtain⟨oo,q1,q2⟩:=g2 _ xo;obtain⟨o2,Fh,q3,q4,_⟩:=xo;rw[q3]at q1;cases q1;rw[<-q4,q2]
  subst hC;have xo4:dS (.ref (G.cl c)) e T a0 h4:=(show Br X.prog X.w H4 h4 e _ from hok4 e _ w1).1;obtain⟨oe,vs,y1,y2,y3,y4,y5,y6⟩:=id xo4;refine wpAny_handleBy_cons (codeAny_handlers_test (kn (vZ (X:=rO X (.ref e)) (E:=λ_ _=>False) (Q:=λu s5=>u=.ref NE/\Inv X pins σ H4 s5/\s5.heap=h4) (J7 _ I4) hg hm ⟨rfl,I4,rfl⟩ dn) (λcv s5 hs5=>?_) λ_ _ z=>je z)) (by intro z;cases z);obtain⟨rfl,I5,e5⟩:=hs5;refine XA (K:=X.K) I5.kIn (by rw[e5];exact y1) y2 hx1 hx2 hx3 (hsub c hc) ?_;obtain⟨oT,ts,z1,z2,z3⟩:eE T h4:=(show Br X.prog X.w H4 h4 T _ from hok4 T _ w2).1;have l3:3<ts.size:=(dm.mp z3).1;refine codeAny_handlers_suite_as (JN (e:=e) (T:=T) (by rw[e5];exact y1) y3 y5 (by rw[e5];exact z1) z2 l3 λh6 sb6 tb6=>?_);rw[e5]at sb6;have ge6:h6.get? e=some oe:=sb6.extBut _ _ (de w4) y1;have I6:Inv X pins σ (upd H4 T (.ext (eE T))) { s5 with heap:=h6 }:=I5.write (x:=T) (e:=T) (o:=.ext (eE T)) (h':=h6) (t':=s5.toks) (by rw[w2];trivial) (.inl rfl) (λb u hb q=>by rw[e5]at q;exact sb6.extBut _ _ hb q) (let ⟨oo,_,q,_⟩:=tb6;⟨oo,q⟩) (xJ tb6);have se:De H4 (upd H4 T (.ext (eE T))):=λb o q=>by
   by_cases hb:b=T
   ·subst hb;rw[w2]at q;cases q;exact cR
   ·rw[bU hb];exact q
  have w1':(upd H4 T (.ext (eE T))) e=some (.ext (dS (.ref (G.cl c)) e T a0)):=se _ _ w1;have I7:Inv X pins σ (upd (upd H4 T (.ext (eE T))) e (.frz oe (.own 0))) { s5 with heap:=h6 }:=I6.write (x:=e) (e:=e) (o:=.frz oe (.own 0)) (h':=h6) (t':=s5.toks) (by rw[w1'];trivial) (.inl rfl) (λb u hb q=>q) ⟨_,ge6⟩ ⟨ge6,oe,ge6⟩;have sx7:tS e (upd H4 T (.ext (eE T))) (upd (upd H4 T (.ext (eE T))) e (.frz oe (.own 0))):=λb o hb q=>by rw[bU hb];exact q
  obtain⟨sm7,x7⟩:=(sm4.same se).sameX sx7 ⟨_,w1'⟩;have xx:Ext μ h.length H' μ' hh.length (upd (upd H4 T (.ext (eE T))) e (.frz oe (.own 0))):=x1.trans ((x4 _).trans ((F' se).trans (x7 _)));generalize hH7:upd (upd H4 T (.ext (eE T))) e (.frz oe (.own 0))=H7 at *;have rl:Bo G μ' hh.length H7 (.exc c) (.ref e):=by rw[Bo,<-hH7];exact⟨e,oe,.own 0,rfl,cR,y2,y6,vs,y3⟩
  refine sZ (v:=.ref e) I7 hnd h2 (.inl l2) rfl (λs8 I8=>?_) (.inr l2);have I8':Inv (rO X (.ref e)) pins (σ.set 2 (some (.ref e))) H7 s8:=J7 _ I8;have hlen:2<σ.length:=by rw[I.len];exact(ax.mp h2).1
  refine kn (GP (AX (X:=rO X (.ref e)) (i:=1) (pos:=apos) (pos':=xp) hnd h1 (.inl l1) (vY (X:=rO X (.ref e)) (pos:=ep) h2 (.inl l2) d2 c2) hsw2 (.inr l1)) pins s8 (σ.set 2 (some (.ref e))) H7 { nx:=λσ' H'=>σ'=(σ.set 2 (some (.ref e))).set 1 (some (.ref e))/\H'=H7,rt:=λ_ _=>False } I8' ⟨.ref e,dz hlen,rfl,rfl⟩) (λfl9 s9 hs9=>?_) λ_ _ z=>je z
  cases fl9 with
  |ret u=>obtain⟨_,_,_,_,_,z⟩:=hs9;exact z.elim
  |brk=>obtain⟨_,_,_,z⟩:=hs9;exact z.elim
  |cont=>obtain⟨_,_,_,z⟩:=hs9;exact z.elim
  |next=>obtain⟨σ9,H9,I9,e9,f9⟩:=hs9;subst e9;subst f9;have I9':Inv X pins _ H9 s9:=XF I8.ok I9;obtain⟨m,hn,hl⟩:=id I9'.loc;refine wpAny_nameGoes_keeps l2 hn hcls λh10 v10 hn10 hs10=>?_;exact⟨_,H9,XE I9' hnd h2 hn hl hs10 hn10,hD μ' H9 e xx sm7 rl⟩
end
def tX:Sr->Rs Dv
 | .rt d h=>.ok d h
 | .nx _ h=>.ok .non h
 |_=>.bad
def oM (n:Nat) (d:Dv):Ev:=none::some d::bq (n - 2) none
def tY (n ncl:Nat) (mb:MS):Rs Dv->Rs Dv
 | .ok _ h1=>tX (mb (oM n .non) h1)
 | .ex c h1=>if c<ncl then tX (mb (oM n (.exc c)) h1)else .bad
 | .bad=>.bad
def mZ (G:Cfg) (base:cy) (Nl:Bf) (params:km) (body:bj) (scope:gq) (me:M Dv) (n ncl:Nat) (mb:MS):Sp:=λvs H Q E=>∃f c' cl ds μ h,vs=[.ref f]/\Fg G base H μ h.length Nl params body scope f c' cl ds/\(∀x c,cl.lookup x=some c->x∈Nl)/\Bw G μ h H/\Out G E μ h.length H (tY n ncl mb (me (ds.map some) h)) (Bo G) Q
theorem J8 {G:Cfg}{E:XK}{μ μ1:Nat->ai}{n n1:Nat}{H H1:Hp}{r:Sr}{Q:VK}(o:Out G E μ n H (tX r) (Bo G) Q) (x:Ext μ n H μ1 n1 H1):Cp G (λ_ _ _=>False) μ1 n1 H1 r { nx:=λ_ H'=>Q .non H',rt:=Q }:=by
 cases r with
 |nx ρ h'=>exact λμ' H' σ' y s _=>o μ' H' .non (x.trans y) s rfl
 |rt d h'=>exact λμ' H' v y s r=>o μ' H' v (x.trans y) s r
 |bk ρ h'=>exact o.elim
 |ct ρ h'=>exact o.elim
 |ex c h'=>exact o.elim
 |bad=>exact o
theorem J9 {G:Cfg}{μ:Nat->ai}{n:Nat}{H:Hp}{m:Nat}{d:Dv}{v:V}{σ:St}(hl:σ.length=m) (hm:2<=m) (h1:σ[1]?=some (some v)) (r:Bo G μ n H d v):Bs G μ n H (oM m d) σ:=by
 refine⟨by simp[oM,hl];omega,λi d' e=>?_⟩;unfold oM at e
 match i,e with
 |0,e=>simp at e
 |1,e=>simp at e;subst e;exact⟨v,h1,r⟩
 |i+2,e=>
  simp only[sv,sr]at e
  split at e <;> cases e
section
variable{P:bh}{w:cj}{K:ao}{mg:Str->Option af}{base:cy}{f:ai}{G:Cfg}{k:Nat}{Nm Nl:Bf}{params:km}{body:bj}{scope:gq}{me:M Dv}{ncl:Nat}{NE:ai}{mb:MS}
theorem XH {x xn en nm q qual:Str}{st:ie}{fd:bp}{p cpos epos np xp ep apos hpos tpos zpos zp npos:Pos}{j:Nat}{rest:List ie}(Fn:Cy K q qual st f fd) (S:Bq Nm [x] (aT st)) (hK:K=G.K)
  (Ft:hZ st=.Assign [.Name xn zp] (.Constant .none j npos) zpos::.Try [.Expr (.Call (.Name x p) [] [] cpos) epos] [.ExceptHandler (some (.Name nm np)) (some en) [.Assign [.Name xn xp] (.Name en ep) apos] hpos] [] [] tpos::rest)
  (h0:Nm[0]?=some x) (h1:Nm[1]?=some xn) (h2:Nm[2]?=some en)
  (l0:(aT st).names.lookup x=some .local) (l1:(aT st).names.lookup xn=some .local) (l2:(aT st).names.lookup en=some .local)
  (d0:(x==He)=false) (c0:(x==("__classdict__" : Str))=false) (d2:(en==He)=false) (c2:(en==("__classdict__" : Str))=false) (dn:(nm==He)=false)
  (hsw:∀L cd,swapsWith (.Call (.Name x p) [] [] cpos) none epos.line (envOfC qual (aT st) L f cd)=pure false) (hsw2:∀L cd,swapsWith (.Name en ep) (some (.Name xn xp)) apos.line (envOfC qual (aT st) L f cd)=pure false)
  (hsw3:∀L cd,swapsWith (.Constant .none j npos) (some (.Name xn zp)) zpos.line (envOfC qual (aT st) L f cd)=pure false)
  (hg:(aT st).names.lookup nm=some .globalImplicit) (hm:mg nm=some (.ref NE)) (hx1:kd K (.ref NE) (.type "BaseException")=some true) (hx2:kd K (.type "type") (.type "tuple")=some false) (hx3:xv K (.ref NE) (.ref NE)=some true)
  (hsub:∀c,c<ncl->kd K (.ref (G.cl c)) (.ref NE)=some true)
  (LS:Cd Nl scope) (hb:∀(cl:List (Str×ai)) (pm cdv ct:af),bindArgs (qf "<lambda>" G.lq params body scope cl pm cdv ct) ⟨[],[]⟩=pure [])
  (Cm:∀(f:ai) (cdv:af) (cl:List (Str×ai)) (A:bw) (outer:List Env) (s:ag) (H:Hp) (E₀ E:XK),Good (jM P w K mg base Nl G.lq scope f cdv cl A outer s H E₀) G E k->aI (jM P w K mg base Nl G.lq scope f cdv cl A outer s H E₀) G E body me)
  (Ew:∀(cdv:af) (A:bw) (outer:List Env) (s:ag) (H:Hp) (E₀ E:XK),Good (fO (bN P w base) P w K mg base Nm qual (aT st) f cdv A outer s H E₀) G E (k+1)->jJ (fO (bN P w base) P w K mg base Nm qual (aT st) f cdv A outer s H E₀) G E rest mb):
  Bt P w K mg base (bN P w base) (k+2) f fd [x] (mZ G base Nl params body scope me Nm.length ncl mb):=by
 obtain⟨oc,od,kV,doc,pm,an,cdv,ct,osl,rfl,lk,hcd⟩:=Fn.ex;have hNl:2<Nm.length:=(ax.mp h2).1;refine A4 lk hcd S (λvs H Q E ⟨f,c',cl,ds,μ,h,e,_⟩=>by rw[e];rfl) λA outer s H vs Q E hr hsp=>?_;obtain⟨fl,c',cl,ds,μ,h,rfl,L,Cn,sm,o⟩:=hsp;refine⟨λD σ H1=>σ=start Nm [.ref fl]/\H1=H/\D={ nx:=λ_ H'=>Q .non H',rt:=Q }, ?_,rfl,rfl,rfl⟩;intro pins s1 σ H1 D I ⟨eσ,eH,eD⟩;subst eH;have hσl:σ.length=Nm.length:=I.len;have hσ0:σ[0]?=some (some (.ref fl)):=by rw[eσ];rfl
 rw[Ft];have gd:Good (fO (bN P w base) P w K mg base Nm qual (aT st) f cdv A outer s H1 E) G (λ_ _ _=>False) (k+1):=CC hr hK (λ_ _ z=>z.elim) (λ_ _ _ _ _ z=>z);have hset:(σ.set 1 (some .non))[0]?=some (some (.ref fl)):=by rw[fi (by decide)];exact hσ0
 refine qc (aW (AX (X:=fO (bN P w base) P w K mg base Nm qual (aT st) f cdv A outer s H1 E) (i:=1) (pos:=zpos) (pos':=zp) S.nd h1 (.inl l1) (GK (j:=j) (pos:=npos)) (hsw3 _ _) (.inl rfl) pins s1 σ H1 { nx:=λσ' H'=>σ'=σ.set 1 (some .non)/\H'=H1,rt:=λ_ _=>False } I ⟨rfl,rfl⟩) λFv s2 q2=>?_)
 cases Fv with
 |ret u=>obtain⟨_,_,_,_,_,z⟩:=q2;exact z.elim
 |brk=>obtain⟨_,_,_,z⟩:=q2;exact z.elim
 |cont=>obtain⟨_,_,_,z⟩:=q2;exact z.elim
 |next=>
  obtain⟨σ2,H2,I2,e2,f2⟩:=q2;subst e2;subst f2;refine qc (aW (XG (X:=fO (bN P w base) P w K mg base Nm qual (aT st) f cdv A outer s H2 E) (G:=G) (N:=Nl) (me:=me) (ncl:=ncl) (NE:=NE) (k:=k) (D:={ nx:=xD G (λ_ _ _=>False) mb D,rt:=λ_ _=>False })
   hK rfl rfl S.nd h0 h1 h2 (λ_=>rfl) l0 l1 l2 d0 c0 d2 c2 dn (hsw _ _) (hsw2 _ _) hg hm hx1 hx2 hx3 hsub LS hb Cm hr I2 hset L Cn sm ?_) λfl3 s3 q3=>?_)
  ·cases qm:me (ds.map some) h with
   |bad=>rw[qm]at o;exact o
   |ok d hh=>rw[qm]at o;intro μ' H' x' s';refine⟨μ',oM Nm.length .non,hh,J9 (v:=.non) (by rw[lr];exact hσl) (by omega) (dz (by omega)) rfl,s', ?_⟩;rw[eD];exact J8 o x'
   |ex c hh=>
    rw[qm]at o;unfold tY at o;dsimp only at o
    split at o
    ·rename_i hc;refine⟨hc,λμ' H' a x' s' r'=>?_⟩;refine⟨μ',oM Nm.length (.exc c),hh,J9 (v:=.ref a) (by simp only[lr];exact hσl) (by omega) ?_ r',s', ?_⟩
     ·rw[fi (by decide),dz (by simp only[lr];omega)]
     ·rw[eD];exact J8 o x'
    ·exact o.elim
  ·cases fl3 with
   |ret u=>obtain⟨_,_,_,_,_,z⟩:=q3;exact z.elim
   |brk=>obtain⟨_,_,_,z⟩:=q3;exact z.elim
   |cont=>obtain⟨_,_,_,z⟩:=q3;exact z.elim
   |next=>obtain⟨σ3,H3,I3,q3⟩:=q3;exact Ew cdv A outer s H2 E _ gd hK pins s3 σ3 H3 D I3 q3
end
theorem XI:∀(l:List af) (a b:Int) (t u:Tok) (c:af),wj l->wj (l++[.int a t,.int b u,c]):=by
 intro l a b t u c h
 fun_induction wj l with
 |case1=>trivial
 |case2 x t y u z rest ih=>exact ih h
 |case3 l h1 h2=>exact h.elim
theorem XJ {pos:Pos}{cv c:af}{a b:Int}{t u:Tok}:∀(l:List af),wj l->codeAmong pos (l++[.int a t,.int b u,c])=some cv->codeAmong pos l=some cv∨cv=c:=by
 intro l h
 fun_induction wj l with
 |case1=>
  intro e;simp only[List.nil_append,codeAmong]at e
  split at e
  ·cases e;exact .inr rfl
  ·cases e
 |case2 x t y u z rest ih=>
  intro e;simp only[List.cons_append,codeAmong]at e ⊢
  split at e
  ·rename_i hc;rw[if_pos hc];exact .inl e
  ·rename_i hc;rw[if_neg hc];exact ih h e
 |case3 l h1 h2=>exact h.elim
def lM (mg:Str->Option af) (base:cy):Prop:=∃bm ob,mg "__builtins__" = some (.ref bm)/\bm≠builtinsNs/\base.get? bm=some ob/\ob.cls=.type "module"/\ob.dict=some builtinsNs/\ob.data=.plain
def XM (H H':Hp):Prop:=∀a o,(∀ps,o≠.tbl ps)->H a=some o->H' a=some o
section
variable{X:Cx}{G:Cfg}{params:km}{body:bj}{scope:gq}{lpos:Pos}{c P:ai}
theorem XN (Ft:defaultsOf params X.env=([],[])) (hq:X.env.qual ++ "<lambda>" = G.lq) (hP:G.tab=some P) (Ek:X.env.code=.ref c) (hC:mf X.base c P) (hB:lM X.mg X.base)
  (hfree:∀x,(x,bz)∈scope.names->X.env.kindOf x=some .cell∨X.env.kindOf x=some .free):
  PE X (.Lambda params body scope lpos) (λσ H Q=>El G H/\∀f c' pm ctv oc H1,H f=none->XM H H1->El G H1->H1 f=some (.frz (kv "<lambda>" G.lq params body scope (dC X.env scope.names []) pm c' ctv) (.own 0))->H1 c'=some (.frz oc (.own 0))->wV G.lq oc->Q (.ref f) H1):=by
 intro pins s σ H Q I ⟨hT,h⟩;obtain⟨ps,t1,t2,t3⟩:=hT P hP;have gP:s.heap.get? P=some (uk ps):=I.hok P _ t1;have hcl:closureFor scope X.env=pure (dC X.env scope.names []):=wJ λx hx=>I.ok.has x (hfree x hx);have hgs:s.heap.Ns di X.mg:=I.mod.glob.keeps I.bk;obtain⟨bm,ob,b1,b2,b3,b4,b5,b6⟩:=hB;have b3':=I.bk _ _ b3;have hgP:di≠P:=λq=>by obtain⟨o,es,ep,e,hd,_⟩:=hgs;rw[q,gP]at e;cases e;cases hd
 have hbP:bm≠P:=λq=>by rw[q,gP]at b3';cases b3';cases b4
 have hbG:bm≠di:=λq=>by obtain⟨o,es,ep,e,hd,_⟩:=hgs;rw[<-q,b3']at e;cases e;rw[hd]at b6;cases b6
 have hba:s.heap.BuiltinsAt X.mg P:=⟨bm,ob,b1,b2,hbG,hbP,b3',b4,b5,b6⟩
 refine PySem.W.kla_eval Ft ?_;rw[hq]
 cases hc:codeAmong lpos ps.toList with
 |some cv=>obtain⟨c',oc,ec,h2,h3⟩:=t3 lpos cv hc;subst ec;refine PySem.W.kla_makeFunctionHit (mg:=X.mg) hcl I.ok.glob hgs Ek (hC.keeps I.bk) gP t2 hc hba λctv h' tk hk Cu=>?_;have hn:H h'.objs.size=none:=I.hok.fresh Cu;have kk:∀b u,s.heap.get? b=some u->(h'.push { cls:=.type "function",data:=.func (qf "<lambda>" G.lq params body scope (dC X.env scope.names []) ((X.mg "__name__").getD .none) (.ref c') ctv) }).get? b=some u:=λb u q=>aj _ (hk b u q);have gf:=bc h' (o:=kv "<lambda>" G.lq params body scope (dC X.env scope.names []) ((X.mg "__name__").getD .none) c' ctv) rfl;have I1:=I.laid (a:=h'.objs.size) (o:=.frz (kv "<lambda>" G.lq params body scope (dC X.env scope.names []) ((X.mg "__name__").getD .none) c' ctv) (.own 0)) (t':=tk) kk Cu ⟨gf,_,gf⟩;have sm:De H (upd H h'.objs.size (.frz (kv "<lambda>" G.lq params body scope (dC X.env scope.names []) ((X.mg "__name__").getD .none) c' ctv) (.own 0))):=cK hn;exact⟨.ref h'.objs.size,_,I1,rfl,h _ c' _ ctv oc _ hn (λa o _ q=>sm a o q) (hT.keep λa o _ _ q=>sm a o q) cR (sm _ _ h2) h3⟩
 |none=>
  refine PySem.W.kla_makeFunction (mg:=X.mg) hcl I.ok.glob hgs Ek (hC.keeps I.bk) gP t2 hc hgP hba λc' ctv h' tk hx hge hlt hrec htb=>?_;obtain⟨c₂,oc,vs,t,e2,hoc,hd,hv⟩:=hrec;cases e2;generalize hfo:kv "<lambda>" G.lq params body scope (dC X.env scope.names []) ((X.mg "__name__").getD .none) c' ctv=fo;have nfo:fo.isFreed=false:=by rw[<-hfo];rfl
  have gf:(h'.push fo).get? h'.objs.size=some fo:=bc h' nfo;have goc:(h'.push fo).get? c'=some oc:=aj _ hoc;have gP':=aj fo htb;generalize hps:ps++#[rawInt lpos.line,rawInt lpos.col,.ref c']=Ck at gP';have lP:P<s.heap.objs.size:=aq gP;have kk:∀b u,b≠P->s.heap.get? b=some u->(h'.push fo).get? b=some u:=λb u hb q=>aj _ (hx b u hb q);have lt0:∀b u,s.heap.get? b=some u->b<s.heap.objs.size:=λb u q=>aq q;have nPc:P≠c':=ay (au lP hge);have nPf:P≠h'.objs.size:=ay (au lP (cz hge (gu hlt)));have ncf:c'≠h'.objs.size:=ay hlt;have lH:∀b o,H b=some o->b<s.heap.objs.size:=λb o q=>I.hok.lt q;have H1e:∀b,b≠P->b<s.heap.objs.size->upd (upd (upd H P (.tbl Ck)) c' (.frz oc (.own 0))) h'.objs.size (.frz fo (.own 0)) b=H b:=λb h1 h2=>by rw[bU (ay (au h2 (cz hge (gu hlt)))),bU (ay (au h2 hge)),bU h1]
  have eP:upd (upd (upd H P (.tbl Ck)) c' (.frz oc (.own 0))) h'.objs.size (.frz fo (.own 0)) P=some (.tbl Ck):=by rw[bU nPf,bU nPc,cR]
  have ec:upd (upd (upd H P (.tbl Ck)) c' (.frz oc (.own 0))) h'.objs.size (.frz fo (.own 0)) c'=some (.frz oc (.own 0)):=by rw[bU ncf,cR]
  have ef:upd (upd (upd H P (.tbl Ck)) c' (.frz oc (.own 0))) h'.objs.size (.frz fo (.own 0)) h'.objs.size=some (.frz fo (.own 0)):=cR;have cases1:∀b o,upd (upd (upd H P (.tbl Ck)) c' (.frz oc (.own 0))) h'.objs.size (.frz fo (.own 0)) b=some o->(b=h'.objs.size/\o=.frz fo (.own 0))∨(b=c'/\o=.frz oc (.own 0))∨(b=P/\o=.tbl Ck)∨(b≠P/\H b=some o):=λb o q=>by
   by_cases q1:b=h'.objs.size
   ·subst q1;rw[cR]at q;cases q;exact .inl ⟨rfl,rfl⟩
   rw[bU q1]at q
   by_cases q2:b=c'
   ·subst q2;rw[cR]at q;cases q;exact .inr (.inl ⟨rfl,rfl⟩)
   rw[bU q2]at q
   by_cases q3:b=P
   ·subst q3;rw[cR]at q;cases q;exact .inr (.inr (.inl ⟨rfl,rfl⟩))
   rw[bU q3]at q;exact .inr (.inr (.inr ⟨q3,q⟩))
  generalize upd (upd (upd H P (.tbl Ck)) c' (.frz oc (.own 0))) h'.objs.size (.frz fo (.own 0))=H1 at *;have keepO:∀b o,(∀ps,o≠.tbl ps)->H b=some o->H1 b=some o:=λb o hn q=>by rw[H1e b (λz=>by subst z;rw[t1]at q;cases q;exact hn _ rfl) (lH b o q)];exact q
  have un:Un X.fs [] H H1 s.heap (h'.push fo):=by
   have nP:∀b,H b=none->b≠P:=λb n z=>by subst z;rw[t1]at n;cases n
   refine⟨λb o q n _ _=>kk b o (nP b n) q,λb o q n _ _=>⟨o.slots,kk b o (nP b n) q⟩,λb o q n _=>by rw[H1e b (nP b n) (lt0 b o q)];exact n,λb o q _=>?_,λb xs q=>keepO b _ (λ_ z=>by cases z) q,λb o u q=>keepO b _ (λ_ z=>by cases z) q,λb qs q=>?_⟩
   ·by_cases hb:b=P
    ·subst hb;exact⟨_,gP'⟩
    ·exact⟨_,kk b o hb q⟩
   ·by_cases hb:b=P
    ·subst hb;rw[t1]at q;cases q;exact⟨#[rawInt lpos.line,rawInt lpos.col,.ref c'],by rw[eP,hps]⟩
    ·exact⟨#[],by rw[H1e b hb (lH b _ q),q];simp⟩
  have hok1:Cw X.prog X.w H1 (h'.push fo):=λb o q=>by
   rcases cases1 b o q with⟨rfl,rfl⟩|⟨rfl,rfl⟩|⟨rfl,rfl⟩|⟨hb,q⟩
   ·exact⟨gf,_,gf⟩
   ·exact⟨goc,_,goc⟩
   ·exact gP'
   ·refine(I.hok b o q).stay (λb2 u Eu z=>kk b2 u ?_ z) (λb2 z=>keepO b2 _ (λ_ z=>by cases z) z) λb2 xs z=>keepO b2 _ (λ_ z=>by cases z) z
    rcases Eu with rfl|Eu
    ·exact hb
    ·rintro rfl;rw[t1]at Eu;cases Eu
  have I1:Inv X pins σ H1 { s with heap:=h'.push fo,toks:=tk }:=I.un un hok1;refine⟨.ref h'.objs.size,H1,I1,rfl,h h'.objs.size c' ((X.mg "__name__").getD .none) ctv oc H1 (I.hok.fresh (cz hge (gu hlt))) keepO ?_ (by rw[hfo];exact ef) ec ⟨vs,t,hd,hv⟩⟩;intro P' eP';rw[hP]at eP';cases eP';have hl:Ck.toList=ps.toList++[rawInt lpos.line,rawInt lpos.col,.ref c']:=by rw[<-hps];simp
  refine⟨Ck,eP,by rw[hl];exact XI _ _ _ _ _ _ t2,λpos cv q=>?_⟩;rw[hl]at q
  rcases XJ _ t2 q with q|q
  ·obtain⟨a,oa,z1,z2,z3⟩:=t3 pos cv q;exact⟨a,oa,z1,keepO a _ (λ_ z=>by cases z) z2,z3⟩
  ·exact⟨c',oc,q,ec,vs,t,hd,hv⟩
end
def oO:Be->Ev->Option Bh 
 | [],_=>some []
 |i::r,ρ=>match ρ[i]? with
  |some (some d)=>(match oO r ρ with
   |some ds=>some (d::ds)
   |none=>none)
  |_=>none
theorem KC {ρ:Ev}:∀{caps:Be}{ds:Bh},oO caps ρ=some ds->ds.length=caps.length/\∀(i:Nat) (d:Dv),ds[i]?=some d->∃j,caps[i]?=some j/\ρ[j]?=some (some d)
 | [],ds,e=>by unfold oO at e;cases e;exact⟨rfl,λi d e=>by simp at e⟩
 |j::r,ds,e=>by
  unfold oO at e
  split at e
  ·rename_i d0 h0
   split at e
   ·rename_i ds0 h1;cases e;obtain⟨l,k⟩:=KC h1;refine⟨by simp[l],λi d q=>?_⟩
    cases i with
    |zero=>simp at q;subst q;exact⟨j,rfl,h0⟩
    |succ i=>exact k i d (by simpa using q)
   ·cases e
  ·cases e
def iM (base h:cy) (cs:List ai):cy:=PySem.W.hideAll h ((bo h.objs.size).filter λb=>!((base.get? b).isSome||cs.contains b))
theorem CJ {base h:cy}{cs:List ai}{b:ai}{o:Obj}(e:h.get? b=some o) (hb:(∃u,base.get? b=some u)∨b∈cs):(iM base h cs).get? b=some o:=
 zm _ e λz=>by
  have:=(fg.mp z).2
  rcases hb with⟨u,hb⟩|hb
  ·simp[hb]at this
  ·simp[hb]at this
theorem CK {base h:cy}{cs:List ai}{b:ai}{o:Obj}(e:(iM base h cs).get? b=some o):h.get? b=some o/\((∃u,base.get? b=some u)∨b∈cs):=by
 have e1:=Ab _ e;refine⟨e1, ?_⟩
 by_cases hb:(∃u,base.get? b=some u)∨b∈cs
 ·exact hb
 ·exfalso
  have hm:b∈(bo h.objs.size).filter λb=>!((base.get? b).isSome||cs.contains b):=by
   refine fg.mpr ⟨bu.mpr (aq e1), ?_⟩
   cases q:base.get? b with
   |some u=>exact absurd (.inl ⟨u,q⟩) hb
   |none=>have:b∉cs:=λz=>hb (.inr z);simp[this]
  have:=zk (h:=h) _ hm;unfold iM at e;rw[this]at e;cases e
theorem XO {env:Env}{scope:gq}{x:Str}{c:ai}(hf:∀x,(x,bz)∈scope.names->∃c,env.cells.lookup x=some c) (e:(dC env scope.names []).lookup x=some c):(x,bz)∈scope.names/\env.cells.lookup x=some c:=by
 rcases wK _ _ e with q|⟨q1,q2⟩
 ·cases q
 ·obtain⟨c',h'⟩:=hf x q1;rw[h']at q2;subst q2;exact⟨q1,h'⟩
section
variable{k:Nat}{q x:Str}{p pos lpos:Pos}{params:km}{body:bj}{scope:gq}{c P fr:ai}{fdr:bp}{Nl:Bf}{me:M Dv}{n ncl j:Nat}{mb:MS}{caps:Be}
end
section
variable{X:Cx}{G:Cfg}
open Classical in
def eX (H:Hp) (tx:Dt) (u:af):Bool:=decide (∃v t,RelV v u/\Den jW H t v/\bD t tx=true)
open Classical in
theorem KD {H:Hp}{tx t:Dt}{u:af}{v:V}(r:RelV v u) (d:Den jW H t v):eX H tx u=bD t tx:=by
 unfold eX
 cases q:bD t tx with
 |true=>exact decide_eq_true ⟨v,t,r,d,q⟩
 |false=>refine decide_eq_false λ⟨v',t',r',d',q'⟩=>?_;have e:=r'.inj r;subst e;rw[Den.inj t' t v' d' d,q]at q';cases q'
theorem tZ {H:Hp}{tx:Dt}:∀{ts:List Dt}{vs:Hf}{us:List af},Bu jW H ts vs->Bp vs us->us.any (eX H tx)=ts.any λt=>bD t tx
 | [],_,_,d,r=>by rw[Bu]at d;subst d;cases r;rfl
 |t::ts,_,_,d,r=>by
  rw[Bu]at d;obtain⟨v,rr,rfl,d1,d2⟩:=d
  cases r with
  |cons r1 r2=>rw[List.any_cons,List.any_cons,KD r1 d1,tZ d2 r2]
def xQ (K:ao) (neg:Bool):R2:=λx y H Q=>∃a vs ts tx,y=.ref a/\(Cg K H a vs∨Ca K H a vs)/\Bu jW H ts vs/\Den jW H tx x/\(∀t∈ts,eU t<=bZ/\nod t=true)/\nod tx=true/\Q (.bl (if neg then !(ts.any λt=>bD t tx)else ts.any λt=>bD t tx)) H
theorem xR {pins:List (ai×Obj)}{σ:St}{H:Hp}{s:ag}{x:V}{v:af}{vs:Hf}{its:List af}{ts:List Dt}{tx:Dt}(hu:X.A.units+64<cLine) (I:Inv X pins σ H s) (rx:RelV x v) (r:Bp vs its) (d:Bu jW H ts vs) (dx:Den jW H tx x)
  (ht:∀t∈ts,eU t<=bZ/\nod t=true) (nx:nod tx=true):∀y,y∈its.toArray->kr X.A.in1 s y v (eX H tx y):=λy hy=>by
 have hy':y∈its:=by simpa using hy
 obtain⟨j,hj,e⟩:=ux.mp hy';have hl:=r.length;obtain⟨u,eu,ru⟩:=r.get (i:=j) (x:=vs[j]'(by omega)) (ba (by omega));have:u=y:=by rw[ba hj,e]at eu;cases eu;rfl
 subst this;obtain⟨t,et,dt⟩:=d.get (i:=j) (ba (by omega:j<vs.length));obtain⟨h1,h2⟩:=ht t (cq et);rw[KD ru dt];exact(IV I.hok bZ X.A.in1 t tx _ x _ v h1 (by show X.A.units+1+bZ+1<cLine;unfold bZ;omega) h2 nx dt dx ru rx).2
theorem XQ (hu:X.A.units+64<cLine):Cr X (compareOp .In) (xQ X.K false):=by
 intro pins s σ H x y v u Q I r1 r2 ⟨a,vs,ts,tx,e,hs,d,dx,ht,nx,q⟩;subst e;cases r2
 rcases hs with hs|hs
 ·obtain⟨its,r,pl,hz⟩:=I.list hs;refine SeqAt.in_listAt (eX H tx) pl.isList (xR hu I r1 r d dx ht nx) ?_;exact⟨.bl _,H,I,by rw[show its.toArray.any (eX H tx)=its.any (eX H tx)by simp,tZ d r];rfl,q⟩
 ·obtain⟨its,r,pl,hz⟩:=I.tuple hs;refine SeqAt.in_tupleAt (eX H tx) pl (xR hu I r1 r d dx ht nx) ?_;exact⟨.bl _,H,I,by rw[show its.toArray.any (eX H tx)=its.any (eX H tx)by simp,tZ d r];rfl,q⟩
theorem XR (hu:X.A.units+64<cLine):Cr X (compareOp .NotIn) (xQ X.K true):=by
 intro pins s σ H x y v u Q I r1 r2 ⟨a,vs,ts,tx,e,hs,d,dx,ht,nx,q⟩;subst e;cases r2
 rcases hs with hs|hs
 ·obtain⟨its,r,pl,hz⟩:=I.list hs;refine SeqAt.notIn_listAt (eX H tx) pl.isList (xR hu I r1 r d dx ht nx) ?_;exact⟨.bl _,H,I,by rw[show its.toArray.any (eX H tx)=its.any (eX H tx)by simp,tZ d r];rfl,q⟩
 ·obtain⟨its,r,pl,hz⟩:=I.tuple hs;refine SeqAt.notIn_tupleAt (eX H tx) pl (xR hu I r1 r d dx ht nx) ?_;exact⟨.bl _,H,I,by rw[show its.toArray.any (eX H tx)=its.any (eX H tx)by simp,tZ d r];rfl,q⟩
def lN (scr:Bd) (neg:Bool) (x c:Dv) (h:Hs):Rs Dv:=match eW scr c h with
 |some ys=>match bP (bC bZ h) ys,bC bZ h x with
  |some ts,some tx=>.ok (.bl (if neg then !(ts.any λt=>bD t tx)else ts.any λt=>bD t tx)) h
  |_,_=>.bad
 |none=>.bad
theorem KG {μ:Nat->ai}{h:Hs}{H:Hp}(s:Bw G μ h H):∀{xs:Bh}{vs:Hf}{ts:List Dt},RelDL G μ h.length H xs vs->bP (bC bZ h) xs=some ts->Bu jW H ts vs/\∀t∈ts,eU t<=bZ/\nod t=true
 | [],_,_,r,e=>by cases e;rw[RelDL]at r;subst r;exact⟨Bu.nil,λt ht=>by simp at ht⟩
 |x::xs,_,_,r,e=>by
  rw[RelDL]at r;obtain⟨v,rr,rfl,r1,r2⟩:=r;unfold bP at e
  cases q:bC bZ h x with
  |none=>rw[q]at e;cases e
  |some y=>
   rw[q]at e;dsimp only at e
   cases q2:bP (bC bZ h) xs with
   |none=>rw[q2]at e;cases e
   |some ys=>
    rw[q2]at e;cases e;obtain⟨a1,a2,a3⟩:=rA s _ x v y r1 q;obtain⟨b1,b2⟩:=KG s r2 q2;refine⟨Bu.cons a1 b1,λt ht=>?_⟩
    rcases az.mp ht with rfl|ht
    ·exact⟨a2,a3⟩
    ·exact b2 t ht
theorem XS (neg:Bool):fR G (xQ G.K neg) (lN G.scr neg):=by
 intro E μ h H x y vx vy Q s rx ry o;unfold lN at o
 cases q:eW G.scr y h with
 |none=>rw[q]at o;exact o.elim
 |some ys=>
  rw[q]at o;dsimp only at o
  split at o
  ·rename_i ts tx e1 e2;obtain⟨a,vs,rfl,hs,r⟩:=BS s ry q;obtain⟨b1,b2⟩:=KG s r e1;obtain⟨c1,c2,c3⟩:=rA s _ x vx tx rx e2;exact⟨a,vs,ts,tx,rfl,hs,b1,c1,b2,c3,o.val s rfl⟩
  ·exact o.elim
end
section
variable{X:Cx}{G:Cfg}
theorem XT {M:yf}{A:bw}{E:af->ag->Prop}{s:ag}{x:V}{u:af}{b:Bool}{Q:Bool->ag->Prop}(r:RelV x u) (q:Q (decide (x=.bl b)) s):wpAny M A (isSame u (.bool b)) Q E s:=by
 cases x with
 |non=>cases r;exact ah q
 |bl c=>
  cases r;refine ah ?_;have:decide (V.bl c=V.bl b)=(vh c==vh b):=by cases c <;> cases b <;> rfl
  rw[this]at q;exact q
 |int i=>obtain⟨t,rfl⟩:=r;exact ah q
 |str i=>obtain⟨t,rfl⟩:=r;exact ah q
 |byt i=>obtain⟨t,rfl⟩:=r;exact ah q
 |flt i=>obtain⟨t,rfl⟩:=r;exact ah q
 |ref a=>cases r;exact ah q
 |ty n=>cases r;exact ah q
def KH (neg:Bool):R2:=λx y H Q=>∃b,y=.bl b/\Q (.bl (if neg then !decide (x=.bl b)else decide (x=.bl b))) H
theorem XU:Cr X (compareOp .IsNot) (KH true):=by intro pins s σ H x y v u Q I rx ry ⟨b,e,q⟩;subst e;cases ry;exact aa (XT rx (ah ⟨.bl _,H,I,rfl,q⟩))
def xS:Dv->Dv->Option Bool
 | .non,.non=>some true
 |_,.non=>some false
 | .bl a,.bl b=>some (a==b)
 |_,.bl _=>some false
 |_,_=>none
def pQ (neg:Bool) (x y:Dv) (h:Hs):Rs Dv:=match xS x y with
 |some b=>.ok (.bl (if neg then !b else b)) h
 |none=>.bad
def KI (neg:Bool):R2:=λx y H Q=>(y=.non/\Q (.bl (if neg then !decide (x=.non)else decide (x=.non))) H)∨KH neg x y H Q
theorem XW:Cr X (compareOp .IsNot) (KI true):=Cr.or SG XU
theorem XX {μ:Nat->ai}{n:Nat}{H:Hp}{x:Dv}{v:V}{b:Bool}(r:Bo G μ n H x v) (e:xS x .non=some b):decide (v=.non)=b:=by
 cases x with
 |non=>cases e;rw[Bo]at r;subst r;rfl
 |bl c=>cases e;rw[Bo]at r;subst r;rfl
 |int c=>cases e;rw[Bo]at r;subst r;rfl
 |str c=>cases e;rw[Bo]at r;subst r;rfl
 |tup c=>cases e;obtain⟨a,vs,rfl,_⟩:=r;rfl
 |ref c=>cases e;obtain⟨_,rfl⟩:=r;rfl
 |edc=>cases e;obtain⟨a,rfl,_⟩:=r;rfl
 |exc c=>cases e;obtain⟨a,o,u,rfl,_⟩:=r;rfl
 |scr=>cases e;obtain⟨rfl,_⟩:=r;rfl
theorem XY {μ:Nat->ai}{n:Nat}{H:Hp}{x:Dv}{v:V}{b c:Bool}(r:Bo G μ n H x v) (e:xS x (.bl c)=some b):decide (v=.bl c)=b:=by
 cases x with
 |non=>cases e;rw[Bo]at r;subst r;rfl
 |bl d=>cases e;rw[Bo]at r;subst r;cases c <;> cases d <;> rfl
 |int c=>cases e;rw[Bo]at r;subst r;rfl
 |str c=>cases e;rw[Bo]at r;subst r;rfl
 |tup c=>cases e;obtain⟨a,vs,rfl,_⟩:=r;rfl
 |ref c=>cases e;obtain⟨_,rfl⟩:=r;rfl
 |edc=>cases e;obtain⟨a,rfl,_⟩:=r;rfl
 |exc c=>cases e;obtain⟨a,o,u,rfl,_⟩:=r;rfl
 |scr=>cases e;obtain⟨rfl,_⟩:=r;rfl
theorem XZ (neg:Bool):fR G (KI neg) (pQ neg):=by
 intro E μ h H x y vx vy Q s rx ry o;unfold pQ at o
 cases q:xS x y with
 |none=>rw[q]at o;exact o.elim
 |some b=>
  rw[q]at o
  cases y with
  |non=>rw[Bo]at ry;exact .inl ⟨ry,by rw[XX rx q];exact o.val s rfl⟩
  |bl c=>rw[Bo]at ry;exact .inr ⟨c,ry,by rw[XY rx q];exact o.val s rfl⟩
  |_=>cases x <;> cases q
end
def iN (c:M Bool) (body:MS):Nat->MS
 |0=>λ_ _=>.bad
 |f+1=>λρ h=>(c ρ h).thenS λb h1=>if b=true then(match body ρ h1 with
  | .nx ρ2 h2=>iN c body f ρ2 h2
  | .ct ρ2 h2=>iN c body f ρ2 h2
  | .bk ρ2 h2=>.nx ρ2 h2
  |r=>r)else .nx ρ h1
section
variable{c:bj}{body:List ie}{mc:M Bool}{mb:MS}{pos:Pos}
theorem KJ (n:Nat) (hp:yw (model X.prog X.w) X.A X.env X.xe) (hc:gE X G E c mc) (hb:jJ X G E body mb):hJ X G E (.While c body [] pos) (iN mc mb n):=λhK=>PS.imp (RM hp (hc hK) (hb hK)) λD σ H ⟨μ,ρ,h,rs,s,o⟩=>by
 refine⟨λm σ H=>∃μ ρ h,Bs G μ h.length H ρ σ/\Bw G μ h H/\Cp G E μ h.length H (iN mc mb m ρ h) D,⟨n,μ,ρ,h,rs,s,o⟩, ?_⟩
 rintro m σ1 H1 ⟨μ1,ρ1,h1,Cb,s1,o1⟩
 cases m with
 |zero=>exact o1.elim
 |succ m=>
  refine JJ Cb s1 o1 λμ2 b h2 H2 x2 Dl s2 o2=>?_
  cases b with
  |false=>rw[if_neg (by decide)]at o2 ⊢;exact o2 μ2 H2 σ1 Gj s2 Dl
  |true=>
   rw[if_pos rfl]at o2 ⊢;refine⟨λσ' H'=>∃μ ρ h,Bs G μ h.length H' ρ σ'/\Bw G μ h H'/\Cp G E μ h.length H' (iN mc mb m ρ h) D,λσ' H' z=>⟨m,jy m,z⟩,μ2,ρ1,h2,Dl,s2, ?_⟩
   cases q:mb ρ1 h2 with
   |nx ρ3 h3=>rw[q]at o2;exact λμ4 H4 σ4 x4 s4 pD=>⟨μ4,ρ3,h3,pD,s4,Cp.ext o2 x4⟩
   |ct ρ3 h3=>rw[q]at o2;exact λμ4 H4 σ4 x4 s4 pD=>⟨μ4,ρ3,h3,pD,s4,Cp.ext o2 x4⟩
   |bk ρ3 h3=>rw[q]at o2;exact o2
   |rt d h3=>rw[q]at o2;exact o2
   |ex d h3=>rw[q]at o2;exact o2
   |bad=>rw[q]at o2;exact o2.elim
end
section
variable{e o:bj}{mo me:M Dv}{pos apos cpos np p2:Pos}{y:Str}
def xT (x i:Dv) (h:Hs):Rs Dv:=match x,i with
 | .ref j,.int n=>match getL h j with
  |some xs=>match eI xs.length n with
   |some k=>match xs[k]? with
    |some d=>if xs.length<=1000000 then .ok d (h.set j (.lst (xs.eraseIdx k)))else .bad
    |none=>.bad
   |none=>.bad
  |none=>.bad
 |_,_=>.bad
theorem KL {μ:Nat->ai}{n:Nat}{H:Hp}:∀{ds:Bh}{vs:Hf}(k:Nat),RelDL G μ n H ds vs->RelDL G μ n H (ds.eraseIdx k) (vs.eraseIdx k)
 | [],_,_,h=>by rw[RelDL]at h;subst h;exact Ge
 |d::ds,_,0,h=>by rw[RelDL]at h;obtain⟨v,r,rfl,h1,h2⟩:=h;exact h2
 |d::ds,_,k+1,h=>by rw[RelDL]at h;obtain⟨v,r,rfl,h1,h2⟩:=h;exact Gf h1 (KL k h2)
def uA (mo me:M Dv):M Dv:=λρ h=>(mo ρ h).bind λx h1=>if iZ x h1=true then(me ρ h1).bind λd h2=>xT x d h2 else .bad
theorem X0 (ho:aI X G E (.Name y np) mo) (he:aI X G E e me) (hs:aw [e] X.env=[(false,eval e X.env)]:=by rfl) (hl:(apos.endLine==cpos.line)=true:=by rfl):aI X G E (.Call (.Attribute (.Name y np) "pop" apos) [e] [] cpos) (uA mo me):=λhK=>
 Gg (BB rf PySem.F.slot_list_pop PySem.F.type_list_pop UJ (ho hK) (hY (he hK) jG hs) rfl (by rw[hs];rfl) hl hs rfl) λσ H Q ⟨μ,ρ,h,rs,s,oo⟩=>eV rs s oo λμ1 x h1 vx H1 x1 Cb s1 r1 o1=>by
  split at o1
  ·rename_i hl;refine⟨CI s1 r1 hl,eV Cb s1 o1 λμ2 d h2 vd H2 x2 Dl s2 r2 o2=>?_⟩
   cases x with
   |ref j=>
    cases d with
    |int n=>
     dsimp only[xT]at o2
     cases q:getL h2 j with
     |none=>rw[q]at o2;exact o2.elim
     |some xs=>
      rw[q]at o2;dsimp only at o2
      cases q2:eI xs.length n with
      |none=>rw[q2]at o2;exact o2.elim
      |some k=>
       rw[q2]at o2;dsimp only at o2
       cases q3:xs[k]? with
       |none=>rw[q3]at o2;exact o2.elim
       |some d'=>
        rw[q3]at o2;dsimp only at o2
        split at o2
        ·rename_i hz;obtain⟨vs,ea,ra⟩:=s2.ob j _ (cW q);obtain⟨_,rfl⟩:=Gi x2 _ _ r1;rw[Bo]at r2;subst r2;obtain⟨v,ev,rv⟩:=ra.get q3;obtain⟨i1,i2,i3,i4⟩:=A5 q2;obtain⟨x3,s3⟩:=s2.write (cW q) (KL k ra);exact⟨_,vs,n,k,v,rfl,rfl,ea,by omega,by omega,by rw[ra.length];exact i1,ev,o2 μ2 _ _ x3 s3 (Gi x3 _ _ rv)⟩
        ·exact o2.elim
    |_=>exact o2.elim
   |_=>exact o2.elim
  ·exact o1.elim
def kA (xs:Bh) (lo hi:Option Int):Bh:=(xs.drop (HT.sIx xs.length 0 lo)).take (HT.sIx xs.length xs.length hi - HT.sIx xs.length 0 lo)
theorem KN {μ:Nat->ai}{n:Nat}{H:Hp}{xs:Bh}{vs:Hf}(r:RelDL G μ n H xs vs) (lo hi:Option Int):RelDL G μ n H (kA xs lo hi) (oC vs lo hi):=by unfold kA oC;rw[r.length];exact(r.drop _).take _
abbrev MO:=Ev->Hs->Rs (Option Int)
def X1 (G:Cfg) (E:XK) (m:MO):TO:=λσ H Q=>∃μ ρ h,Bs G μ h.length H ρ σ/\Bw G μ h H/\Out G E μ h.length H (m ρ h) (λ_ _ _ a b=>b=a) Q
def uB (X:Cx) (G:Cfg) (E:XK) (pe:Option bj) (m:MO):Prop:=X.K=G.K->PO X pe (X1 G E m)
theorem PO.imp {pe:Option bj}{t t':TO}(h:PO X pe t) (i:∀σ H Q,t' σ H Q->t σ H Q):PO X pe t':=λpins s σ H Q I q=>h pins s σ H Q I (i σ H Q q)
def gI:MO:=λ_ h=>.ok none h
def rP:Dv->Hs->Rs (Option Int)
 | .int i,h=>.ok (some i) h
 |_,_=>.bad
def fS (m:M Dv):MO:=λρ h=>(m ρ h).bind rP
theorem nA:uB X G E none gI:=λ_=>PO.imp TN λσ H Q ⟨μ,ρ,h,rs,s,oo⟩=>oo.val s rfl
theorem lO (he:aI X G E e me):uB X G E (some e) (fS me):=λhK=>PO.imp (TQ (he hK)) λσ H Q ⟨μ,ρ,h,rs,s,oo⟩=>eV rs s oo λμ1 d h1 v H1 x1 Cb s1 r1 o1=>by
 cases d with
 |int i=>exact⟨i,r1,o1.val s1 rfl⟩
 |_=>exact o1.elim
end
section
variable{pos:Pos}
theorem KO:aI X G E (.Dict [] [] pos) (mC .edc):=λ_ pins s σ H Q I ⟨μ,ρ,h,rs,sm,o⟩=>by have hb:sysModules<s.heap.objs.size:=Nat.lt_trans (by decide) (I.mod.glob.keeps I.bk).lt;have hn:=I.hok.fresh (ak s.heap.objs.size);refine wpAny_Dict_empty ⟨.ref s.heap.objs.size,_,I.laid (a:=s.heap.objs.size) (o:=.dK []) (t':=s.toks) (λ_ _ q=>aj _ q) (ak _) ⟨gr _,beq_eq_false_iff_ne.mpr (de (ay hb)),[],.nil,Heap.DictOf.new s.heap⟩,rfl, ?_⟩;exact o μ _ _ (F' (cK hn)) (sm.same (cK hn)) ⟨_,rfl,cR⟩
theorem X2 {x:Str}{i:Int}{t:Tok}(hg:Gl X x) (hm:X.mg x=some (.int i t)) (hd:(x==He)=false:=by decide):aI X G E (.Name x pos) (mC (.int i)):=λ_=>Gg (GL (v:=.int i) hg hm ⟨t,rfl⟩ hd) λσ H Q ⟨μ,ρ,h,rs,s,o⟩=>o.val s (show Bo G μ _ H (.int i) (.int i) from rfl)
def nB:Dv->Hs->Rs Dv
 | .int i,h=>.ok (.int (-i)) h
 |_,_=>.bad
theorem X3:mU G (rU λi=>.int (-i)) nB:=by
 intro E μ h H x vx Q s r o
 cases x with
 |int i=>rw[Bo]at r;subst r;exact⟨i,rfl,o.val s rfl⟩
 |_=>exact o.elim
end
section
variable{tg a b c:bj}{p pos:Pos}{ms:M Bh }
end
structure Lawful (lp:bh) (w:cj) (K:ao) (mg:Str->Option af) (base:cy) (k:Nat) (fa:ai) (fd:bp) (x:Str) (P a:ai) (ns:Bd):Prop where
 ex:∃(G:Cfg) (lawF:Bg) (hh:Hs),G.K=K/\G.scr=ns/\G.sa=a/\G.tab=some P/\lawF [.scr] []=.ok (.bl true) hh/\Bt lp w K mg base (bN lp w base) k fa fd [x] (cU G lawF)
theorem KQ {lp:bh}{w:cj}{K:ao}{mg mb:Str->Option af}{k:Nat}{fa a c P:ai}{fd:bp}{x:Str}{s₁:ag}{vs:List af}{ns:Bd}
  (KX:K.In s₁.heap) (hns:s₁.heap.Ns di mg) (hb:s₁.heap.Ns builtinsNs mb) (hbb:∀x:Str,x ≠ "__name__"->mb x=dy x) (hlim:s₁.heap.NoLimit) (hg:s₁.gens=#[])
  (ha:s₁.heap.get? a=some { cls:=.type "list",data:=.seq vs.toArray }) (hi:lg vs ns) (hl:ns.length<=cb) (hr:Ce k callerA)
  (hC:mf s₁.heap c P) (hP:s₁.heap.get? P=some (uk #[])) (hB:lM mg s₁.heap) (hnt:PySem.W.noTabs K=true)
  (F:∀base:cy,K.In base->base.Ns di mg->mf base c P->lM mg base->Lawful lp w K mg base k fa fd x P a ns) (hbind:∀(s:ag) (u:af),zq s fd ⟨[u],[]⟩ [(x,u)]):
  codeAny (model lp w) callerA (.call (.ref fa) ⟨[.ref a],[]⟩) (λr s'=>r=.ok (.ret (.bool true))/\OldK s₁.heap s'.heap/\s'.os=s₁.os/\ua s'.gens) s₁:=by
 have rv:=tG hi;have lenV:=hi.length;have KP:K.lookup P=none:=by
  cases q:K.lookup P with
  |none=>rfl
  |some o=>have e:=KX P o q;rw[hP]at e;cases e;have:=ey.mp hnt (P,uk #[]) (PySem.W.mem_of_lookupK q);exact absurd (show false=true from this) gy
 have aP:a≠P:=λz=>by rw[z,hP]at ha;cases ha
 have core:∀H:Hp,H P=some (.tbl #[])->FzL K H a (ns.map Gh)->Cw lp w H s₁.heap->(∀b,H b≠none->b=a∨b=P)->(H a≠none->K.lookup a=none)->(∀u,H a=some u->∃o xs,u=.frz o (.lst xs))->
   codeAny (model lp w) callerA (.call (.ref fa) ⟨[.ref a],[]⟩) (λr s'=>r=.ok (.ret (.bool true))/\OldK s₁.heap s'.heap/\s'.os=s₁.os/\ua s'.gens) s₁:=by
  intro H hHP hS hok hA hK hF;have base_of:∀{b:ai}{o:Obj},s₁.heap.get? b=some o->H b=none->(kM s₁.heap H).get? b=some o:=λe n=>QJ e n;have none_of:∀{b:ai},b≠a->b≠P->H b=none:=λ{b} h1 h2=>by
   cases q:H b with
   |none=>rfl
   |some u=>exact((hA b (by rw[q];simp)).elim h1 h2).elim
  have noD:∀{b:ai}{o:Obj}{es:Array DictEntry}{ep:Nat},s₁.heap.get? b=some o->o.data=.dict es ep->H b=none:=λ{b o es ep} e d=>none_of (λz=>by
    subst z;rw[ha]at e;cases e;have d':Data.seq vs.toArray _=Data.dict es ep:=d
    cases d') (λz=>by
    subst z;rw[hP]at e;cases e;have d':Data.fields _=Data.dict es ep:=d
    cases d')
  have nsK:∀{b:ai}{m:Str->Option af},s₁.heap.Ns b m->(kM s₁.heap H).Ns b m:=λ{b m} ⟨o,es,ep,e,d,r⟩=>⟨o,es,ep,base_of e (noD e d),d,r⟩
  have hKb:K.In (kM s₁.heap H):=λb o e=>base_of (KX b o e) (by
   cases q:H b with
   |none=>rfl
   |some u=>
    rcases hA b (by rw[q];simp)with z|z
    ·subst z;rw[hK (by rw[q];simp)]at e;cases e
    ·subst z;rw[KP]at e;cases e)
  have hM:Mod K mg (kM s₁.heap H):=⟨hKb,nsK hns,⟨mb,nsK hb,hbb⟩,let ⟨mc,h1,h2⟩:=hlim;⟨mc,nsK h1,h2⟩⟩
  have hCb:mf (kM s₁.heap H) c P:=by obtain⟨o,Cs,file,tf,flags,tg,inF,text,tt,e1,r1,r⟩:=hC;refine⟨o,Cs,file,tf,flags,tg,inF,text,tt,base_of e1 (none_of (λz=>?_) r.2.2.2.2.2.2.2),r1,r⟩;subst z;rw[ha]at e1;cases e1;exact absurd r1 (by intro w;injection w with w;exact absurd w (by decide))
  have hBb:lM mg (kM s₁.heap H):=by
   obtain⟨bm,ob,b1,b2,b3,b4,b5,b6⟩:=hB;refine⟨bm,ob,b1,b2,base_of b3 (none_of (λz=>?_) (λz=>?_)),b4,b5,b6⟩
   ·subst z;rw[ha]at b3;cases b3;exact absurd b4 (by intro w;injection w with w;exact absurd w (by decide))
   ·subst z;rw[hP]at b3;cases b3;cases b4
  have e0:Env0 lp w K mg (kM s₁.heap H) callerA [] s₁ H:=⟨rfl,hM,λb o e=>QK e,qi (QI _ _),trivial,λb hb=>absurd (show b∈([]:List ai) from hb) (by simp),hok,.of_eq hg⟩
  obtain⟨G,lawF,hh,g1,g2,g3,g4,hlaw,Fn⟩:=(F _ hKb (nsK hns) hCb hBb).ex;have rd:RelDL G (λ_=>0) 0 H [.scr] [.ref a]:=by refine Gf ?_ Ge;rw[Bo,g1,g2,g3];exact⟨rfl,hS⟩
  have sm:Bw G (λ_=>0) [] H:=⟨λi j h1=>absurd h1 (by simp),λi o q=>by simp at q,λP' e=>by
   rw[g4]at e;cases e;exact⟨#[],hHP,trivial,λpos cv q=>by
    have q':(none:Option af)=some cv:=q
    cases q'⟩⟩
  refine qu (Fn.run callerA [] s₁ H ⟨[.ref a],[]⟩ [.ref a] [.ref a] (λv _=>v=.bl true) (λ_ _ _=>False) hr e0 (hbind s₁ (.ref a)) (.cons rfl .nil) ⟨λ_=>0,[],[.scr],rd,sm, ?_⟩) λr s' h=>?_
  ·rw[hlaw];exact λμ' H' v _ _ r=>r
  cases r with
  |error e=>obtain⟨_,_,_,_,_,_,_,_,_,z⟩:=h;exact z.elim
  |ok fl=>
   cases fl with
   |next=>exact je h
   |brk=>exact je h
   |cont=>exact je h
   |ret u=>
    obtain⟨v,H',os,bare,un,hok',r',q⟩:=h;have q':v=.bl true:=q;subst q';obtain rfl:u=vh true:=r';have kept:∀b o,b≠P->s₁.heap.get? b=some o->s'.heap.get? b=some o:=λb o hbP e=>by
     cases q:H b with
     |none=>exact un.keep b o e q (by intro z;exact absurd (show b∈([]:List ai) from z) (by simp)) (by simp)
     |some u=>
      rcases hA b (by rw[q];simp)with z|z
      ·subst z;obtain⟨ob,xs,rfl⟩:=hF u q;have z2:=un.frzs b ob _ q;obtain⟨e1,_⟩:=hok b _ q;obtain⟨e2,_⟩:=hok' b _ z2;rw[e]at e1;cases e1;exact e2
      ·exact absurd z hbP
    obtain⟨more,hm⟩:=un.tbls P #[] hHP;have gP:s'.heap.get? P=some (uk (#[]++more)):=hok' P _ hm;refine⟨rfl,⟨λb o e=>?_,λb o e=>?_⟩,os,bare⟩
    ·by_cases hb:b=P
     ·subst hb;rw[hP]at e;cases e;exact .inr (.inl ⟨(hC.tab hP).isCodeTable,rfl,#[],more,rfl,gP⟩)
     ·exact .inl (kept b o hb e)
    ·by_cases hb:b=P
     ·subst hb;exact⟨_,gP⟩
     ·exact⟨_,kept b o hb e⟩
 cases hk:K.lookup a with
 |some o=>
  have e:=KX a o hk;rw[ha]at e;cases e;refine core (λb=>if b=P then some (.tbl #[])else none) (if_pos rfl) (.inr ⟨_,vs.toArray,_,hk,rfl,rfl,rfl,by rw[av,lenV];exact hl,by simpa using rv⟩) (λb u z=>?_) (λb z=>?_) (λz=>absurd (if_neg aP) z) (λu z=>?_)
  ·by_cases hb:b=P
   ·have z':=(if_pos hb).symm.trans z;cases z';subst hb;exact hP
   ·have z':=(if_neg hb).symm.trans z;cases z'
  ·by_cases hb:b=P
   ·exact .inr hb
   ·exact absurd (if_neg hb) z
  ·have z':=(if_neg aP).symm.trans z;cases z'
 |none=>
  have ea:(λb=>if b=a then some (HO.frz { cls:=.type "list",data:=.seq vs.toArray } (.lst (ns.map Gh)))else if b=P then some (.tbl #[])else none) a=some (.frz { cls:=.type "list",data:=.seq vs.toArray } (.lst (ns.map Gh))):=if_pos rfl;refine core (λb=>if b=a then some (.frz { cls:=.type "list",data:=.seq vs.toArray } (.lst (ns.map Gh)))else if b=P then some (.tbl #[])else none) ((if_neg (de aP)).trans (if_pos rfl)) (.inl ⟨{ cls:=.type "list",data:=.seq vs.toArray },ea⟩) (λb u z=>?_) (λb z=>?_) (λ_=>hk) (λu z=>?_)
  ·by_cases hb:b=a
   ·have z':=(if_pos hb).symm.trans z;cases z';subst hb;exact⟨ha,by rw[bg];exact hl,vs,_,rv,ha⟩
   ·have z':=(if_neg hb).symm.trans z
    by_cases Eu:b=P
    ·have z2:=(if_pos Eu).symm.trans z';cases z2;subst Eu;exact hP
    ·have z2:=(if_neg Eu).symm.trans z';cases z2
  ·by_cases hb:b=a
   ·exact .inl hb
   ·by_cases Eu:b=P
    ·exact .inr Eu
    ·exact absurd ((if_neg hb).trans (if_neg Eu)) z
  ·have z':=ea.symm.trans z;cases z';exact⟨_,_,rfl⟩
theorem jB {α:Type}{P:List α->Prop}(h:∀a,P [a]):∀us:List α,us.length=1->P us
 | [a],_=>h a
theorem iO {α:Type}{P:List α->Prop}(h:∀a b,P [a,b]):∀us:List α,us.length=2->P us
 | [a,b],_=>h a b
theorem X4 {α:Type}{P:List α->Prop}(h:∀a b c,P [a,b,c]):∀us:List α,us.length=3->P us
 | [a,b,c],_=>h a b c
theorem kB {P:Nat->Bool->Prop}:∀c b,List.lookup c ([]:List (Nat×Bool))=some b->P c b:=λ_ _ h=>nomatch h
theorem kC {P:Nat->Bool->Prop}{x:Nat}{y:Bool}{l:List (Nat×Bool)}(h:P x y) (hl:∀c b,l.lookup c=some b->P c b):∀c b,List.lookup c ((x,y)::l)=some b->P c b:=λc b e=>by
 rw[iw]at e
 cases q:c==x with
 |true=>rw[q]at e;exact eq_of_beq q▸(cn e)▸h
 |false=>rw[q]at e;exact hl c b e
theorem X5 {P:Nat->Prop}:∀c,c<0->P c:=λc h=>absurd h (Nat.not_lt_zero c)
theorem kT {P:Nat->Prop}{n:Nat}(h0:P 0) (h:∀c,c<n->P (c+1)):∀c,c<n+1->P c
 |0,_=>h0
 |c+1,hc=>h c (Nat.lt_of_succ_lt_succ hc)
open PySem.Calls
abbrev Ys {β:Type}(ob:Frag->β) (obE:β):cj->cy->Prop:=λ_ h=>∃K:Frag,K.In h/\noTabs K=true/\ob K=obE
theorem ys_of {β:Type}{ob:Frag->β}{obE:β}:∀(w:cj) (s:ag),ob (sY s.heap)=obE->Ys ob obE w s.heap:=λ_ s e=>⟨sY s.heap,vU _ _,vV _ _,e⟩
theorem ys_keeps {β:Type}{ob:Frag->β}{obE:β}:∀(w:cj) (h h':cy),Ys ob obE w h->(∀b o,h.get? b=some o->h'.get? b=some o)->Ys ob obE w h':=λ_ _ _ ⟨K,x,n,e⟩ k=>⟨K,x.keeps k,n,e⟩
theorem z5x {β:Type}{ob:Frag->β}{obE:β}{l:OpenLaw}{n k:Nat}{q:bh}{loose:Bf}{XP:(Str->Option af)->cy->Prop}{d:DefRec}{x:Str}
  (hn:l.most=some n) (hn2:n<=cb) (hdf:d.params.defaults=[]) (hr:Ce k callerA) (hfind:(recsOf q).find? (λe=>e.name==d.name)=some d)
  (F:∀(K:Frag) (w:cj) (mg:Str->Option af) (fa:ai) (h:cy),ob K=obE->noTabs K=true->K.In h->h.Ns di mg->mg d.name=some (.ref fa)->
   ∃(fd:bp) (c P:ai),(∀(s:ag) (u:af),zq s fd ⟨[u],[]⟩ [(x,u)])/\tabIn K d.name=some (c,P)/\noTabs K=true /\
    ∀(base:cy) (a:ai) (ns:Bd),ns.length<=n->K.In base->base.Ns di mg->CodeHd base c P->lM mg base->Lawful l.prog w K mg base k fa fd x P a ns):
  WalkO q loose XP (Ys ob obE) l.row.toRowW d [] (λf vs=>Aw f vs):=by
 refine Att.attach_call hn hdf λw s₀ s₁ mg mb fa o pm cd doc a vs ns G Y ho hd hcd hmg hobj hints hlen hg=>?_;obtain⟨K,KX,hnt',hob⟩:=Y;obtain⟨fd,c,P,hb,ht,hnt,hF⟩:=F K w mg fa _ hob hnt' KX G.T.g hmg;obtain⟨hC,hP⟩:=tab_of G.T KX hfind ht;exact KQ KX G.T.g G.T.b G.T.builtins G.T.nolimit hg hobj hints (cz hlen hn2) hr hC hP G.T.bmain hnt (λbase h1 h2 h3 h4=>hF base a ns hlen h1 h2 h3 h4) hb
theorem X6 {K:Frag}{f c:ai}{st:ie}{n:Str}{ps:Bf}(h:cY K f=some (fnOf n n (oD st) (hZ st) (aT st) .none .none .none .none none (.ref c) .none)) (hc:codeIn K (.ref c) n=true) (hk:keepIn K (.ref f)=true)
  (hb:∀(kV doc pm:af) (an:Option ai) (cdv ct:af) (us:List af),us.length=ps.length->bindArgs (fnOf n n (oD st) (hZ st) (aT st) .none kV doc pm an cdv ct) ⟨us,[]⟩=pure (ps.zip us)):
  ∃fd:bp,Cy K n n st f fd/\Binds K fd ps []/\fd.code=.ref c/\∀us:List af,us.length=ps.length->bindArgs fd ⟨us,[]⟩=pure (ps.zip us):=by
 obtain⟨oc,od,kV,dc,pm,an,ct,sl,e⟩:=P4 h;exact⟨_,HZ e hc hk,(HZ e hc hk).binds hb,rfl,hb kV dc pm an (.ref c) ct⟩
theorem walkK2 {β:Type}{ob:Frag->β}{obE:β}{l:OpenLaw}{n k:Nat}{q:bh}{loose:Bf}{XP:(Str->Option af)->cy->Prop}{d:DefRec}{x:Str}(nm:Str)
  (hn:l.most=some n) (hn2:n<=cb) (hdf:d.params.defaults=[]) (hr:Ce k callerA) (hfind:∃d2:DefRec,(recsOf q).find? (λe=>e.name==nm)=some d2/\d2.name=nm)
  (F:∀(K:Frag) (w:cj) (mg:Str->Option af) (fa:ai) (h:cy),ob K=obE->noTabs K=true->K.In h->h.Ns di mg->mg d.name=some (.ref fa)->
   ∃(fd:bp) (c P:ai),(∀(s:ag) (u:af),zq s fd ⟨[u],[]⟩ [(x,u)])/\tabIn K nm=some (c,P)/\noTabs K=true /\
    ∀(base:cy) (a:ai) (ns:Bd),ns.length<=n->K.In base->base.Ns di mg->CodeHd base c P->lM mg base->Lawful l.prog w K mg base k fa fd x P a ns):
  WalkO q loose XP (Ys ob obE) l.row.toRowW d [] (λf vs=>Aw f vs):=by
 refine Att.attach_call hn hdf λw s₀ s₁ mg mb fa o pm cd doc a vs ns G Y ho hd hcd hmg hobj hints hlen hg=>?_;obtain⟨K,KX,hnt',hob⟩:=Y;obtain⟨fd,c,P,hb,ht,hnt,hF⟩:=F K w mg fa _ hob hnt' KX G.T.g hmg;obtain⟨d2,hf,hnm⟩:=hfind;have hf':(recsOf q).find? (λe=>e.name==d2.name)=some d2:=by rw[hnm];exact hf
 obtain⟨hC,hP⟩:=tab_of G.T KX hf' (by rw[hnm];exact ht);exact KQ KX G.T.g G.T.b G.T.builtins G.T.nolimit hg hobj hints (cz hlen hn2) hr hC hP G.T.bmain hnt (λbase h1 h2 h3 h4=>hF base a ns hlen h1 h2 h3 h4) hb
theorem dB {F:List (Frag->Bool)}{K:Frag}(h:F.all (λf=>f K)=true) (i:Nat) {g:Frag->Prop}[∀K,Decidable (g K)] (e:F[i]?=some (λK=>decide (g K)):=by rfl):g K:=dA h i e
theorem cM {K:Frag}{h:cy}{mg:Str->Option af}{n:Str}{v:af}{F:List (Frag->Bool)}(X:K.In h) (G:h.Ns di mg) (hc:F.all (λf=>f K)=true) (i:Nat) (e:F[i]?=some (λK=>decide (nsIn K di n=some (some v))):=by rfl):mg n=some v:=mg_of X G (dA hc i e)
theorem CL {env:Env}{x:Str}:∀{l:List (Str×lh)},l.lookup x=some .free->(l.map λ(n,k)=>if(k==bz&&env.scope.kind==.function&&env.kindOf n==some .cell)then(n,du)else(n,k)).lookup x≠some .local
 | [],h=>by simp at h
 |(n,q)::r,h=>by
  rw[iw]at h;rw[da]
  cases e:x==n with
  |true=>
   rw[e]at h;have hq:q=.free:=cn h;subst hq;dsimp only
   split
   ·rw[iw,e];simp
   ·rw[iw,e];simp
  |false=>
   rw[e]at h;dsimp only
   split
   ·rw[iw,e];exact CL h
   ·rw[iw,e];exact CL h
theorem X7 {X:Cx}{sc os:gq}{oN N:Bf}{cap:List (Option Nat)}(hs:X.env.scope.names=os.names) (hN:X.N=oN) (h1:sc.kind=.function) (h2:∀p∈sc.names,p.2=.local->sc.names.lookup p.1=some .local) (h3:cap.length=N.length)
  (h4:∀p∈sc.names,p.2=.free->os.names.lookup p.1=some .cell∨os.names.lookup p.1=some .free) (h5:∀p∈sc.names,p.2=.free->(p.1,du)∉sc.names) (h6:∀q∈cap.zip N,∀j∈q.1,oN[j]?=some q.2/\sc.names.lookup q.2=some .free):Ci X sc N cap:=by
 refine⟨h1,h2,h3,λx hx=>?_,λx hx=>h5 _ hx rfl,λi j x e1 e2=>?_⟩
 ·have:=h4 _ hx rfl;rw[<-hs]at this;exact this
 ·have hm:(some j,x)∈cap.zip N:=cq (i:=i) (nj.mpr ⟨e1,e2⟩);obtain⟨a,b⟩:=h6 _ hm j rfl;rw[hN];refine⟨a,fw b, ?_⟩;exact CL b
def nE:Dv->Dv->Hs->Rs Dv:=iH λi j=>.int (i - j)
def pR:Dv->Dv->Hs->Rs Dv:=lG xA λi j=>.int (i*j)
def lQ:Dv->Dv->Hs->Rs Dv:=lG rD λi j=>.int (i % j)
def oP:Dv->Dv->Hs->Rs Dv:=lG tO λi j=>.int (i ^ j.toNat)
def rQ:Dv->Dv->Hs->Rs Dv:=iH λi j=>.bl (decide (i<=j))
def jN:Dv->Dv->Hs->Rs Dv:=iH λi j=>.bl (decide (i>j))
def xU:Dv->Dv->Hs->Rs Dv:=iH λi j=>.bl (decide (i>=j))
section
variable{k:Nat}{a b:bj}{ma mb:M Dv}{pos:Pos}
theorem CM (ha:aI X G E a ma) (hb:aI X G E b mb):aI X G E (.BinOp a .Sub b pos) (m2 nE ma mb):=pF R6 VH ha hb
theorem uC (ha:aI X G E a ma) (hb:aI X G E b mb):aI X G E (.BinOp a .Mult b pos) (m2 pR ma mb):=pF R7 (wZ VI) ha hb
theorem rR (ha:aI X G E a ma) (hb:aI X G E b mb):aI X G E (.BinOp a .Mod b pos) (m2 lQ ma mb):=pF R8 (wZ VJ) ha hb
theorem CN (ha:aI X G E a ma) (hb:aI X G E b mb):aI X G E (.BinOp a .Pow b pos) (m2 oP ma mb):=pF R9 (wZ VL) ha hb
theorem CO (ha:aI X G E a ma):aI X G E (.UnaryOp .USub a pos) (m1 nB ma):=VB SD X3 ha
theorem X8 (ha:aI X G E a ma) (hb:aI X G E b mb):aI X G E (.Compare a [.Gt] [b] pos) (m2 jN ma mb):=wX G1 rB ha hb (mR _)
theorem oQ (g:Good X G E k) (ha:aI X G E a ma) (hb:aI X G E b mb):aI X G E (.Compare a [.Eq] [b] pos) (m2 bT ma mb):=wX (IZ g.room.units) JA ha hb (mR _)
theorem KR (ha:aI X G E a ma) (hb:aI X G E b mb):gE X G E (.Compare a [.Gt] [b] pos) (mB (m2 jN ma mb)):=pG G1 rB ha hb (mR _)
theorem X9 (ha:aI X G E a ma) (hb:aI X G E b mb):gE X G E (.Compare a [.GtE] [b] pos) (mB (m2 xU ma mb)):=pG SF rB ha hb (mR _)
theorem pS (g:Good X G E k) (ha:aI X G E a ma) (hb:aI X G E b mb):gE X G E (.Compare a [.Eq] [b] pos) (mB (m2 bT ma mb)):=pG (IZ g.room.units) JA ha hb (mR _)
theorem lR (g:Good X G E k) (ha:aI X G E a ma) (hb:aI X G E b mb):gE X G E (.Compare a [.NotEq] [b] pos) (mB (m2 cD ma mb)):=pG (VF g.room.units) VG ha hb (mR _)
variable{c:bj}{mc:M Dv}
theorem YA (ha:aI X G E a ma) (hb:aI X G E b mb) (hc:aI X G E c mc) (hm:lastMarks [.LtE,.LtE] [b,c]=false:=by with_unfolding_all rfl):aI X G E (.Compare a [.LtE,.LtE] [b,c] pos) (qZ rQ rQ ma mb mc):=VA GZ GZ rB rB ha hb hc hm
end
def oR:Ty->Option Bool
 | .bl=>some true | .int=>some true | .exc _=>none|_=>some false
def kD:Ty->Option Bool
 | .bl=>some true | .exc _=>none|_=>some false
def eY:Ty->Option Bool
 | .tup=>some true | .exc _=>none|_=>some false
def nF:Ty->Option Bool
 | .lst=>some true | .exc _=>none|_=>some false
def oS:Ty->Option Bool
 | .tup=>some true | .lst=>some true | .exc _=>none|_=>some false
section
variable{K:ao}{cl:Nat->ai}
theorem YB:∀ty bb,oR ty=some bb->dh K (lK cl ty) (.type "int")=some bb:=by intro ty bb h;cases ty <;> first|(cases h;rfl)|cases h
theorem YC:∀ty bb,kD ty=some bb->dh K (lK cl ty) (.type "bool")=some bb:=by intro ty bb h;cases ty <;> first|(cases h;rfl)|cases h
theorem YD:∀ty bb,eY ty=some bb->dh K (lK cl ty) (.type "tuple")=some bb:=by intro ty bb h;cases ty <;> first|(cases h;rfl)|cases h
theorem YE:∀ty bb,nF ty=some bb->dh K (lK cl ty) (.type "list")=some bb:=by intro ty bb h;cases ty <;> first|(cases h;rfl)|cases h
theorem YF:∀ty bb,oS ty=some bb->PySem.W.kitAny K (lK cl ty) [.type "tuple",.type "list"]=some bb:=by intro ty bb h;cases ty <;> first|(cases h;rfl)|cases h
end
theorem YG:dy "int" = some (.type "int"):=by decide +kernel
theorem YH:dy "bool" = some (.type "bool"):=by decide +kernel
theorem YI:dy "ValueError" = some (.type "ValueError"):=by decide +kernel
def eO (nn:Option Bool) (tbl:List (Nat×Bool)):Ty->Option Bool
 | .exc c=>tbl.lookup c
 | .non=>nn
 |_=>none
section
variable{a:bj}{ma:M Dv}{p q r pos:Pos}
theorem KS (hg:Gl X "isinstance") (hm:X.mg "isinstance" = none) (Fb:Gl X "int") (Ex:X.mg "int" = none) (ha:aI X G E a ma) (he:aw [a,.Name "int" q] X.env=[(false,eval a X.env),(false,eval (.Name "int" q) X.env)]:=by rfl):
  aI X G E (.Call (.Name "isinstance" p) [a,.Name "int" q] [] pos) (m1 (aV oR) ma):=rK hg hm ha (pO Fb Ex YG) (.inl ⟨_,rfl⟩) rfl YB (λc bb h=>by cases h) he
theorem xV (hg:Gl X "isinstance") (hm:X.mg "isinstance" = none) (Fb:Gl X "bool") (Ex:X.mg "bool" = none) (ha:aI X G E a ma) (he:aw [a,.Name "bool" q] X.env=[(false,eval a X.env),(false,eval (.Name "bool" q) X.env)]:=by rfl):
  aI X G E (.Call (.Name "isinstance" p) [a,.Name "bool" q] [] pos) (m1 (aV kD) ma):=rK hg hm ha (pO Fb Ex YH) (.inl ⟨_,rfl⟩) rfl YC (λc bb h=>by cases h) he
theorem rS (hg:Gl X "isinstance") (hm:X.mg "isinstance" = none) (Fb:Gl X "tuple") (Ex:X.mg "tuple" = none) (ha:aI X G E a ma) (he:aw [a,.Name "tuple" q] X.env=[(false,eval a X.env),(false,eval (.Name "tuple" q) X.env)]:=by rfl):
  aI X G E (.Call (.Name "isinstance" p) [a,.Name "tuple" q] [] pos) (m1 (aV eY) ma):=rK hg hm ha (pO Fb Ex BR) (.inl ⟨_,rfl⟩) rfl YD (λc bb h=>by cases h) he
theorem KU (hg:Gl X "isinstance") (hm:X.mg "isinstance" = none) (Fb:Gl X "list") (Ex:X.mg "list" = none) (ha:aI X G E a ma) (he:aw [a,.Name "list" q] X.env=[(false,eval a X.env),(false,eval (.Name "list" q) X.env)]:=by rfl):
  aI X G E (.Call (.Name "isinstance" p) [a,.Name "list" q] [] pos) (m1 (aV nF) ma):=rK hg hm ha (pO Fb Ex xB) (.inl ⟨_,rfl⟩) rfl YE (λc bb h=>by cases h) he
theorem YJ:∀us',Bp [.ty "tuple",.ty "list"] us'->us'=[.type "tuple",.type "list"]:=by
 intro us' h
 cases h with
 |cons r rr=>
  cases rr with
  |cons r' rr=>
   cases rr
   cases r;cases r'
   rfl
theorem YK {kt:Nat}{p':Pos}(hg:Gl X "isinstance") (hm:X.mg "isinstance" = none) (Fb:Gl X "tuple") (Ex:X.mg "tuple" = none) (hg'':Gl X "list") (hm'':X.mg "list" = none) (ha:aI X G E a ma)
  (he:aw [a,.Tuple [.Name "tuple" q,.Name "list" r] kt p] X.env=[(false,eval a X.env),(false,eval (.Tuple [.Name "tuple" q,.Name "list" r] kt p) X.env)]:=by rfl):
  aI X G E (.Call (.Name "isinstance" p') [a,.Tuple [.Name "tuple" q,.Name "list" r] kt p] [] pos) (m1 (aV oS) ma):=
 WM (cs:=[.ty "tuple",.ty "list"]) hg hm ha (hY (pO Fb Ex BR) (hY (pO hg'' hm'' xB) jG)) (by decide) YJ YF (λc bb h=>by cases h) he
theorem kU {x:Str}{C:ai}{nn:Option Bool}{tbl:List (Nat×Bool)}(hg:Gl X "isinstance") (hm:X.mg "isinstance" = none) (Fb:Gl X x) (Ex:X.mg x=some (.ref C)) (ha:aI X G E a ma)
  (hn:∀b,nn=some b->dh G.K (.type "NoneType") (.ref C)=some b) (ht:∀c b,tbl.lookup c=some b->dh G.K (.ref (G.cl c)) (.ref C)=some b/\Du G.K (G.cl c)) (hd:(x==He)=false:=by decide)
  (he:aw [a,.Name x q] X.env=[(false,eval a X.env),(false,eval (.Name x q) X.env)]:=by rfl) (Ec:aw [.Name x q] X.env=[(false,eval (.Name x q) X.env)]:=by rfl):
  aI X G E (.Call (.Name "isinstance" p) [a,.Name x q] [] pos) (m1 (aV (eO nn tbl)) ma):=
 rK hg hm ha (GL (v:=.ref C) Fb Ex rfl hd) (.inr ⟨_,rfl⟩) rfl (λty bb h=>by
  cases ty with
  |exc c=>exact(ht c bb h).1
  |non=>exact hn bb h
  |_=>cases h) (λc bb h=>(ht c bb h).2) he Ec
theorem YL {nn:Option Bool}{tbl:List (Nat×Bool)}(hg:Gl X "isinstance") (hm:X.mg "isinstance" = none) (Fb:Gl X "ValueError") (Ex:X.mg "ValueError" = none) (ha:aI X G E a ma)
  (hn:∀b,nn=some b->dh G.K (.type "NoneType") (.type "ValueError")=some b) (ht:∀c b,tbl.lookup c=some b->dh G.K (.ref (G.cl c)) (.type "ValueError")=some b/\Du G.K (G.cl c))
  (he:aw [a,.Name "ValueError" q] X.env=[(false,eval a X.env),(false,eval (.Name "ValueError" q) X.env)]:=by rfl):
  aI X G E (.Call (.Name "isinstance" p) [a,.Name "ValueError" q] [] pos) (m1 (aV (eO nn tbl)) ma):=
 rK hg hm ha (pO Fb Ex YI) (.inl ⟨_,rfl⟩) rfl (λty bb h=>by
  cases ty with
  |exc c=>exact(ht c bb h).1
  |non=>exact hn bb h
  |_=>cases h) (λc bb h=>(ht c bb h).2) he
end
section
variable{P:bh}{w:cj}{K:ao}{mg:Str->Option af}{base:cy}{f:ai}{G:Cfg}{k:Nat}{N:Bf}
theorem YM {fd:bp}{ps:Bf}:Bt P w K mg base (bN P w base) k f fd ps (cU G (λ_ _=>.bad)):=⟨λvs H Q E ⟨_,_,_,_,_,o⟩=>o.elim,λ_ _ _ _ _ _ _ _ _ _ _ _ _ ⟨_,_,_,_,_,o⟩=>o.elim⟩
end
section
variable{k:Nat}{q x:Str}{p pos lpos:Pos}{params:km}{body:bj}{scope os:gq}{c P fr:ai}{fdr:bp}{Nl oN:Bf}{me:M Dv}{n ncl j:Nat}{mb:MS}{caps:Be}
end
def eQ:Dv->Bool
 | .scr=>false
 |_=>true
def aU (x y:Dv) (h:Hs):Rs Dv:=if eQ x=true then gG [] x y h else .bad
def bX (x:Dv) (h:Hs):Rs Dv:=if eQ x=true then gH [] x h else .bad
def gJ (x:Dv) (h:Hs):Rs Dv:=if eQ x=true then pM [] x h else .bad
def dW (neg:Bool) (x y:Dv) (h:Hs):Rs Dv:=if eQ y=true then lN [] neg x y h else .bad
theorem CP {scr:Bd}{x:Dv}{h:Hs}(e:eQ x=true):eW [] x h=eW scr x h:=by cases x <;> first|rfl|cases e
section
variable{k:Nat}{a b e:bj}{es:List bj}{ma mb:M Dv}{aR:M Bh }{p pos:Pos}
theorem YN:fR G (A9 G.K) aU:=by
 intro E μ h H x y vx vy Q s rx ry o;unfold aU at o
 split at o
 ·rename_i hx;refine JB E μ h H x y vx vy Q s rx ry ?_;have e:gG G.scr x y h=gG [] x y h:=by cases x <;> cases y <;> first|rfl|exact absurd hx (by decide)
  rw[e];exact o
 ·exact o.elim
theorem YO:mU G (JE G.K) bX:=by
 intro E μ h H x vx Q s rx o;unfold bX at o
 split at o
 ·rename_i hx;refine JF E μ h H x vx Q s rx ?_;unfold gH at o ⊢;rw[<-CP hx];exact o
 ·exact o.elim
theorem YQ:mU G (λx H Q=>∃p ys,x=.ref p/\(Cg G.K H p ys∨Ca G.K H p ys)/\∀l,H l=none->Q (.ref l) (upd H l (.lst ys))) gJ:=by
 intro E μ h H x vx Q s rx o;unfold gJ at o
 split at o
 ·rename_i hx;refine VV E μ h H x vx Q s rx ?_;unfold pM at o ⊢;rw[<-CP hx];exact o
 ·exact o.elim
theorem KW (neg:Bool):fR G (xQ G.K neg) (dW neg):=by
 intro E μ h H x y vx vy Q s rx ry o;unfold dW at o
 split at o
 ·rename_i hx;refine XS neg E μ h H x y vx vy Q s rx ry ?_;unfold lN at o ⊢;rw[<-CP hx];exact o
 ·exact o.elim
theorem dD (ha:aI X G E a ma) (hb:aI X G E b mb) (hs:A7 b:=by intro _ _;rfl):aI X G E (.Subscript a b pos) (m2 aU ma mb):=λhK=>Gg (HM (by have:=HR (X:=X);rw[hK]at this;exact this) (ha hK) (hb hK) hs) λ_ _ _ t=>tN YN t
theorem kE (hg:Gl X "len") (hm:X.mg "len" = none) (ha:dX X G E (e::es) aR)
  (he:aw (e::es) X.env=(false,eval e X.env)::aw es X.env:=by rfl) (Dh:(backTo pos (aw es X.env)).any (·.1)=false:=by rfl):aI X G E (.Call (.Name "len" p) (e::es) [] pos) (aF (f1 bX) aR):=λhK=>
 tP (Bv.imp (HS (X:=X)) λxs H Q ⟨v,h1,a,ys,h2,h3,h4⟩=>⟨a,ys,by rw[h1,h2],by rw[hK];exact h3,h4⟩) (tQ YO) hg hm yi ha (by decide) (by decide) he Dh hK
theorem xW (hg:Gl X "list") (hm:X.mg "list" = none) (ha:dX X G E (e::es) aR)
  (he:aw (e::es) X.env=(false,eval e X.env)::aw es X.env:=by rfl) (Dh:(backTo pos (aw es X.env)).any (·.1)=false:=by rfl):aI X G E (.Call (.Name "list" p) (e::es) [] pos) (aF (f1 gJ) aR):=λhK=>
 JD (Bv.imp (T9 (X:=X)) λxs H Q ⟨v,h1,a,ys,h2,h3,h4⟩=>⟨a,ys,by rw[h1,h2],by rw[hK];exact h3,h4⟩) (tQ YQ) hg hm xB ha (by decide) (by decide) he Dh hK
end
theorem YR (h l:Hs) (k:Nat):getL (h++l) (h.length+k)=getL l k:=by unfold getL;rw[gg (by omega),show h.length+k - h.length=k by omega]
theorem YS (h l:Hs):getL (h++l) h.length=getL l 0:=YR h l 0
section
variable{n:Nat}
end
section
variable{ma mb mc:M Dv}{aR:M Bh }{t u:M Bool}{f f':Dv->Dv->Hs->Rs Dv}{g:Dv->Hs->Rs Dv}{F:Bg}
end
section
variable{mi mi':M Src}{st Eh:dE}{test Eg:M Bool}{inner:MC}{me:M Dv}{cap:List (Option Nat)}
end
section
variable{mo me mi:M Dv}{ml:M Bh }{m u:MS}{t:M Bool}
end
def gB:Dv->Option Int
 | .int i=>some i
 |_=>none
theorem pT {G:Cfg}{μ:Nat->ai}{n:Nat}{H:Hp}:∀{xs:Bh}{vs:Hf}{ns:Bd},RelDL G μ n H xs vs->bP gB xs=some ns->vs=ns.map Gh
 | [],_,ns,r,e=>by cases e;rw[RelDL]at r;subst r;rfl
 |x::xs,_,ns,r,e=>by
  rw[RelDL]at r;obtain⟨v,rr,rfl,r1,r2⟩:=r;unfold bP at e
  cases x with
  |int i=>
   dsimp only[gB]at e
   cases q:bP gB xs with
   |none=>rw[q]at e;cases e
   |some zs=>rw[q]at e;cases e;rw[Bo]at r1;subst r1;rw[pT r2 q];rfl
  |_=>cases e
section
variable{e a b:bj}{es:List bj}{ma mb:M Dv}{aR:M Bh }{p pos:Pos}
theorem YT {ns:Bd}{its:List af}(rv:Bp (ns.map Gh) its) {i:Nat}{v:af}(e:its.toArray[i]?=some v):∃t,v=.int (ns.getD i 0) t:=by
 have hl:=rv.length;rw[bg]at hl;have e':its[i]?=some v:=by simpa using e
 have hi:i<its.length:=(ax.mp e').1;have hb:i<ns.length:=by omega
 obtain⟨u,e2,r⟩:=rv.get (i:=i) (x:=Gh ns[i]) (by simp[hb]);rw[e']at e2;cases e2;have hg:ns.getD i 0=ns[i]:=by simp[qh,hb]
 rw[hg];exact r
def pU:Dv->Dv->Hs->Rs Dv
 | .ref i,.int k,h=>match getL h i with
  |some xs=>if(jI k&&decide (k<9223372036854775808)&&decide (-9223372036854775808<=k)&&decide (xs.length*k.toNat<=1000000))=true then .ok (.ref h.length) (h++[.lst (bq k.toNat xs).flatten])else .bad
  |none=>.bad
 |_,_,_=>.bad
theorem RelDL.rep {μ:Nat->ai}{n:Nat}{H:Hp}{ds:Bh}{vs:Hf}(r:RelDL G μ n H ds vs):∀k:Nat,RelDL G μ n H (bq k ds).flatten (bq k vs).flatten
 |0=>Ge
 |k+1=>by rw[ig,ig,kg,kg];exact r.append (RelDL.rep r k)
theorem YU:fR G HY pU:=by
 intro E μ h H x y vx vy Q s rx ry o
 cases x with
 |ref i=>
  cases y with
  |int k=>
   dsimp only[pU]at o
   cases q:getL h i with
   |none=>rw[q]at o;exact o.elim
   |some xs=>
    rw[q]at o;dsimp only at o
    split at o
    ·rename_i hb;simp only[cx,decide_eq_true_eq]at hb;obtain⟨⟨⟨_,h1⟩,h2⟩,h3⟩:=hb;obtain⟨vs,e1,r1⟩:=s.ob i _ (cW q);obtain⟨_,rfl⟩:=rx;rw[Bo]at ry;subst ry;refine⟨_,k,vs,rfl,rfl,e1,by omega,by omega,by rw[r1.length];exact cz h3 (by decide),λp hp=>?_⟩;exact oE s (r1.rep k.toNat) hp o
    ·exact o.elim
  |_=>exact o.elim
 |_=>cases y <;> exact o.elim
theorem YV (ha:aI X G E a ma) (hb:aI X G E b mb):aI X G E (.BinOp a .Mult b pos) (m2 pU ma mb):=pF UL YU ha hb
end
section
variable{a:bj}{elts:List bj}{kk:Nat}{tp p pos:Pos}{ma:M Dv}{ms:M Bh }
end
def pV (x:Int):Bd->Bd
 | []=>[x]
 |y::ys=>if x<=y then x::y::ys else y::pV x ys
def iE:Bd->Bd
 | []=>[]
 |x::xs=>pV x (iE xs)
theorem oU (x:Int):∀ys,(pV x ys).Perm (x::ys)
 | []=>wz _
 |y::ys=>by
  unfold pV
  split
  ·exact wz _
  ·exact((oU x ys).cons y).trans (Ay x y ys)
theorem xX:∀xs,(iE xs).Perm xs
 | []=>wz _
 |x::xs=>(oU x (iE xs)).trans ((xX xs).cons x)
theorem KY (x:Int):∀ys,ys.Pairwise (·<=·)->(pV x ys).Pairwise (·<=·)
 | [],_=>by simp[pV]
 |y::ys,h=>by
  have h1:=dv.mp h;unfold pV
  split
  ·rename_i hxy;refine dv.mpr ⟨λz hz=>?_,h⟩
   rcases az.mp hz with rfl|hz
   ·exact hxy
   ·exact Int.le_trans hxy (h1.1 z hz)
  ·rename_i hxy;refine dv.mpr ⟨λz hz=>?_,KY x ys h1.2⟩
   rcases az.mp ((oU x ys).subset hz)with rfl|hz
   ·omega
   ·exact h1.1 z hz
theorem KZ:∀xs,(iE xs).Pairwise (·<=·)
 | []=>uh
 |x::xs=>KY x _ (KZ xs)
theorem K0 {ms ns:Bd}(hp:ms.Perm ns) (hs:ms.Pairwise (·<=·)):ms=iE ns:=List.Perm.eq_of_pairwise (le:=(·<=·)) (λa b _ _ h1 h2=>Int.le_antisymm h1 h2) hs (KZ ns) (hp.trans (xX ns).symm)
theorem YW (xs:Bd):(iE xs).length=xs.length:=(xX xs).length_eq
section
variable{e a b:bj}{es:List bj}{ma mb:M Dv}{aR:M Bh }{p pos:Pos}
theorem CQ:∀{vs:List af}{ns:Bd},Bp (ns.map Gh) vs->lg vs ns
 | [],[],_=>.nil
 | [],n::ns,h=>by cases h
 |v::vs,[],h=>by cases h
 |v::vs,n::ns,h=>by
  cases h with
  |cons h1 h2=>obtain⟨t,rfl⟩:=h1;exact .cons _ _ (CQ h2)
theorem tG:∀{vs:List af}{ns:Bd},lg vs ns->Bp (ns.map Gh) vs
 |_,_,.nil=>.nil
 |_,_,.cons _ _ h=>.cons ⟨_,rfl⟩ (tG h)
theorem K1:dy "sorted" = some (.builtin "sorted"):=by decide +kernel
end
section
variable{e o a b:bj}{es:List bj}{ma mb mo me:M Dv}{aR:M Bh }{p pos np apos cpos:Pos}{y:Str}
def CS (_ j:Int):Prop:=0<j/\j<18446744073709551616
theorem YX:Cr X (binaryOp .FloorDiv) (rI CS λi j=>.int (i / j)):=wD λi j _ _ _ _ _ hc q=>by
 have h1:(0:Int)<j:=hc.1;have h2:j<18446744073709551616:=hc.2;refine floordiv_int (by omega) (by rw[Int.fdiv_eq_ediv_of_nonneg i (by omega)];exact q) (.inl (PyProof.noPylong_of_log2 ?_));have h3:j.natAbs≠0:=by omega
 have h4:j.natAbs<2 ^ 64:=by omega
 have:=(Nat.log2_lt h3).mpr h4;omega
def uD (_ j:Int):Bool:=decide (0<j)&&decide (j<18446744073709551616)
theorem YY (i j:Int) (h:uD i j=true):CS i j:=by unfold uD at h;unfold CS;simpa only[cx,decide_eq_true_eq]using h
def uE:Dv->Dv->Hs->Rs Dv:=lG uD λi j=>.int (i / j)
theorem K2 (ha:aI X G E a ma) (hb:aI X G E b mb):aI X G E (.BinOp a .FloorDiv b pos) (m2 uE ma mb):=pF YX (wZ YY) ha hb
def K4 (K:ao):R2:=λx y H Q=>∃a b ys,x=.ref a/\y=.ref b/\Ca K H a []/\Ca K H b ys/\Q (.ref b) H
theorem op_catT0:Cr X (binaryOp .Add) (K4 X.K):=by
 intro pins s σ H x y v u Q I rx ry ⟨a,b,ys,e1,e2,ha,hb,q⟩;subst e1;subst e2;cases rx;cases ry;obtain⟨its,r1,p1,_⟩:=I.tuple ha;obtain⟨Dc,r2,p2,_⟩:=I.tuple hb;have hn:its=[]:=r1.nil_iff.mpr rfl;subst hn;obtain⟨⟨cls,dd,data,sl⟩,ho,hc,n,hd⟩:=p1;obtain⟨⟨cls2,dd2,data2,sl2⟩,ho2,hc2,n2,hd2⟩:=p2;simp only at hc hd hc2 hd2;subst hc hd hc2 hd2;exact concat_meets ⟨_,ho,rfl⟩ ⟨_,ho2,rfl⟩ yy Au sk qv (qp _ _)
  (tuple_addW0 a b _ _ n n2 dd dd2 sl sl2 rfl) ⟨ho,ho2,⟨.ref b,H,I,rfl,q⟩⟩
def bJ (x y:Dv) (h:Hs):Rs Dv:=match x,y with
 | .tup [],.tup ys=>.ok (.tup ys) h
 |x,y=>kQ x y h
theorem YZ:fR G (λx y H Q=>K4 G.K x y H Q∨BP G.K x y H Q) bJ:=by
 intro E μ h H x y vx vy Q s rx ry o;unfold bJ at o
 split at o
 ·rename_i ys;obtain⟨a,vs,rfl,ea,ra⟩:=rx;obtain⟨b,ws,rfl,eb,rb⟩:=id ry;have:vs=[]:=by rw[RelDL]at ra;exact ra
  subst this;exact .inl ⟨a,b,ws,rfl,rfl,Gb ea,Gb eb,o.val s ry⟩
 ·exact .inr (VN E μ h H _ _ vx vy Q s rx ry o)
theorem fG (ha:aI X G E a ma) (hb:aI X G E b mb):aI X G E (.BinOp a .Add b pos) (m2 bJ ma mb):=λhK=>pF (op_catT0.or VM) (by rw[hK];exact YZ) ha hb hK
def fJ (k:Int):Bd->Option Nat
 | []=>none
 |n::ns=>if n=k then some 0 else(fJ k ns).map (·+1)
theorem uF {k:Int}:∀{ns:Bd}{j:Nat},fJ k ns=some j->ns[j]?=some k/\∀m,m<j->ns[m]?≠some k
 | [],j,h=>by cases h
 |n::ns,j,h=>by
  unfold fJ at h
  split at h
  ·rename_i e;cases h;exact⟨by simp[e],λm hm=>by omega⟩
  ·rename_i e
   cases q:fJ k ns with
   |none=>rw[q]at h;cases h
   |some i=>
    rw[q]at h;cases h;obtain⟨h1,h2⟩:=uF q;refine⟨by simpa using h1,λm hm=>?_⟩
    cases m with
    |zero=>simpa using e
    |succ m=>
     have Ex:m<i:=by simpa using hm
     simpa using h2 m Ex
theorem K5:∀{vs:List af}{ns:Bd}{i:Nat}{n:Int},lg vs ns->ns[i]?=some n->∃t,vs[i]?=some (.int n t)
 |_,_,0,n,.cons m t h,e=>by simp at e;subst e;exact⟨t,rfl⟩
 |_,_,i+1,n,.cons m t h,e=>by simpa using K5 h (by simpa using e)
 |_,_,i,n,.nil,e=>by simp at e
theorem Y0 (a b:af):argsOk "tuple.index" ⟨[a,b],[]⟩:=by unfold argsOk;kernel_rfl
theorem Y1 {prog:bh}{w:cj}{A:bw}{E:af->ag->Prop}{s:ag}{t:ai}{items:Array af}{ns:Bd}{k:Int}{u:Tok}{j:Nat}{P:Fin->ag->Prop}(ht:ye s.heap t items) (hi:lg items.toList ns)
  (hj:ns[j]?=some k) (hno:∀m,m<j->ns[m]?≠some k) (h:P (.done (.ret (.int j s.toks))) { s with toks:=s.toks+1 }):wpAny (model prog w) A (md.«tuple.index» ⟨[.ref t,.int k u],[]⟩) P E s:=by
 show wpAny _ _ (vm (.ref t) >>= _) _ _ s;refine aa (xh ht ?_);refine aa (ah ?_);refine aa (ah ?_);show wpAny _ _ (forIn [:min items.size items.size] (none,()) _ >>= _) _ _ s;rw[Af,Std.Legacy.Range.forIn_eq_forIn_range'];have Cu:items.size=ns.length:=by have:=hi.length;simpa using this
 have hjn:j<ns.length:=(ax.mp hj).1;refine aa (qd _ (λrest b s'=>b=(none,())/\s'=s/\∃i,i<=j/\rest=List.range' i (items.size - i) 1) _ ?_ ?_ _ _ ⟨rfl,rfl,0,gr _, ?_⟩)
 ·rintro x rest b s' ⟨rfl,rfl,i,C',hr⟩
  have hlt:i<items.size:=by omega
  obtain⟨z,hz⟩:∃z,items.size - i=z+1:=⟨items.size - i - 1,by omega⟩
  rw[hz,List.range'_succ]at hr;injection hr with hx Ew;subst hx;obtain⟨n,hn⟩:∃n,ns[x]?=some n:=⟨ns[x]'(by omega),by simp[show x<ns.length by omega]⟩
  obtain⟨tt,ht2⟩:=K5 hi hn;have ht3:items[x]?=some (.int n tt):=by simpa using ht2
  rw[ht3];dsimp only;refine aa (yv ?_)
  by_cases hxj:x=j
  ·subst hxj;have hnk:n=k:=by rw[hj]at hn;cases hn;rfl
   subst hnk;rw[if_pos (by simp)];refine aa (aa (wpAny_mkInt ?_));exact ah (ah (ah h))
  ·have hne:n≠k:=λe=>hno x (by omega) (by rw[hn,e]);rw[if_neg (by simpa using hne)];exact ah ⟨rfl,rfl,x+1,by omega,by rw[Ew];congr 1;omega⟩
 ·rintro b s' ⟨rfl,rfl,i,C',hr⟩
  exfalso
  have hlt:i<items.size:=by omega
  have:=congrArg pj hr;simp at this;omega
 ·simp[Std.Legacy.Range.size]
theorem Y2:A8 X "tuple.index" (λx xs H Q=>∃(a:ai) (ns:Bd) (k:Int) (j:Nat),x=.ref a/\xs=[.int k]/\H a=some (.tup (ns.map Gh))/\fJ k ns=some j/\Q (.int j) H):=by intro pins s σ H x xs v us Q I rx rv ⟨a,ns,k,j,e1,e2,ha,hj,q⟩;subst e1;subst e2;cases rx;obtain⟨u,rfl,ru⟩:=iU rv;obtain⟨t,rfl⟩:=ru;obtain⟨its,rits,p1,_⟩:=I.tuple (Gb ha);obtain⟨h1,h2⟩:=uF hj;refine fq ym p1.typeIs PySem.F.entry_tuple_index (Y1 p1 (CQ rits) h1 h2 ⟨_,rfl, ?_⟩) (Y0 _ _);exact⟨.int j,H,I.tok _,⟨_,rfl⟩,q⟩
theorem Y3 {id:String}{name:Str}{r:V->Hf->Hp->VK->Prop}{to:TE}{t:TA}(slot:Slot "tuple" name id) (hty:typeOf (.builtin id)=pure (.type "method_descriptor")) (hm:A8 X id r) (ho:PE X o to) (ha:PA X [e] t)
  (hbase:attributeBase o name X.env (eval o X.env)=eval o X.env)
  (hfew:((backTo cpos (aw [e] X.env)).all (λx=>!x.1)&&(backToKw cpos (keywordEach [] X.env)).all (λx=>x.1.isSome)
   && decide ([e].length+([]:List Keyword).length+(if([]:List Keyword).isEmpty then 0 else 1)<30))=true)
  (hline:(apos.endLine==cpos.line)=true) (hs:aw [e] X.env=[(false,eval e X.env)]):
  PE X (.Call (.Attribute o name apos) [e] [] cpos) (λσ H Q=>to σ H λx H1=>(∃a xs,x=.ref a/\H1 a=some (.tup xs))/\t σ H1 λxs H2=>r x xs H2 Q):=by
 intro pins s σ H Q I h;refine wpAny_Call_method_late hbase hfew hline rfl (aW (ho pins s σ H _ I h) λv s1 ⟨x,H1,I1,r1,⟨a,ys,ex,ea⟩,q1⟩=>?_);subst ex;cases r1;obtain⟨_,its,rits,ob,g1,g2,g3,n,g4⟩:=(show Br X.prog X.w H1 s1.heap a (.tup ys) from I1.hok a _ ea)
 refine⟨"tuple",id,PySem.F.plainAttrs_tuple,slot,hty,⟨ob,g1,g2⟩,λb eb=>?_, ?_⟩
 ·cases eb;exact⟨ob,g1,g3⟩
 ·have hA:=ha cpos pins s1 σ H1 _ I1 q1;rw[hs]at hA ⊢;exact Calls.callWith_builtin (by rfl) (Calls.evalArgs_plain (aW hA λus s2 ⟨vs,H2,I2,r2,q2⟩=>hm pins s2 σ H2 (.ref a) vs (.ref a) us Q I2 rfl r2 q2))
def CT (x i:Dv) (h:Hs):Rs Dv:=match x,i with
 | .tup xs,.int k=>match bP gB xs with
  |some ns=>match fJ k ns with
   |some j=>.ok (.int j) h
   |none=>.bad
  |none=>.bad
 |_,_=>.bad
def K6 (x:Dv):Bool:=match x with
 | .tup _=>true
 |_=>false
def fZ (mo me:M Dv):M Dv:=λρ h=>(mo ρ h).bind λx h1=>if K6 x=true then(me ρ h1).bind λd h2=>CT x d h2 else .bad
theorem rT (ho:aI X G E (.Name y np) mo) (he:aI X G E e me) (hs:aw [e] X.env=[(false,eval e X.env)]:=by rfl) (hl:(apos.endLine==cpos.line)=true:=by rfl):aI X G E (.Call (.Attribute (.Name y np) "index" apos) [e] [] cpos) (fZ mo me):=λhK=>
 Gg (Y3 ym PySem.F.type_tuple_index Y2 (ho hK) (hY (he hK) jG hs) rfl (by rw[hs];rfl) hl hs) λσ H Q ⟨μ,ρ,h,rs,s,oo⟩=>eV rs s oo λμ1 x h1 vx H1 x1 Cb s1 r1 o1=>by
  split at o1
  ·rename_i hl
   cases x with
   |tup xs=>
    obtain⟨a,vs,rfl,ea,ra⟩:=id r1;refine⟨⟨a,vs,rfl,ea⟩,eV Cb s1 o1 λμ2 d h2 vd H2 x2 Dl s2 r2 o2=>?_⟩
    cases d with
    |int k=>
     dsimp only[CT]at o2
     cases q:bP gB xs with
     |none=>rw[q]at o2;exact o2.elim
     |some ns=>
      rw[q]at o2;dsimp only at o2
      cases q2:fJ k ns with
      |none=>rw[q2]at o2;exact o2.elim
      |some j=>rw[q2]at o2;obtain⟨a',Cs,e',ea',ra'⟩:=Gi x2 _ _ r1;cases e';rw[Bo]at r2;subst r2;exact⟨_,ns,k,j,rfl,rfl,by rw[ea',pT ra' q],q2,o2.val s2 rfl⟩
    |_=>exact o2.elim
   |_=>cases hl
  ·exact o1.elim
end
section
variable{k:Nat}{a b:bj}{ma mb mo:M Dv}{pos:Pos}
theorem Y4 (g:Good X G E k) (ha:aI X G E a ma) (hb:aI X G E b mb) (hm:lastMarks [.In] [b]=false:=by with_unfolding_all rfl):aI X G E (.Compare a [.In] [b] pos) (m2 (dW false) ma mb):=λhK=>wX (XQ g.room.units) (by rw[hK];exact KW false) ha hb hm hK
theorem rV (g:Good X G E k) (ha:aI X G E a ma) (hb:aI X G E b mb) (hm:lastMarks [.NotIn] [b]=false:=by with_unfolding_all rfl):gE X G E (.Compare a [.NotIn] [b] pos) (mB (m2 (dW true) ma mb)):=λhK=>pG (XR g.room.units) (by rw[hK];exact KW true) ha hb hm hK
theorem Y5 (ha:aI X G E a ma) (hb:aI X G E b mb):gE X G E (.Compare a [.IsNot] [b] pos) (mB (m2 (pQ true) ma mb)):=pG XW (XZ true) ha hb (mR _)
end
theorem kW {H:Hs}{n:Nat}{xs ys:Bh}(e:getL H n=some xs):getL (H.set n (.lst ys)) n=some ys:=by have h:=(ax.mp (cW e)).1;unfold getL;rw[dz h]
theorem rW {H:Hs}{n j:Nat}{o:Ob}(h:n≠j):getL (H.set n o) j=getL H j:=by unfold getL;rw[fi h]
theorem nG {H:Hs}{n:Nat}{xs:Bh}(e:getL H n=some xs):n<H.length:=(ax.mp (cW e)).1
theorem gQ {H l:Hs}{n:Nat}{xs:Bh}(e:getL H n=some xs):getL (H++l) n=some xs:=by unfold getL;rw[dw (nG e),cW e]
structure Fr (S:Be) (H H':Hs):Prop where
 le:H.length<=H'.length
 at_:∀j,j<H.length->j∉S->H'[j]?=H[j]?
theorem Fr.refl {S:Be}{H:Hs}:Fr S H H:=⟨ak _,λ_ _ _=>rfl⟩
theorem Fr.trans {S T:Be}{H H1 H2:Hs}(a:Fr S H H1) (b:Fr T H1 H2) (h:∀j∈T,j∈S∨H.length<=j):Fr S H H2:=⟨cz a.le b.le,λj hj hS=>(b.at_ j (au hj a.le) λz=>(h j z).elim hS λw=>absurd (au hj w) (gz _)).trans (a.at_ j hj hS)⟩
theorem Fr.app {S:Be}{H l:Hs}:Fr S H (H++l):=⟨by simp,λj hj _=>dw hj⟩
theorem Fr.set {H:Hs}{n:Nat}{o:Ob}:Fr [n] H (H.set n o):=⟨by simp,λj hj hS=>fi (by simpa using de (by simpa using hS))⟩
theorem Fr.getL {S:Be}{H H':Hs}{j:Nat}{xs:Bh}(a:Fr S H H') (e:getL H j=some xs) (h:j∉S):getL H' j=some xs:=by unfold L2.Mr.getL at e ⊢;rw[a.at_ j (nG e) h];exact e
theorem Fr.mono {S T:Be}{H H':Hs}(a:Fr S H H') (h:∀j∈S,j∈T):Fr T H H':=⟨a.le,λj hj hT=>a.at_ j hj λz=>hT (h j z)⟩
theorem bE {m u:MS}{ρ ρ1:Ev}{h h1:Hs}(e:m ρ h=.nx ρ1 h1):aH m u ρ h=u ρ1 h1:=by unfold aH;rw[e]
theorem K7 {mi:M Src}{st:dE}{b:MS}{ρ:Ev}{h h1:Hs}{src:Src}(e:mi ρ h=.ok src h1):eC mi st b ρ h=iC src st b src.n 0 ρ h1:=by unfold eC;rw[e];rfl
theorem oV {c:M Bool}{t u:MS}{ρ:Ev}{h h1:Hs}(e:c ρ h=.ok true h1):bS c t u ρ h=t ρ h1:=by unfold bS;rw[e];rfl
theorem kF {c:M Bool}{t u:MS}{ρ:Ev}{h h1:Hs}(e:c ρ h=.ok false h1):bS c t u ρ h=u ρ h1:=by unfold bS;rw[e];rfl
theorem K8 {src:Src}{sg:dE}{b:MS}{f k:Nat}{ρ ρ1 ρ2:Ev}{H H2:Hs}{d:Dv}(hg:src.get k H=some d) (hs:sg d ρ=some ρ1) (hb:b ρ1 H=.nx ρ2 H2):iC src sg b (f+1) k ρ H=iC src sg b f (k+1) ρ2 H2:=by simp[iC,hg,hs,hb]
theorem K9 {src:Src}{sg:dE}{b:MS}(P:Nat->Ev->Hs->Prop)
  (step:∀k ρ H,k<src.n->P k ρ H->∃d ρ1 ρ2 H2,src.get k H=some d/\sg d ρ=some ρ1/\b ρ1 H=.nx ρ2 H2/\P (k+1) ρ2 H2)
  (fin:∀ρ H,P src.n ρ H->src.fin H=true):∀(f k:Nat) (ρ:Ev) (H:Hs),f+k=src.n->P k ρ H->∃ρ' H',iC src sg b f k ρ H=.nx ρ' H'/\P src.n ρ' H'
 |0,k,ρ,H,h,p=>by
  have hk:k=src.n:=by omega
  subst hk;exact⟨ρ,H,by simp[iC,fin ρ H p],p⟩
 |f+1,k,ρ,H,h,p=>by obtain⟨d,ρ1,ρ2,H2,e1,e2,e3,p2⟩:=step k ρ H (by omega) p;rw[K8 e1 e2 e3];exact K9 P step fin f (k+1) ρ2 H2 (by omega) p2
theorem nI {mi:M Src}{src:Src}{sg:dE}{b:MS}{ρ:Ev}{H H1:Hs}(hi:mi ρ H=.ok src H1) (P:Nat->Ev->Hs->Prop)
  (step:∀k ρ H,k<src.n->P k ρ H->∃d ρ1 ρ2 H2,src.get k H=some d/\sg d ρ=some ρ1/\b ρ1 H=.nx ρ2 H2/\P (k+1) ρ2 H2)
  (fin:∀ρ H,P src.n ρ H->src.fin H=true) (p:P 0 ρ H1):∃ρ' H',eC mi sg b ρ H=.nx ρ' H'/\P src.n ρ' H':=by
 rw[K7 hi];exact K9 P step fin src.n 0 ρ H1 (by omega) p
theorem xY {src:Src}{sg:dE}{t:M Bool}{m:MC}(P:Nat->Ev->Hs->Bh->Prop)
  (step:∀k ρ H acc,k<src.n->P k ρ H acc->∃d ρ1,src.get k H=some d/\sg d ρ=some ρ1 /\
   ((∃H2,t ρ1 H=.ok false H2/\P (k+1) ρ1 H2 acc)∨∃H2 ρ3 acc3 H3,t ρ1 H=.ok true H2/\m ρ1 H2 acc=.ok (ρ3,acc3) H3/\P (k+1) ρ3 H3 acc3))
  (fin:∀ρ H acc,P src.n ρ H acc->src.fin H=true):∀(f k:Nat) (ρ:Ev) (H:Hs) (acc:Bh),f+k=src.n->P k ρ H acc->∃ρ' H' Fd,eM src sg t m f k ρ H acc=.ok (ρ',Fd) H'/\P src.n ρ' H' Fd
 |0,k,ρ,H,acc,h,p=>by
  have hk:k=src.n:=by omega
  subst hk;exact⟨ρ,H,acc,by simp[eM,fin ρ H acc p],p⟩
 |f+1,k,ρ,H,acc,h,p=>by
  obtain⟨d,ρ1,e1,e2,e3⟩:=step k ρ H acc (by omega) p
  rcases e3 with⟨H2,e3,p2⟩|⟨H2,ρ3,acc3,H3,e3,e4,p2⟩
  ·obtain⟨ρ',H',Fd,e5,p5⟩:=xY P step fin f (k+1) ρ1 H2 acc (by omega) p2;exact⟨ρ',H',Fd,by simp[eM,e1,e2,e3,e5],p5⟩
  ·obtain⟨ρ',H',Fd,e5,p5⟩:=xY P step fin f (k+1) ρ3 H3 acc3 (by omega) p2;exact⟨ρ',H',Fd,by simp[eM,e1,e2,e3,e4,e5],p5⟩
theorem pW (k:Nat) (H:Hs):∀ns:Bd,bP (bC (k+1) H) (ns.map Fx)=some (ns.map Gs)
 | []=>rfl
 |n::ns=>by rw[da,bP,pW k H ns];rfl
def aK (p:Int×Int):Dv:=.tup [.int p.1,.int p.2]
def kG (p:Int×Int):Dt:=.tup [.int p.1,.int p.2]
theorem LB (k:Nat) (H:Hs) (p:Int×Int):bC (k+2) H (aK p)=some (kG p):=rfl
theorem CU (k:Nat) (H:Hs):∀ps:y',bP (bC (k+2) H) (ps.map aK)=some (ps.map kG)
 | []=>rfl
 |p::ps=>by rw[da,bP,CU k H ps,LB];rfl
theorem LC (p q:Int×Int):bD (kG p) (kG q)=decide (p=q):=by obtain⟨a,b⟩:=p;obtain⟨c,d⟩:=q;simp only[kG,bD,eJ,Bool.and_true];rw[cw];simp
theorem Y6 (neg:Bool) (H:Hs) (p:Int×Int) (ps:y'):dW neg (aK p) (.tup (ps.map aK)) H=.ok (.bl (if neg then !decide (p∈ps)else decide (p∈ps))) H:=by
 have e:(ps.map kG).any (λt=>bD t (kG p))=decide (p∈ps):=by
  rw[cw];simp only[wk,nh,yc,LC,decide_eq_true_eq];constructor
  ·rintro ⟨q,hq,rfl⟩;exact hq
  ·intro h;exact⟨p,h,rfl⟩
 have h1:bP (bC bZ H) (ps.map aK)=some (ps.map kG):=CU 28 H ps;have h2:bC bZ H (aK p)=some (kG p):=LB 28 H p;show lN [] neg (aK p) (.tup (ps.map aK)) H=_;simp only[lN,eW,h1,h2,e]
theorem uG (neg:Bool) (H:Hs) (x:Int) (ns:Bd):dW neg (.int x) (.tup (ns.map Fx)) H=.ok (.bl (if neg then !decide (x∈ns)else decide (x∈ns))) H:=by
 have e:(ns.map Gs).any (λt=>bD t (.int x))=decide (x∈ns):=by
  rw[cw];simp only[wk,nh,yc,bD,decide_eq_true_eq,beq_iff_eq];constructor
  ·rintro ⟨q,hq,rfl⟩;exact hq
  ·intro h;exact⟨x,h,rfl⟩
 have h1:bP (bC bZ H) (ns.map Fx)=some (ns.map Gs):=pW 29 H ns;have h2:bC bZ H (.int x)=some (.int x):=rfl;show lN [] neg (.int x) (.tup (ns.map Fx)) H=_;simp only[lN,eW,h1,h2,e]
section
variable{elt tg iter Dr Bz:bj}{ifs Co:List bj}{sc:gq}{ps px pos:Pos}{N:Bf}{cap:List (Option Nat)}{mi mi':M Src}{st Eh:dE}{test Eg:M Bool}{me:M Dv}{i:Nat}{x:Str}
theorem LD (hN:X.N.Nodup) (hi':X.N[i]?=some x) (hc:X.calm=true) (C:Ci X sc N cap) (hi:iK X G E tg iter mi) (hg:∀s H ex,iX (bV X sc N s H ex) G tg st) (En:∀s H ex,oI (bV X sc N s H ex) G ifs test) (hel:∀s H ex,aI (bV X sc N s H ex) G E0 elt me)
  (hx:X.env.scope.names.lookup x=some .local:=by rfl) (hsw:swapsWith (.ListComp elt [⟨tg,iter,ifs,0⟩] sc ps) (some (.Name x px)) pos.line X.env=pure true:=by rfl)
  (hs:∀x,foldedSetIterable iter X.env x=pure x:=by intro _;rfl):hJ X G E (.Assign [.Name x px] (.ListComp elt [⟨tg,iter,ifs,0⟩] sc ps) pos) (aJ (bH (bM mi cap st test (bA me))) (aE i)):=λhK=>
 PS.imp (IQ hsw hN hi' hx hc C rfl (λit D env=>BF elt tg iter ifs sc ps (.ref it) D env) (hi hK) (λs H ex=>hg s H ex hK) (λs H ex=>En s H ex hK) (λs H ex D=>Ff.imp (tJ (hel s H ex hK)) λ_ _ _ _ t=>xF t) hs) λD σ H ⟨μ,ρ,h,rs,s,o⟩=>xH (BX (iW rs s o λμ1 d h1 v H1 x1 Cb s1 r1 o1=>o1 μ1 H1 _ Gj s1 (Cb.set i r1)))
theorem Y7 (hN:X.N.Nodup) (hi1:X.N[i]?=some x) (hc:X.calm=true) (C:Ci X sc N cap) (hi:iK X G E tg iter mi) (hg:∀s H ex,iX (bV X sc N s H ex) G tg st) (En:∀s H ex,oI (bV X sc N s H ex) G ifs test)
  (hi':∀s H ex,iK (bV X sc N s H ex) G E0 Dr Bz mi') (Fb:∀s H ex,iX (bV X sc N s H ex) G Dr Eh) (htt':∀s H ex,oI (bV X sc N s H ex) G Co Eg) (hel:∀s H ex,aI (bV X sc N s H ex) G E0 elt me)
  (hx:X.env.scope.names.lookup x=some .local:=by rfl) (hsw:swapsWith (.ListComp elt [⟨tg,iter,ifs,0⟩,⟨Dr,Bz,Co,0⟩] sc ps) (some (.Name x px)) pos.line X.env=pure true:=by rfl)
  (hs:∀x,foldedSetIterable iter X.env x=pure x:=by intro _;rfl) (hs':∀s H ex x,foldedSetIterable Bz (bV X sc N s H ex).env x=pure x:=by intro _ _ _ _;rfl):
  hJ X G E (.Assign [.Name x px] (.ListComp elt [⟨tg,iter,ifs,0⟩,⟨Dr,Bz,Co,0⟩] sc ps) pos) (aJ (bH (bM mi cap st test (jK mi' Eh Eg (bA me)))) (aE i)):=λhK=>
 PS.imp (IQ hsw hN hi1 hx hc C rfl (inner:=λD env=>qY Bz (.ListComp elt [⟨tg,iter,ifs,0⟩,⟨Dr,Bz,Co,0⟩] sc ps) 1 D env) (λit D env=>II elt tg iter Dr Bz ifs Co sc ps (.ref it) D env) (hi hK) (λs H ex=>hg s H ex hK) (λs H ex=>En s H ex hK)
  (λs H ex D=>Ff.imp (IM (X:=bV X sc N s H ex) (D:=D) (gens:=[⟨tg,iter,ifs,0⟩,⟨Dr,Bz,Co,0⟩]) (d:=1) rfl hc rfl (λit=>IJ elt tg iter Dr Bz ifs Co sc ps (.ref it) D _) (hi' s H ex hK) (Fb s H ex hK) (htt' s H ex hK) (Ff.imp (tJ (hel s H ex hK)) λ_ _ _ _ t=>xF t) (hs' s H ex)) λ_ _ _ _ t=>JM t) hs) λD σ H ⟨μ,ρ,h,rs,s,o⟩=>
  xH (BX (iW rs s o λμ1 d h1 v H1 x1 Cb s1 r1 o1=>o1 μ1 H1 _ Gj s1 (Cb.set i r1)))
end
end L2.Mr
open L2.Mr.Fr renaming app->Fz,refl->Gm,set->Gq,trans->Gu
namespace SoM
open PySem PySem.W PyProof.Rows
variable{n:Nat}{f:Nat->Nat}{s:ag}
def nJ (n:Nat) (f:Nat->Nat) (i j:Nat) (C:Bool->ag->Prop) (s:ag):Prop:=i<n/\j<n/\C (decide (f i<f j)) s
def F (f:Nat->Nat) (p:Array Nat) (k:Nat):Nat:=f (p.getD k 0)
def Ent (n:Nat) (p:Array Nat):Prop:=p.size=n/\p.toList.Perm (bo n)
theorem Ent.lt {p:Array Nat}(e:Ent n p) (hn:0<n) (k:Nat):p.getD k 0<n:=by
 by_cases h:k<p.size
 ·have:p.getD k 0=p[k]:=by simp[kz,h]
  rw[this];have hm:p[k]∈p.toList:=by simp
  exact bu.mp (e.2.mem_iff.mp hm)
 ·have:p.getD k 0=0:=by simp[kz,h]
  omega
theorem uH {p q:Array Nat}{i j:Nat}(h:p[i]?=q[j]?):F f p i=F f q j:=by unfold F;simp only[Array.getD_eq_getD_getElem?,h]
theorem Ent.mirror {p:Array Nat}(e:Ent n p) (i j d:Nat):Ent n (mirror p i j d):=⟨(mirror_size ..).trans e.1,((yn.mp (mirror_perm p i j d))).trans e.2⟩
theorem Ent.bubble {p:Array Nat}(e:Ent n p) (k d:Nat):Ent n (bubble p k d):=⟨(bubble_size ..).trans e.1,((yn.mp (bubble_perm p k d))).trans e.2⟩
theorem Ent.rev {p:Array Nat}(e:Ent n p) (i j:Nat):Ent n (kas_rev p i j):=e.mirror _ _ _
theorem uI {p:Array Nat}{i j:Nat}(hj:j<=p.size) (k:Nat):F f (kas_rev p i j) k=if i<=k/\k<j then F f p (i+j - 1 - k)else F f p k:=by
 have e:=getElem?_mirror_all (i:=i) hj k
 by_cases h:i<=k/\k<j
 ·rw[if_pos h]at e ⊢;exact uH e
 ·rw[if_neg h]at e ⊢;exact uH e
theorem LF {p:Array Nat}{k d:Nat}(hs:k<p.size) (hd:d<=k) (i:Nat):F f (bubble p k d) i=if i=k - d then F f p k else if k - d<i/\i<=k then F f p (i - 1)else F f p i:=by
 have e:=getElem?_bubble hs d hd i
 by_cases h1:i=k - d
 ·rw[if_pos h1]at e ⊢;exact uH e
 ·rw[if_neg h1]at e ⊢
  by_cases h2:k - d<i/\i<=k
  ·rw[if_pos h2]at e ⊢;exact uH e
  ·rw[if_neg h2]at e ⊢;exact uH e
def Inc (f:Nat->Nat) (p:Array Nat) (m:Nat):Prop:=∀i j,i<=j->j<m->F f p i<=F f p j
def Dec (f:Nat->Nat) (p:Array Nat) (m:Nat):Prop:=∀i j,i<=j->j<m->F f p j<=F f p i
theorem Inc.succ {p:Array Nat}{m:Nat}(h:Inc f p m) (hm:1<=m) (h1:F f p (m - 1)<=F f p m):Inc f p (m+1):=by
 intro i j C' hj
 by_cases q:j=m
 ·subst q
  by_cases r:i=j
  ·subst r;exact ak _
  ·exact cz (h i (j - 1) (by omega) (by omega)) h1
 ·exact h i j C' (by omega)
theorem Dec.succ {p:Array Nat}{m:Nat}(h:Dec f p m) (hm:1<=m) (h1:F f p m<=F f p (m - 1)):Dec f p (m+1):=by
 intro i j C' hj
 by_cases q:j=m
 ·subst q
  by_cases r:i=j
  ·subst r;exact ak _
  ·exact cz h1 (h i (j - 1) (by omega) (by omega))
 ·exact h i j C' (by omega)
theorem CV {p:Array Nat}(e:Ent n p) (hn:0<n) {Q:Nat->ag->Prop}:∀(fu m:Nat) (s:ag),1<=m->Inc f p m->
  (∀m',m<=m'->m'<=m+fu->Inc f p m'->(m'=m+fu∨F f p m'<F f p (m' - 1))->Q m' s)->(kas_asc p fu m).kasWp (nJ n f) Q s
 |0,m,s,h1,hi,h=>h m (ak _) (ak _) hi (.inl rfl)
 |fu+1,m,s,h1,hi,h=>by
  refine⟨e.lt hn _,e.lt hn _, ?_⟩
  by_cases c:f (p.getD m 0)<f (p.getD (m - 1) 0)
  ·rw[decide_eq_true c];exact h m (ak _) (by omega) hi (.inr c)
  ·rw[decide_eq_false c];refine CV e hn fu (m+1) s (by omega) (hi.succ h1 (Nat.le_of_not_lt c)) λm' a b c d=>h m' (by omega) (by omega) c ?_
   rcases d with d|d
   ·exact .inl (by omega)
   ·exact .inr d
theorem xZ (hn:0<n) {Q:Array Nat×Nat×Nat->ag->Prop}:∀(fu m q:Nat) (p:Array Nat) (s:ag),Ent n p->q+1<=m->m+fu<=n->Dec f p m->(∀k,m - 1 - q<=k->k<m->F f p k=F f p (m - 1))->
  (∀p' m' q',Ent n p'->q'+1<=m'->m<=m'->m'<=m+fu->Dec f p' m'->(∀k,m' - 1 - q'<=k->k<m'->F f p' k=F f p' (m' - 1))->Q (p',m',q') s)->(kas_desc fu p m q).kasWp (nJ n f) Q s
 |0,m,q,p,s,e,h1,h2,hd,he,h=>h p m q e h1 (ak _) (ak _) hd he
 |fu+1,m,q,p,s,e,h1,h2,hd,he,h=>by
  refine⟨e.lt hn _,e.lt hn _, ?_⟩
  by_cases c:f (p.getD m 0)<f (p.getD (m - 1) 0)
  ·have c':F f p m<F f p (m - 1):=c;rw[decide_eq_true c];show KasT.kasWp _ (if true=true then(if q>0 then _ else _)else _) _ _;rw[if_pos rfl]
   by_cases hq:q>0
   ·rw[if_pos hq];have Cu:m<=p.size:=by rw[e.1];omega
    have hF:∀k,F f (kas_rev p (m - (q+1)) m) k=F f p k:=by
     intro k;rw[uI Cu]
     split
     ·rw[he _ (by omega) (by omega),he k (by omega) (by omega)]
     ·rfl
    have Dj:Dec f (kas_rev p (m - (q+1)) m) (m+1):=by intro i j C' hj;rw[hF,hF];exact hd.succ (by omega) (gu c') i j C' hj
    refine xZ hn fu (m+1) 0 _ s (e.rev _ _) (by omega) (by omega) Dj ?_ λp' m' q' a b c d=>h p' m' q' a b (by omega) (by omega);intro k k1 k2;have:k=m:=by omega
    subst this;rfl
   ·rw[if_neg hq];refine xZ hn fu (m+1) 0 _ s e (by omega) (by omega) (hd.succ (by omega) (gu c')) ?_ λp' m' q' a b c d=>h p' m' q' a b (by omega) (by omega);intro k k1 k2;have:k=m:=by omega
    subst this;rfl
  ·have c':¬ F f p m<F f p (m - 1):=c;rw[decide_eq_false c];show KasT.kasWp _ (if false=true then _ else KasT.ask _ _ _) _ _;rw[if_neg (by simp)];refine⟨e.lt hn _,e.lt hn _, ?_⟩
   by_cases c2:f (p.getD (m - 1) 0)<f (p.getD m 0)
   ·rw[decide_eq_true c2];exact h p m q e h1 (ak _) (by omega) hd he
   ·have c2':¬ F f p (m - 1)<F f p m:=c2;rw[decide_eq_false c2];have eq:F f p m=F f p (m - 1):=by omega
    refine xZ hn fu (m+1) (q+1) _ s e (by omega) (by omega) (hd.succ (by omega) (by omega)) ?_ λp' m' q' a b c d=>h p' m' q' a b (by omega) (by omega);intro k k1 k2;show F f p k=F f p m
    by_cases r:k=m
    ·subst r;rfl
    ·rw[eq];exact he k (by omega) (by omega)
theorem Dec.rev {p:Array Nat}{m:Nat}(hm:m<=p.size) (h:Dec f p m):Inc f (kas_rev p 0 m) m:=by intro i j C' hj;rw[uI hm,uI hm,if_pos ⟨gr _,by omega⟩,if_pos ⟨gr _,hj⟩];exact h _ _ (by omega) (by omega)
theorem LG (hn:0<n) {p:Array Nat}{m:Nat}{Q:Nat×Array Nat->ag->Prop}(e:Ent n p) (h1:1<=m) (h2:m<=n) (hd:Dec f p m)
  (h:∀m' p',Ent n p'->1<=m'->m'<=n->Inc f p' m'->Q (m',p') s):(kas_tail3 m n p).kasWp (nJ n f) Q s:=by
 unfold kas_tail3;rw[KasT.kasWp_bind];refine CV (e.rev 0 m) hn (n - m) m s h1 (hd.rev (by rw[e.1];exact h2)) λm' a b c _=>?_;exact h m' _ (e.rev 0 m) (by omega) (by omega) c
theorem LH (hn:0<n) {p:Array Nat}{m:Nat}{Q:Nat×Array Nat->ag->Prop}(e:Ent n p) (h2:m+1<=n) (hd:Dec f p (m+1))
  (h:∀m' p',Ent n p'->1<=m'->m'<=n->Inc f p' m'->Q (m',p') s):(kas_descPart m n p).kasWp (nJ n f) Q s:=by
 unfold kas_descPart;rw[KasT.kasWp_bind];refine xZ hn (n - (m+1)) (m+1) 0 p s e (by omega) (by omega) hd (λk k1 k2=>by (have:k=m:=by omega);subst this;rfl) λp' m' q' e' a b c d eq=>?_;show KasT.kasWp _ (if q'>0 then _ else _) _ _
 by_cases hq:q'>0
 ·rw[if_pos hq];have Cu:m'<=p'.size:=by rw[e'.1];omega
  have hF:∀k,F f (kas_rev p' (m' - (q'+1)) m') k=F f p' k:=by
   intro k;rw[uI Cu]
   split
   ·rw[eq _ (by omega) (by omega),eq k (by omega) (by omega)]
   ·rfl
  refine LG hn (e'.rev _ _) (show 1<=m' by omega) (show m'<=n by omega) ?_ h;intro i j C' hj;rw[hF,hF];exact d i j C' hj
 ·rw[if_neg hq];exact LG hn e' (show 1<=m' by omega) (show m'<=n by omega) d h
theorem Y8 (hn:1<=n) {p:Array Nat}{Q:Nat×Array Nat->ag->Prop}(e:Ent n p)
  (h:∀m' p',Ent n p'->1<=m'->m'<=n->Inc f p' m'->Q (m',p') s):(kas_count n p).kasWp (nJ n f) Q s:=by
 unfold kas_count;rw[KasT.kasWp_bind];refine CV e (by omega) (n - 1) 1 s (ak _) (λi j C' hj=>by (have:i=j:=by omega);subst this;exact ak _) λm a b c d=>?_;show KasT.kasWp _ (if(m==n)=true then _ else if m>1 then _ else _) _ _
 by_cases q:m=n
 ·rw[if_pos (beq_iff_eq.mpr q)];exact h m p e (by omega) (by omega) c
 ·rw[if_neg (by intro z;exact q (beq_iff_eq.mp z))];have hlt:F f p m<F f p (m - 1):=by
   rcases d with d|d
   ·omega
   ·exact d
  by_cases q1:m>1
  ·rw[if_pos q1];refine⟨e.lt (by omega) _,e.lt (by omega) _, ?_⟩
   by_cases c2:f (p.getD 0 0)<f (p.getD (m - 1) 0)
   ·rw[decide_eq_true c2];exact h m p e (by omega) (by omega) c
   ·have c2':¬ F f p 0<F f p (m - 1):=c2;rw[decide_eq_false c2];have Cu:m<=p.size:=by rw[e.1];omega
    have eq:∀k,k<m->F f p k=F f p 0:=by intro k hk;have:=c 0 k (by omega) hk;have:=c k (m - 1) (by omega) (by omega);omega
    have hF:∀k,F f (kas_rev p 0 m) k=F f p k:=by
     intro k;rw[uI Cu]
     split
     ·rw[eq _ (by omega),eq k (by omega)]
     ·rfl
    refine LH (by omega) (e.rev _ _) (by omega) ?_ h;intro i j C' hj;rw[hF,hF]
    by_cases r:j=m
    ·subst r
     by_cases r2:i=j
     ·subst r2;exact ak _
     ·have:=eq i (by omega);have:=eq (j - 1) (by omega);omega
    ·rw[eq i (by omega),eq j (by omega)];exact ak _
  ·rw[if_neg q1];have:m=1:=by omega
   subst this;refine LH (by omega) e (by omega) ?_ h;intro i j C' hj
   by_cases r:i=j
   ·subst r;exact ak _
   ·have h1:i=0:=by omega
    have h2:j=1:=by omega
    subst h1;subst h2;exact gu hlt
theorem CW {p:Array Nat}(e:Ent n p) (hn:0<n) {k:Nat}(hi:Inc f p k) {Q:Nat->ag->Prop}:∀(fu l r:Nat) (s:ag),r - l<=fu->l<=r->r<=k->
  (∀i,i<l->F f p i<=F f p k)->(∀i,r<=i->i<k->F f p k<F f p i)->
  (∀l',l'<=k->(∀i,i<l'->F f p i<=F f p k)->(∀i,l'<=i->i<k->F f p k<F f p i)->Q l' s)->(kas_place p k fu l r).kasWp (nJ n f) Q s
 |0,l,r,s,h1,h2,h3,ha,hb,h=>by
  have:l=r:=by omega
  subst this;exact h l h3 ha hb
 |fu+1,l,r,s,h1,h2,h3,ha,hb,h=>by
  unfold kas_place
  by_cases q:l>=r
  ·rw[if_pos q];have:l=r:=by omega
   subst this;exact h l h3 ha hb
  ·rw[if_neg q];refine⟨e.lt hn _,e.lt hn _, ?_⟩
   by_cases c:f (p.getD k 0)<f (p.getD ((l+r) / 2) 0)
   ·have c':F f p k<F f p ((l+r) / 2):=c;rw[decide_eq_true c];refine CW e hn hi fu l ((l+r) / 2) s (by omega) (by omega) (by omega) ha ?_ h;intro i i1 i2;have:=hi ((l+r) / 2) i i1 i2;omega
   ·have c':¬ F f p k<F f p ((l+r) / 2):=c;rw[decide_eq_false c];refine CW e hn hi fu ((l+r) / 2+1) r s (by omega) (by omega) (by omega) ?_ hb h;intro i i1;have:=hi i ((l+r) / 2) (by omega) (by omega);omega
theorem LI (hn:0<n) {Q:Array Nat->ag->Prop}:∀(fu k:Nat) (p:Array Nat) (s:ag),Ent n p->k+fu<=n->Inc f p k->(∀p',Ent n p'->Inc f p' (k+fu)->Q p' s)->(kas_bin fu p k).kasWp (nJ n f) Q s
 |0,k,p,s,e,h1,hi,h=>h p e hi
 |fu+1,k,p,s,e,h1,hi,h=>by
  unfold kas_bin;rw[KasT.kasWp_bind];refine CW e hn hi k 0 k s (by omega) (by omega) (ak _) (λi hi=>absurd hi (by omega)) (λi a b=>absurd b (by omega)) λl hl ha hb=>?_;have Cu:k<p.size:=by rw[e.1];omega
  refine LI hn fu (k+1) _ s (e.bubble _ _) (by omega) ?_ λp' e' i'=>h p' e' (by rw[show k+(fu+1)=k+1+fu by omega];exact i');intro i j C' hj;rw[LF Cu (by omega),LF Cu (by omega)];have hkl:k - (k - l)=l:=by omega
  rw[hkl]
  by_cases i1:i=l
  ·rw[if_pos i1]
   by_cases j1:j=l
   ·rw[if_pos j1];exact ak _
   ·rw[if_neg j1,if_pos (by omega)];exact gu (hb (j - 1) (by omega) (by omega))
  ·rw[if_neg i1]
   by_cases i2:l<i/\i<=k
   ·rw[if_pos i2,if_neg (by omega),if_pos (by omega)];exact hi (i - 1) (j - 1) (by omega) (by omega)
   ·rw[if_neg i2]
    by_cases j1:j=l
    ·rw[if_pos j1];exact ha i (by omega)
    ·rw[if_neg j1]
     by_cases j2:l<j/\j<=k
     ·rw[if_pos j2];exact hi i (j - 1) (by omega) (by omega)
     ·rw[if_neg j2];exact hi i j C' (by omega)
theorem Y9 (hn:1<=n) {Q:Array Nat->ag->Prop}(h:∀p,Ent n p->Inc f p n->Q p s):(kas_sort n).kasWp (nJ n f) Q s:=by
 unfold kas_sort;rw[KasT.kasWp_bind];refine Y8 hn ⟨by simp,by simp⟩ λm p e h1 h2 hi=>?_;show KasT.kasWp _ (if m<n then _ else _) _ _
 by_cases q:m<n
 ·rw[if_pos q];have:max m 1=m:=by omega
  rw[this];refine LI (by omega) (n - m) m p s e (by omega) hi λp' e' i'=>h p' e' ?_;rw[show m+(n - m)=n by omega]at i';exact i'
 ·rw[if_neg q];have:m=n:=by omega
  subst this;exact h p e hi
theorem LJ {α:Type}{cmp:Nat->Nat->(Bool->ag->Prop)->ag->Prop}{I:ag->Prop}(hc:∀i j C s,I s->i<n->j<n->(∀s',I s'->C (decide (f i<f j)) s')->cmp i j C s):
  ∀(t:KasT α) (Q:α->Prop) (Q':α->ag->Prop) (s₀ s:ag),t.kasWp (nJ n f) (λa _=>Q a) s₀->I s->(∀a s',Q a->I s'->Q' a s')->t.kasWp cmp Q' s
 | .ret a,Q,Q',s₀,s,h,hi,k=>k a s h hi
 | .ask i j c,Q,Q',s₀,s,h,hi,k=>hc i j _ s hi h.1 h.2.1 λs' hi'=>LJ hc (c _) Q Q' s₀ s' h.2.2 hi' k
end SoM
namespace L2
structure Fe {α:Type}(lt:α->α->Bool):Prop where
 irr:∀x,lt x x=false
 tr:∀x y z,lt x y=true->lt y z=true->lt x z=true
 tot:∀x y,lt x y=false->lt y x=false->x=y
section
variable{α:Type}{lt:α->α->Bool}
theorem Fe.asy (o:Fe lt) {x y:α}(h:lt x y=true):lt y x=false:=by
 cases q:lt y x with
 |false=>rfl
 |true=>have:=o.tr x y x h q;rw[o.irr]at this;cases this
theorem Fe.lt_le (o:Fe lt) {x y z:α}(h:lt x y=true) (h2:lt z y=false):lt x z=true:=by
 cases q:lt y z with
 |true=>exact o.tr x y z h q
 |false=>rw[<-o.tot y z q h2];exact h
abbrev gR (lt:α->α->Bool) (l:List α):Prop:=l.Pairwise λa b=>lt b a=false
abbrev fT (lt:α->α->Bool) (l:List α):Prop:=l.Pairwise λa b=>lt a b=true
theorem LK (o:Fe lt):∀{l l':List α},gR lt l->gR lt l'->l.Perm l'->l=l'
 | [],l',_,_,p=>(List.nil_perm.mp p).symm
 |x::r,[],_,_,p=>by simp at p
 |x::r,y::r',h,h',p=>by
  have h1:=dv.mp h;have h2:=dv.mp h';have e:x=y:=by
   refine o.tot x y ?_ ?_
   ·rcases az.mp (p.mem_iff.mp (bf ..))with e|e
    ·rw[e];exact o.irr y
    ·exact h2.1 x e
   ·rcases az.mp (p.mem_iff.mpr (bf ..))with e|e
    ·rw[e];exact o.irr x
    ·exact h1.1 y e
  subst e;rw[LK o h1.2 h2.2 (List.Perm.cons_inv p)]
def kX (lt:α->α->Bool) (x:α):List α->List α
 | []=>[x]
 |y::r=>if lt y x then y::kX lt x r else if lt x y then x::y::r else y::r
def eF (lt:α->α->Bool):List α->List α
 | []=>[]
 |x::r=>kX lt x (eF lt r)
theorem CY (o:Fe lt) (x z:α):∀l,z∈kX lt x l↔z=x∨z∈l
 | []=>by simp[kX]
 |y::r=>by
  unfold kX
  split
  ·rw[az,CY o x z r,az];constructor
   ·rintro (h|h|h)
    ·exact .inr (.inl h)
    ·exact .inl h
    ·exact .inr (.inr h)
   ·rintro (h|h|h)
    ·exact .inr (.inl h)
    ·exact .inl h
    ·exact .inr (.inr h)
  ·rename_i q1
   split
   ·simp
   ·rename_i q2;have e:=o.tot x y (by simpa using q2) (by simpa using q1);subst e;simp
theorem nK (o:Fe lt) (z:α):∀l,z∈eF lt l↔z∈l
 | []=>.rfl
 |x::r=>by rw[eF,CY o,nK o z r,az]
theorem LL (o:Fe lt) (x:α):∀l,fT lt l->fT lt (kX lt x l)
 | [],_=>by simp[kX,fT]
 |y::r,h=>by
  have h1:=dv.mp h;unfold kX
  split
  ·rename_i q;refine dv.mpr ⟨λz hz=>?_,LL o x r h1.2⟩
   rcases(CY o x z r).mp hz with rfl|hz
   ·exact q
   ·exact h1.1 z hz
  ·split
   ·rename_i q;refine dv.mpr ⟨λz hz=>?_,h⟩
    rcases az.mp hz with rfl|hz
    ·exact q
    ·exact o.tr _ _ _ q (h1.1 z hz)
   ·exact h
theorem uJ (o:Fe lt):∀l,fT lt (eF lt l)
 | []=>uh
 |x::r=>LL o x _ (uJ o r)
theorem LM (o:Fe lt) {l:List α}(h:fT lt l):gR lt l:=h.imp λh=>o.asy h
theorem uK (o:Fe lt) {l:List α}(h:fT lt l):l.Nodup:=h.imp λ{a b} h e=>by rw[e,o.irr]at h;cases h
theorem CZ (o:Fe lt) {l l':List α}(h:fT lt l) (h':fT lt l') (m:∀z,z∈l↔z∈l'):l=l':=by refine LK o (LM o h) (LM o h') ?_;exact(ql (uK o h) (uK o h')).mpr m
theorem ZA (o:Fe lt) {l l':List α}(h:fT lt l') (m:∀z,z∈l'↔z∈l):l'=eF lt l:=CZ o h (uJ o l) λz=>(m z).trans (nK o z l).symm
def rk (lt:α->α->Bool) (ks:List α) (x:α):Nat:=ks.countP λy=>lt y x
theorem DC {p q:α->Bool}:∀(l:List α),(∀y,p y=true->q y=true)->l.countP p<=l.countP q
 | [],_=>ak _
 |y::r,h=>by
  have:=DC r h;rw[tj,tj]
  cases hp:p y with
  |true=>rw[h y hp];simp;omega
  |false=>cases q y <;> simp <;> omega
theorem LN {p q:α->Bool}:∀(l:List α),(∀y,p y=true->q y=true)->∀x,x∈l->q x=true->p x=false->l.countP p<l.countP q
 | [],_,x,hx,_,_=>by simp at hx
 |y::r,h,x,hx,h1,h2=>by
  rw[tj,tj]
  rcases az.mp hx with rfl|hx
  ·have:=DC r h;rw[h1,h2];simp;omega
  ·have:=LN r h x hx h1 h2
   cases hp:p y with
   |true=>rw[h y hp];simp;omega
   |false=>cases q y <;> simp <;> omega
theorem LO (o:Fe lt) {ks:List α}{x z:α}(hx:x∈ks):decide (rk lt ks x<rk lt ks z)=lt x z:=by
 cases q:lt x z with
 |true=>exact decide_eq_true (LN ks (λy h=>o.tr y x z h q) x hx q (o.irr x))
 |false=>exact decide_eq_false (Nat.not_lt.mpr (DC ks λy h=>o.lt_le h q))
theorem ZC (o:Fe lt) {ks:List α}{x z:α}(hz:z∈ks) (h:rk lt ks x<=rk lt ks z):lt z x=false:=by rw[<-LO o hz];exact decide_eq_false (Nat.not_lt.mpr h)
end
def cX:Bd->Bd->Bool
 | [],[]=>false
 | [],_::_=>true
 |_::_,[]=>false
 |a::x,b::y=>if a==b then cX x y else decide (a<b)
theorem Dq:Fe cX:=by
 refine⟨λx=>?_,λx=>?_,λx=>?_⟩
 ·induction x with
  |nil=>rfl
  |cons a x ih=>simp[cX,ih]
 ·induction x with
  |nil=>
   intro y z h1 h2
   cases z with
   |nil=>cases y with
    |nil=>exact h1
    |cons b y=>cases h2
   |cons c z=>rfl
  |cons a x ih=>
   intro y z h1 h2
   cases y with
   |nil=>cases h1
   |cons b y=>
    cases z with
    |nil=>cases h2
    |cons c z=>
     simp only[cX,beq_iff_eq]at h1 h2 ⊢
     by_cases e1:a=b <;> by_cases e2:b=c
     ·rw[if_pos e1]at h1;rw[if_pos e2]at h2;rw[if_pos (e1.trans e2)];exact ih y z h1 h2
     ·rw[if_neg e2]at h2;rw[if_neg (by rw[e1];exact e2)];rw[e1];exact h2
     ·rw[if_neg e1]at h1;rw[if_neg (by rw[<-e2];exact e1)];rw[<-e2];exact h1
     ·rw[if_neg e1]at h1;rw[if_neg e2]at h2;simp only[decide_eq_true_eq]at h1 h2;rw[if_neg (by omega)];simp;omega
 ·induction x with
  |nil=>
   intro y h1 h2
   cases y with
   |nil=>rfl
   |cons b y=>cases h1
  |cons a x ih=>
   intro y h1 h2
   cases y with
   |nil=>cases h2
   |cons b y=>
    simp only[cX,beq_iff_eq]at h1 h2
    by_cases e:a=b
    ·subst e;rw[if_pos rfl]at h1 h2;rw[ih y h1 h2]
    ·rw[if_neg e]at h1;rw[if_neg (de e)]at h2;simp at h1 h2;omega
def eR (p q:Int×Int):Bool:=if p.1==q.1 then decide (p.2<q.2)else decide (p.1<q.1)
def jO (p:Int×Int):Bd:=[p.1,p.2]
theorem uL (p q:Int×Int):cX (jO p) (jO q)=eR p q:=by
 unfold eR jO cX
 split
 ·unfold cX
  split
  ·rename_i h;simp at h;simp[cX,h]
  ·rfl
 ·rfl
theorem ZD {p q:Int×Int}(h:jO p=jO q):p=q:=by obtain⟨a,b⟩:=p;obtain⟨c,d⟩:=q;simp[jO]at h;rw[h.1,h.2]
theorem Dw:Fe eR:=⟨λx=>by rw[<-uL];exact Dq.irr _,λx y z h1 h2=>by rw[<-uL]at *;exact Dq.tr _ _ _ h1 h2,λx y h1 h2=>by rw[<-uL]at *;exact ZD (Dq.tot _ _ h1 h2)⟩
section
variable{α β:Type}{lt:α->α->Bool}{lt':β->β->Bool}{f:α->β}
theorem LP (h:∀x y,lt' (f x) (f y)=lt x y) (x:α):∀l,kX lt' (f x) (l.map f)=(kX lt x l).map f
 | []=>rfl
 |y::r=>by
  simp only[da,kX,h]
  split
  ·rw[LP h x r];rfl
  ·split <;> rfl
theorem LQ (h:∀x y,lt' (f x) (f y)=lt x y):∀l,eF lt' (l.map f)=(eF lt l).map f
 | []=>rfl
 |x::r=>by rw[da,eF,LQ h r,LP h];rfl
end
end L2
namespace SM
open PySem PySem.SetTable
def gR (l:Be):Prop:=l.Pairwise (·<·)
theorem DD {l:Be}(hr:gR l) {i k x:Nat}(a:l[i]?=some x) (b:l[k]?=some x):i=k:=by
 obtain⟨p1,p2⟩:=ax.mp a;obtain⟨q1,q2⟩:=ax.mp b
 rcases Nat.lt_trichotomy i k with h|h|h
 ·have:=ic.mp hr i k p1 q1 h;omega
 ·exact h
 ·have:=ic.mp hr k i q1 p1 h;omega
theorem ZE (xs:Array Nat) (j:Nat) (hr:gR xs.toList):∀(fuel lo hi:Nat),lo<=hi->hi<=xs.size->hi - lo<=fuel->
  (∀i (h:i<xs.size),i<lo->xs[i]<j)->(∀i (h:i<xs.size),hi<=i->j<=xs[i])->
  (∀i (h:i<xs.size),i<below.go xs j fuel lo hi->xs[i]<j)/\(∀i (h:i<xs.size),below.go xs j fuel lo hi<=i->j<=xs[i])/\below.go xs j fuel lo hi<=xs.size:=by
 intro fuel
 induction fuel with
 |zero=>
  intro lo hi h1 h2 h3 ha hb;have:lo=hi:=by omega
  subst this;exact⟨ha,hb,h2⟩
 |succ n ih=>
  intro lo hi h1 h2 h3 ha hb;unfold below.go
  by_cases hlt:lo<hi
  ·rw[if_pos hlt];dsimp only;have hm:(lo+hi) / 2<xs.size:=by omega
   have e:xs.getD ((lo+hi) / 2) j=xs[(lo+hi) / 2]:=by simp[kz,hm]
   have mono:∀a b (ha:a<xs.size) (hb:b<xs.size),a<b->xs[a]<xs[b]:=by intro a b ha hb Ef;have:=ic.mp hr a b (by simpa using ha) (by simpa using hb) Ef;simpa using this
   by_cases hc:xs.getD ((lo+hi) / 2) j<j
   ·rw[if_pos hc];refine ih _ _ (by omega) h2 (by omega) ?_ hb;intro i h hi';rw[e]at hc
    by_cases q:i=(lo+hi) / 2
    ·subst q;exact hc
    ·have:=mono i _ h hm (by omega);omega
   ·rw[if_neg hc];refine ih _ _ (by omega) (by omega) (by omega) ha ?_;intro i h hi';rw[e]at hc
    by_cases q:i=(lo+hi) / 2
    ·subst q;omega
    ·have:=mono _ i hm h (by omega);omega
  ·rw[if_neg hlt];have:lo=hi:=by omega
   subst this;exact⟨ha,hb,h2⟩
theorem uM {xs:Array Nat}{j:Nat}(hr:gR xs.toList):
  (∀i (h:i<xs.size),i<below xs j->xs[i]<j)/\(∀i (h:i<xs.size),below xs j<=i->j<=xs[i])/\below xs j<=xs.size:=
 ZE xs j hr xs.size 0 xs.size (gr _) (ak _) (by omega) (λi h hi=>absurd hi (by omega)) (λi h hi=>absurd h (by omega))
theorem LR {xs:Array Nat}{j:Nat}(hr:gR xs.toList) (hm:j∈xs.toList):xs[below xs j]?=some j:=by
 obtain⟨h1,h2,h3⟩:=uM (j:=j) hr;obtain⟨i,hi,e⟩:=ju hm;have hi':i<xs.size:=by simpa using hi
 have e':xs[i]=j:=by simpa using e
 have hle:below xs j<=i:=by
  rcases jk i (below xs j)with q|q
  ·have:=h1 i hi' q;omega
  ·exact q
 have hb:below xs j<xs.size:=by omega
 have:=h2 (below xs j) hb (ak _);have mono:∀a b (ha:a<xs.size) (hb:b<xs.size),a<b->xs[a]<xs[b]:=by intro a b ha hb Ef;have:=ic.mp hr a b (by simpa using ha) (by simpa using hb) Ef;simpa using this
 have hE:below xs j=i:=by
  rcases jk (below xs j) i with q|q
  ·have:=mono _ _ hb hi' q;omega
  ·omega
 rw[gp hb]
 congr 1
 have:∀k (hk:k<xs.size),k=i->xs[k]=xs[i]:=by intro k hk e;subst e;rfl
 rw[this _ hb hE,e']
theorem ZF {xs:Array Nat}{j:Nat}(hm:j∉xs.toList):(xs[below xs j]?==some j)=false:=by rw[beq_eq_false_iff_ne];intro e;obtain⟨h,e⟩:=dm.mp e;exact hm (by rw[<-e];simp)
theorem uN {α:Type}(xs:Array α) (p:Nat) (x:α) (hp:p<=xs.size):(insertAt xs p x).toList=xs.toList.take p++x::xs.toList.drop p:=by unfold insertAt;rw[Array.toList_append,Array.toList_push];simp[Array.toList_extract,uc]
theorem ZG {xs:Array Nat}{j:Nat}(hr:gR xs.toList) (hm:j∉xs.toList):gR (insertAt xs (below xs j) j).toList:=by
 obtain⟨h1,h2,h3⟩:=uM (j:=j) hr;rw[uN _ _ _ h3];unfold gR at hr ⊢;have hlt:∀a∈xs.toList.take (below xs j),a<j:=by intro a ha;obtain⟨i,hi,e⟩:=ju ha;rw[jf]at hi;rw[List.getElem_take]at e;have:=h1 i (by simp at hi;omega) (by omega);simp at e;omega
 have hgt:∀a∈xs.toList.drop (below xs j),j<a:=by
  intro a ha;obtain⟨i,hi,e⟩:=ju ha;rw[pb]at hi;rw[List.getElem_drop]at e;have q:=h2 (below xs j+i) (by simp at hi;omega) (by omega);have ne:a≠j:=by rintro rfl;exact hm (pq ha)
  simp at e;omega
 rw[List.pairwise_append];refine⟨hr.sublist (List.take_sublist _ _), ?_, ?_⟩
 ·rw[dv];exact⟨hgt,hr.sublist (List.drop_sublist _ _)⟩
 ·intro a ha b hb
  rcases az.mp hb with rfl|hb
  ·exact hlt a ha
  ·have:=hlt a ha;have:=hgt b hb;omega
def nL (mask:Nat) (p:Probe):Probe:=
 if p.more>0 then{ p with j:=p.j+1,more:=p.more - 1 } else
 { p with j:=(leap mask p.i p.perturb).1,more:=runEnd mask (leap mask p.i p.perturb).1 - (leap mask p.i p.perturb).1,i:=(leap mask p.i p.perturb).1,perturb:=(leap mask p.i p.perturb).2 }
theorem LU (t:iq) (p:Probe):t.advance p=nL t.mask p:=by
 unfold SetTable.advance nL
 split <;> rfl
def ZH (mask:Nat) (h:Int):Probe:={ j:=bits h % (mask+1),more:=runEnd mask (bits h % (mask+1)) - bits h % (mask+1),i:=bits h % (mask+1),perturb:=bits h,dummy:=none }
def dH (mask:Nat) (h:Int):Nat->Probe
 |0=>ZH mask h
 |n+1=>nL mask (dH mask h n)
def pr (mask:Nat) (h:Int) (n:Nat):Nat:=(dH mask h n).j
theorem ZI (mask:Nat) (p:Probe):(nL mask p).dummy=p.dummy:=by unfold nL;split <;> rfl
theorem LV (mask:Nat) (h:Int):∀n,(dH mask h n).dummy=none
 |0=>rfl
 |n+1=>by rw[dH,ZI,LV mask h n]
def pX (mask i pt:Nat):Probe:={ j:=i,more:=runEnd mask i - i,i:=i,perturb:=pt,dummy:=none }
def bs (mask:Nat) (h:Int):Nat->Nat×Nat
 |0=>(bits h % (mask+1),bits h)
 |L+1=>leap mask (bs mask h L).1 (bs mask h L).2
theorem ZJ (mask i:Nat):runEnd mask i - i<=9:=by unfold runEnd;split <;> omega
theorem yA (mask:Nat) (h:Int) (i pt:Nat) (n:Nat) (e:dH mask h n=pX mask i pt):∀k,k<=runEnd mask i - i->dH mask h (n+k)={ pX mask i pt with j:=i+k,more:=runEnd mask i - i - k }
 |0,_=>by rw[Nat.add_zero,e];rfl
 |k+1,hk=>by have ih:=yA mask h i pt n e k (by omega);rw[show n+(k+1)=(n+k)+1 from rfl,dH,ih];unfold nL;rw[if_pos (show runEnd mask i - i - k>0 by omega)];simp[pX];omega
theorem LW (mask:Nat) (h:Int):∀L,∃n,n<=10*L/\dH mask h n=pX mask (bs mask h L).1 (bs mask h L).2
 |0=>⟨0,by omega,rfl⟩
 |L+1=>by obtain⟨n,hn,e⟩:=LW mask h L;have r:=yA mask h _ _ n e (runEnd mask (bs mask h L).1 - (bs mask h L).1) (ak _);have:=ZJ mask (bs mask h L).1;refine⟨n+(runEnd mask (bs mask h L).1 - (bs mask h L).1)+1,by omega, ?_⟩;rw[dH,r];unfold nL;rw[if_neg (by simp)];rfl
theorem LX (mask:Nat) (h:Int):∀L,(bs mask h L).2=bits h / 32 ^ L
 |0=>by simp[bs]
 |L+1=>by rw[bs];show(bs mask h L).2 / 32=_;rw[LX mask h L,Nat.div_div_eq_div_mul,Nat.pow_succ]
theorem ZK (h:Int):bits h<2 ^ 64:=by unfold bits;omega
theorem ZL (mask:Nat) (h:Int) {L:Nat}(hL:13<=L):(bs mask h L).2=0:=by
 rw[LX];have h1:=ZK h;have h2:(32:Nat) ^ 13<=32 ^ L:=Az (by decide) hL;have h3:(2:Nat) ^ 64<32 ^ 13:=by decide
 exact Nat.div_eq_of_lt (by omega)
def fx (mask x:Nat):Nat:=(x*5+1) % (mask+1)
def oW (mask:Nat):Nat->Nat->Nat
 |0,x=>x
 |n+1,x=>oW mask n (fx mask x)
theorem LY (mask:Nat):∀n x,oW mask (n+1) x=fx mask (oW mask n x)
 |0,x=>rfl
 |n+1,x=>by rw[oW,LY mask n,oW]
theorem LZ (mask:Nat) (h:Int):∀n,(bs mask h (13+n)).1=oW mask n (bs mask h 13).1
 |0=>rfl
 |n+1=>by rw[LY,<-LZ mask h n,show 13+(n+1)=(13+n)+1 from rfl,bs];show((bs mask h (13+n)).1*5+1+(bs mask h (13+n)).2 / 32) % (mask+1)=_;rw[ZL mask h (by omega)];rfl
def rX (mask:Nat):Nat->Nat->Nat
 |0,_=>0
 |n+1,x=>2 ^ x ||| rX mask n (fx mask x)
theorem L0 (mask j:Nat):∀n x,(rX mask n x).testBit j=true->∃k,k<n/\oW mask k x=j
 |0,x,h=>by simp[rX]at h
 |n+1,x,h=>by
  rw[rX,Nat.testBit_or,Bool.or_eq_true]at h
  rcases h with h|h
  ·rw[Nat.testBit_two_pow,decide_eq_true_eq]at h;exact⟨0,by omega,h⟩
  ·obtain⟨k,hk,e⟩:=L0 mask j n _ h;exact⟨k+1,by omega,e⟩
def lS (mask:Nat):Prop:=mask=7∨mask=31∨mask=127
def L6 (mask:Nat):Bool:=(bo (mask+1)).all λx=>rX mask (mask+1) x==2 ^ (mask+1) - 1
theorem ZM {mask:Nat}(g:lS mask):L6 mask=true:=by rcases g with rfl|rfl|rfl <;> decide +kernel
theorem ZN {mask x j:Nat}(g:lS mask) (hx:x<=mask) (hj:j<=mask):∃k,k<=mask/\oW mask k x=j:=by
 have h1:=ZM g;unfold L6 at h1;rw[ey]at h1;have h2:=h1 x (bu.mpr (by omega));rw[beq_iff_eq]at h2;have h3:(rX mask (mask+1) x).testBit j=true:=by rw[h2,Nat.testBit_two_pow_sub_one,decide_eq_true_eq];omega
 obtain⟨k,hk,e⟩:=L0 mask j _ _ h3;exact⟨k,by omega,e⟩
theorem yB (a m:Nat):a % (m+1)<=m:=by have:=Nat.mod_lt a (show 0<m+1 by omega);omega
theorem ZO (mask:Nat) (h:Int):∀L,(bs mask h L).1<=mask
 |0=>yB _ _
 |L+1=>yB _ _
theorem L7 {mask j:Nat}(g:lS mask) (h:Int) (hj:j<=mask):∃L,L<=13+mask/\(bs mask h L).1=j:=by obtain⟨k,hk,e⟩:=ZN g (ZO mask h 13) hj;exact⟨13+k,by omega,by rw[LZ];exact e⟩
theorem ZP {mask j:Nat}(g:lS mask) (h:Int) (hj:j<=mask):∃n,n<10*turns mask/\pr mask h n=j:=by obtain⟨L,hL,e⟩:=L7 g h hj;obtain⟨n,hn,e2⟩:=LW mask h L;refine⟨n,by unfold turns;omega, ?_⟩;unfold pr;rw[e2];exact e
theorem L8 {mask i:Nat}(hi:i<=mask):runEnd mask i<=mask:=by unfold runEnd;split <;> omega
theorem L9 {mask:Nat}(h:Int):∀n,(dH mask h n).i<=mask/\(dH mask h n).j+(dH mask h n).more<=mask
 |0=>by
  have e:bits h % (mask+1)<=mask:=yB _ _;have:=L8 e;have:bits h % (mask+1)<=runEnd mask (bits h % (mask+1)):=by unfold runEnd;split <;> omega
  exact⟨e,by show bits h % (mask+1)+(runEnd mask (bits h % (mask+1)) - bits h % (mask+1))<=mask;omega⟩
 |n+1=>by
  obtain⟨h1,h2⟩:=L9 (mask:=mask) h n;rw[dH];unfold nL
  split
  ·exact⟨h1,by dsimp only;omega⟩
  ·dsimp only;have e:(leap mask (dH mask h n).i (dH mask h n).perturb).1<=mask:=yB _ _;have:=L8 e;have:(leap mask (dH mask h n).i (dH mask h n).perturb).1<=runEnd mask (leap mask (dH mask h n).i (dH mask h n).perturb).1:=by unfold runEnd;split <;> omega
   exact⟨e,by omega⟩
theorem DE {mask:Nat}(h:Int) (n:Nat):pr mask h n<=mask:=by have:=(L9 (mask:=mask) h n).2;unfold pr;omega
def Way (mask:Nat) (occ:Nat->Prop) (h:Int) (j:Nat):Prop:=∃n,pr mask h n=j/\∀m,m<n->occ (pr mask h m)
theorem Way.mono {mask:Nat}{occ occ':Nat->Prop}{h:Int}{j:Nat}(w:Way mask occ h j) (k:∀x,occ x->occ' x):Way mask occ' h j:=let ⟨n,e,a⟩:=w;⟨n,e,λm hm=>k _ (a m hm)⟩
structure Ea (t:iq) (hs:Bd):Prop where
 size:t.place.size=hs.length
 rise:gR t.place.toList
 nod:t.dummies=#[]
 bnd:∀j∈t.place.toList,j<=t.mask
 room:hs.length<=t.mask
 msk:lS t.mask
 way:∀(i:Nat) (h:Int) (j:Nat),hs[i]?=some h->t.place.toList[i]?=some j->Way t.mask (·∈t.place.toList) h j
 plain:t.plain=true
theorem Ea.fits {t:iq}{hs:Bd}(T:Ea t hs):t.fits hs.length=true:=by unfold SetTable.fits SetTable.fill;rw[T.nod,T.size];simpa using T.room
theorem Ea.gave {t:iq}{hs:Bd}(T:Ea t hs):t.gaveWay=false:=by
 unfold SetTable.gaveWay
 rcases T.msk with e|e|e <;> rw[e] <;> rfl
theorem MA (j:Nat):SetTable.has #[] j=false:=by unfold SetTable.has;simp
theorem Ea.slot_live {t:iq}{hs:Bd}(T:Ea t hs) {j:Nat}(h:j∈t.place.toList):∃i,t.slot j=.live i/\t.place.toList[i]?=some j:=by refine⟨below t.place j, ?_,by simpa using LR T.rise h⟩;unfold SetTable.slot;dsimp only;rw[LR T.rise h];simp
theorem Ea.slot_empty {t:iq}{hs:Bd}(T:Ea t hs) {j:Nat}(h:j∉t.place.toList):t.slot j=.empty:=by unfold SetTable.slot;dsimp only;rw[ZF h,T.nod,MA];rfl
theorem Ea.empty_there {t:iq}{hs:Bd}(T:Ea t hs):∃j,j<=t.mask/\j∉t.place.toList:=by
 rcases rh (∃j,j<=t.mask/\j∉t.place.toList)with h|h
 ·exact h
 ·exfalso
  have h1:∀j,j∈bo (t.mask+1)->j∈t.place.toList:=by
   intro j hj
   rcases rh (j∈t.place.toList)with q|q
   ·exact q
   ·exact absurd ⟨j,by have:=bu.mp hj;omega,q⟩ h
  have h2:=(tm (n:=t.mask+1)).length_le_of_subset h1;rw[mm]at h2;have h3:t.place.toList.length=hs.length:=by rw[<-T.size];simp
  have:=T.room;omega
theorem ZQ {t:iq}{hs:Bd}(T:Ea t hs) (hashAt:Nat->Int) (h:Int):∀(fuel n N:Nat),n<=N->N - n<fuel->pr t.mask h N∉t.place.toList->
  ∃m,n<=m/\m<=N/\(∀l,n<=l->l<m->pr t.mask h l∈t.place.toList/\∀i,t.place.toList[i]?=some (pr t.mask h l)->hashAt i≠h) /\
   ((pr t.mask h m∉t.place.toList/\probe.go t hashAt h fuel (dH t.mask h n)=some (.empty (pr t.mask h m) none)) ∨
    (∃i,t.place.toList[i]?=some (pr t.mask h m)/\hashAt i=h/\probe.go t hashAt h fuel (dH t.mask h n)=some (.candidate (pr t.mask h m) i (dH t.mask h (m+1))))):=by
 intro fuel
 induction fuel with
 |zero=>intro n N _ h2 _;omega
 |succ f ih=>
  intro n N h1 h2 h3;have hj:(dH t.mask h n).j=pr t.mask h n:=rfl
  rcases rh (pr t.mask h n∈t.place.toList)with hm|hm
  ·obtain⟨i,e1,e2⟩:=T.slot_live hm
   by_cases hh:hashAt i=h
   ·refine⟨n,ak _,h1,λl a b=>absurd a (by omega),.inr ⟨i,e2,hh, ?_⟩⟩;rw[probe.go,hj,e1];dsimp only;rw[if_pos (beq_iff_eq.mpr hh),LU];rfl
   ·have hne:n≠N:=by rintro rfl;exact h3 hm
    obtain⟨m,a1,a2,a3,a4⟩:=ih (n+1) N (by omega) (by omega) h3;have e3:probe.go t hashAt h (f+1) (dH t.mask h n)=probe.go t hashAt h f (dH t.mask h (n+1)):=by rw[probe.go,hj,e1];dsimp only;rw[if_neg (by intro q;exact hh (beq_iff_eq.mp q)),LU];rfl
    refine⟨m,by omega,a2,λl b1 b2=>?_,by rw[e3];exact a4⟩
    rcases jk n l with q|q
    ·exact a3 l (by omega) b2
    ·have:l=n:=by omega
     subst this;refine⟨hm,λi' e'=>?_⟩;have:i'=i:=DD T.rise e' e2;subst this;exact hh
  ·refine⟨n,ak _,h1,λl a b=>absurd a (by omega),.inl ⟨hm, ?_⟩⟩;rw[probe.go,hj,T.slot_empty hm];dsimp only;rw[LV]
theorem Ea.stops {t:iq}{hs:Bd}(T:Ea t hs) (h:Int):∃N,N<10*turns t.mask/\pr t.mask h N∉t.place.toList:=by obtain⟨j,hj,hn⟩:=T.empty_there;obtain⟨N,hN,e⟩:=ZP T.msk h hj;exact⟨N,hN,by rw[e];exact hn⟩
theorem Ea.before {t:iq}{hs:Bd}(T:Ea t hs) {h:Int}{i j m:Nat}(e1:hs[i]?=some h) (e2:t.place.toList[i]?=some j) (hm:pr t.mask h m∉t.place.toList):∃n,n<m/\pr t.mask h n=j:=by
 obtain⟨n,e,a⟩:=T.way i h j e1 e2;refine⟨n, ?_,e⟩
 rcases jk n m with q|q
 ·exact q
 ·exfalso
  rcases jk m n with r|r
  ·exact hm (a m r)
  ·have:m=n:=by omega
   subst this;exact hm (by rw[e];exact cq e2)
theorem MB {xs:Array Nat}{p j x:Nat}(hp:p<=xs.size):x∈(insertAt xs p j).toList↔x=j∨x∈xs.toList:=by
 rw[uN _ _ _ hp,br,az];have e:x∈xs.toList↔x∈xs.toList.take p∨x∈xs.toList.drop p:=by rw[<-br,Ai]
 rw[e];constructor
 ·rintro (a|a|a)
  ·exact .inr (.inl a)
  ·exact .inl a
  ·exact .inr (.inr a)
 ·rintro (a|a|a)
  ·exact .inr (.inl a)
  ·exact .inl a
  ·exact .inr (.inr a)
theorem ZR {t:iq}(hn:t.dummies=#[]) (j:Nat):t.put j=({ t with place:=insertAt t.place (below t.place j) j },below t.place j):=by unfold SetTable.put;dsimp only;rw[hn,MA];cases t;subst hn;rfl
theorem MD {α:Type}(l:List α) (x:α) (p i:Nat) (hp:p<=l.length):(l.take p++x::l.drop p)[i]?=if i<p then l[i]? else if i=p then some x else l[i - 1]?:=by
 have hl:(l.take p).length=p:=by rw[jf];omega
 by_cases h1:i<p
 ·rw[if_pos h1,dw (by omega),zg h1]
 ·rw[if_neg h1,gg (by omega),hl]
  by_cases h2:i=p
  ·subst h2;rw[if_pos rfl,Nat.sub_self];rfl
  ·rw[if_neg h2];obtain⟨k,rfl⟩:∃k,i=p+(k+1):=⟨i - p - 1,by omega⟩
   rw[show p+(k+1) - p=k+1 by omega,sv,List.getElem?_drop,show p+(k+1) - 1=p+k by omega]
theorem Ea.put {t:iq}{hs:Bd}(T:Ea t hs) {h:Int}{n:Nat}(hn:pr t.mask h n∉t.place.toList) (hw:∀m,m<n->pr t.mask h m∈t.place.toList) (hr:hs.length+1<=t.mask):
  Ea { t with place:=insertAt t.place (below t.place (pr t.mask h n)) (pr t.mask h n) } (hs.take (below t.place (pr t.mask h n))++h::hs.drop (below t.place (pr t.mask h n))):=by
 have hb:=(uM (j:=pr t.mask h n) T.rise).2.2;have hs':t.place.toList.length=hs.length:=by rw[<-T.size];simp
 have hlen:(hs.take (below t.place (pr t.mask h n))++h::hs.drop (below t.place (pr t.mask h n))).length=hs.length+1:=by rw[bx,dg,jf,pb];have:=T.size;omega
 refine⟨?_,ZG T.rise hn,T.nod, ?_, ?_,T.msk, ?_,T.plain⟩
 ·show(insertAt t.place (below t.place (pr t.mask h n)) (pr t.mask h n)).size=_;rw[hlen];have:(insertAt t.place (below t.place (pr t.mask h n)) (pr t.mask h n)).toList.length=hs.length+1:=by rw[uN _ _ _ hb,bx,dg,jf,pb,hs'];have:=T.size;omega
  simpa using this
 ·intro j hj
  rcases(MB hb).mp hj with rfl|hj
  ·exact DE h n
  ·exact T.bnd j hj
 ·rw[hlen];exact hr
 ·intro i h' j e1 e2;have Fc:(t.place.toList.take (below t.place (pr t.mask h n))++pr t.mask h n::t.place.toList.drop (below t.place (pr t.mask h n)))[i]?=some j:=by rw[<-uN _ _ _ hb];exact e2
  have Eu:below t.place (pr t.mask h n)<=hs.length:=by rw[<-T.size];exact hb
  rw[MD _ _ _ _ Eu]at e1;rw[MD _ _ _ _ (by rw[hs'];exact Eu)]at Fc;have mono:∀x,x∈t.place.toList->x∈(insertAt t.place (below t.place (pr t.mask h n)) (pr t.mask h n)).toList:=λx hx=>(MB hb).mpr (.inr hx)
  by_cases q1:i<below t.place (pr t.mask h n)
  ·rw[if_pos q1]at e1 Fc;exact(T.way _ _ _ e1 Fc).mono mono
  ·rw[if_neg q1]at e1 Fc
   by_cases q2:i=below t.place (pr t.mask h n)
   ·rw[if_pos q2]at e1 Fc
    cases e1;cases Fc
    exact⟨n,rfl,λm hm=>mono _ (hw m hm)⟩
   ·rw[if_neg q2]at e1 Fc;exact(T.way _ _ _ e1 Fc).mono mono
def hV (owner:Array (Option Nat)) (j:Nat):Prop:=(owner.getD j (some 0)).isSome=true
theorem ME {P:Nat->Bool}{n:Nat}(h:(bo n).find? P=none):∀k,k<n->P k=false:=by intro k hk;have:=List.find?_eq_none.mp h k (bu.mpr hk);simpa using this
theorem ZS {P:Nat->Bool}:∀{n k:Nat},(bo n).find? P=some k->k<n/\P k=true/\∀l,l<k->P l=false:=by
 intro n
 induction n with
 |zero=>intro k h;simp at h
 |succ n ih=>
  intro k h;rw[yd,List.find?_append]at h
  cases q:(bo n).find? P with
  |some k'=>rw[q]at h;simp at h;subst h;obtain⟨a,b,c⟩:=ih q;exact⟨by omega,b,c⟩
  |none=>
   rw[q]at h
   by_cases hp:P n=true
   ·simp[hp]at h;subst h;exact⟨by omega,hp,λl hl=>ME q l hl⟩
   ·simp[hp]at h
theorem ZT {mask:Nat}{h:Int}{L n:Nat}(e:dH mask h n=pX mask (bs mask h L).1 (bs mask h L).2):dH mask h (n+(runEnd mask (bs mask h L).1 - (bs mask h L).1)+1)=pX mask (bs mask h (L+1)).1 (bs mask h (L+1)).2:=by have r:=yA mask h _ _ n e (runEnd mask (bs mask h L).1 - (bs mask h L).1) (ak _);rw[dH,r];unfold nL;rw[if_neg (by simp)];rfl
theorem ZU {mask:Nat}{h:Int}{owner:Array (Option Nat)}:∀(fuel L n:Nat),dH mask h n=pX mask (bs mask h L).1 (bs mask h L).2->(∀k,k<n->hV owner (pr mask h k))->
  (∃L',L<=L'/\L'<L+fuel/\¬ hV owner (bs mask h L').1)->
  ∃n,layClean.free mask owner fuel (bs mask h L).1 (bs mask h L).2=some (pr mask h n)/\¬ hV owner (pr mask h n)/\∀m,m<n->hV owner (pr mask h m):=by
 intro fuel
 induction fuel with
 |zero=>rintro L n _ _ ⟨L',a,b,_⟩;omega
 |succ f ih=>
  rintro L n e hb ⟨L',a1,a2,a3⟩
  have r:=yA mask h _ _ n e;have hle:(bs mask h L).1<=runEnd mask (bs mask h L).1:=by unfold runEnd;split <;> omega
  rw[layClean.free]
  cases q:(bo (runEnd mask (bs mask h L).1+1 - (bs mask h L).1)).find? λk=>(owner.getD ((bs mask h L).1+k) (some 0)).isNone with
  |some k=>
   obtain⟨b1,b2,b3⟩:=ZS q;dsimp only;have ek:pr mask h (n+k)=(bs mask h L).1+k:=by unfold pr;rw[r k (by omega)]
   refine⟨n+k,by rw[ek], ?_,λm hm=>?_⟩
   ·rw[ek];unfold hV;simp at b2;simp[b2]
   ·rcases jk m n with z|z
    ·exact hb m z
    ·obtain⟨l,rfl⟩:∃l,m=n+l:=⟨m - n,by omega⟩
     have el:pr mask h (n+l)=(bs mask h L).1+l:=by unfold pr;rw[r l (by omega)]
     rw[el];have:=b3 l (by omega);unfold hV
     cases w:owner.getD ((bs mask h L).1+l) (some 0)with
     |none=>rw[w]at this;simp at this
     |some _=>rfl
  |none=>
   dsimp only;have b:=ME q;have hocc:∀l,l<=runEnd mask (bs mask h L).1 - (bs mask h L).1->hV owner ((bs mask h L).1+l):=by
    intro l hl;have:=b l (by omega);unfold hV
    cases w:owner.getD ((bs mask h L).1+l) (some 0)with
    |none=>rw[w]at this;simp at this
    |some _=>rfl
   have hne:L≠L':=by
    rintro rfl
    exact a3 (by simpa using hocc 0 (by omega))
   refine ih (L+1) _ (ZT e) (λk hk=>?_) ⟨L',by omega,by omega,a3⟩
   rcases jk k n with z|z
   ·exact hb k z
   ·obtain⟨l,rfl⟩:∃l,k=n+l:=⟨k - n,by omega⟩
    have el:pr mask h (n+l)=(bs mask h L).1+l:=by unfold pr;rw[r l (by omega)]
    rw[el];exact hocc l (by omega)
structure LOk (mask:Nat) (hs:Bd) (owner:Array (Option Nat)) (k:Nat):Prop where
 size:owner.size=mask+1
 own:∀(j i:Nat),owner[j]?=some (some i)->i<k/\∃h,hs[i]?=some h/\Way mask (hV owner) h j
 all:∀(i:Nat),i<k->∃j:Nat,owner[j]?=some (some i)
 inj:∀(j j' i:Nat),owner[j]?=some (some i)->owner[j']?=some (some i)->j=j'
theorem uO {owner:Array (Option Nat)}{j:Nat}(hj:j<owner.size):hV owner j↔∃i,owner[j]?=some (some i):=by
 unfold hV;rw[gp hj];simp only[kz,hj,dif_pos,Array.getInternal_eq_getElem,zf]
 cases owner[j] <;> simp
theorem LOk.free {mask k:Nat}{hs:Bd}{owner:Array (Option Nat)}(O:LOk mask hs owner k) (hk:k<=mask):∃j,j<=mask/\¬ hV owner j:=by
 rcases rh (∃j,j<=mask/\¬ hV owner j)with h|h
 ·exact h
 ·exfalso
  have h1:∀j,j<=mask->∃i,owner[j]?=some (some i):=λj hj=>by
   rcases rh (hV owner j)with q|q
   ·exact(uO (by rw[O.size];omega)).mp q
   ·exact absurd ⟨j,hj,q⟩ h
  let f:Nat->Nat:=λj=>match owner[j]? with|some (some i)=>i|_=>0
  have hf:∀j,j<=mask->owner[j]?=some (some (f j)):=λj hj=>by obtain⟨i,e⟩:=h1 j hj;show owner[j]?=some (some (match owner[j]? with|some (some i)=>i|_=>0));rw[e]
  have nd:((bo (mask+1)).map f).Nodup:=by rw[yr];rw[rj];refine wc ?_ (tm (n:=mask+1));intro a b ha hb Ef e;have ea:=hf a (by have:=bu.mp ha;omega);have eb:=hf b (by have:=bu.mp hb;omega);rw[e]at ea;exact Ef (O.inj _ _ _ ea eb)
  have sub:∀x,x∈(bo (mask+1)).map f->x∈bo k:=by intro x hx;obtain⟨j,hj,rfl⟩:=cp.mp hx;exact bu.mpr (O.own j _ (hf j (by have:=bu.mp hj;omega))).1
  have:=nd.length_le_of_subset sub;simp at this;omega
theorem LOk.step {mask k:Nat}{hs:Bd}{owner:Array (Option Nat)}{h:Int}(g:lS mask) (O:LOk mask hs owner k) (hk:k<=mask) (hh:hs[k]?=some h):
  ∃j,layClean.free mask owner (turns mask) (bits h % (mask+1)) (bits h)=some j/\LOk mask hs (owner.setIfInBounds j (some k)) (k+1):=by
 obtain⟨j0,hj0,hn0⟩:=O.free hk;obtain⟨L,hL,eL⟩:=L7 g h hj0;obtain⟨n,e,hn,hw⟩:=ZU (mask:=mask) (h:=h) (owner:=owner) (turns mask) 0 0 rfl (λk hk=>absurd hk (by omega)) ⟨L,by omega,by unfold turns;omega,by rw[eL];exact hn0⟩;refine⟨pr mask h n,e, ?_⟩;have hjl:pr mask h n<owner.size:=by rw[O.size];have:=DE (mask:=mask) h n;omega
 have hjn:owner[pr mask h n]?=some none:=by
  rw[gp hjl];have:¬ ∃i,owner[pr mask h n]?=some (some i):=λq=>hn ((uO hjl).mpr q)
  cases w:owner[pr mask h n]with
  |none=>rfl
  |some i=>exact absurd ⟨i,by rw[gp hjl,w]⟩ this
 have get:∀j,(owner.setIfInBounds (pr mask h n) (some k))[j]?=if pr mask h n=j then some (some k)else owner[j]?:=by
  intro j;rw[Array.getElem?_setIfInBounds]
  by_cases q:pr mask h n=j
  ·rw[if_pos q,if_pos q,if_pos hjl]
  ·rw[if_neg q,if_neg q]
 have Cu:(owner.setIfInBounds (pr mask h n) (some k)).size=mask+1:=by rw[Array.size_setIfInBounds];exact O.size
 have occm:∀x,hV owner x->hV (owner.setIfInBounds (pr mask h n) (some k)) x:=by
  intro x hx
  by_cases hl:x<owner.size
  ·obtain⟨i,e⟩:=(uO hl).mp hx;refine(uO (by rw[Cu,<-O.size];exact hl)).mpr ?_;rw[get]
   by_cases q:pr mask h n=x
   ·exact⟨k,if_pos q⟩
   ·exact⟨i,by rw[if_neg q];exact e⟩
  ·unfold hV;simp[kz,hl]
 refine⟨Cu, ?_, ?_, ?_⟩
 ·intro j i e;rw[get]at e
  by_cases q:pr mask h n=j
  ·rw[if_pos q]at e;cases e;exact⟨by omega,h,hh,n,q,λm hm=>occm _ (hw m hm)⟩
  ·rw[if_neg q]at e;obtain⟨a,h',b,c⟩:=O.own j i e;exact⟨by omega,h',b,c.mono occm⟩
 ·intro i hi
  by_cases q:i=k
  ·subst q;exact⟨pr mask h n,by rw[get,if_pos rfl]⟩
  ·obtain⟨j,e⟩:=O.all i (by omega);refine⟨j, ?_⟩;rw[get]
   by_cases z:pr mask h n=j
   ·rw[<-z,hjn]at e;cases e
   ·rw[if_neg z];exact e
 ·intro j j' i e e';rw[get]at e e'
  by_cases z:pr mask h n=j
  ·rw[if_pos z]at e;cases e
   by_cases z':pr mask h n=j'
   ·exact z.symm.trans z'
   ·rw[if_neg z']at e';have:=(O.own j' _ e').1;omega
  ·rw[if_neg z]at e
   by_cases z':pr mask h n=j'
   ·rw[if_pos z']at e';cases e';have:=(O.own j _ e).1;omega
   ·rw[if_neg z']at e';exact O.inj _ _ _ e e'
theorem MF {mask:Nat}{hs:Bd}(g:lS mask) (hl:hs.length<=mask):∀(l pre:Bd) (owner:Array (Option Nat)),hs=pre++l->LOk mask hs owner pre.length->
  ∃owner',l.foldl (λ(acc:Option (Array (Option Nat)×Nat)) h=>do
    let (owner,k) <-acc
    let j <-layClean.free mask owner (turns mask) (bits h % (mask+1)) (bits h)
    pure (owner.setIfInBounds j (some k),k+1)) (some (owner,pre.length))=some (owner',hs.length)/\LOk mask hs owner' hs.length
 | [],pre,owner,e,O=>by rw[uf]at e;subst e;exact⟨owner,rfl,O⟩
 |h::l,pre,owner,e,O=>by
  have hh:hs[pre.length]?=some h:=by rw[e];simp
  obtain⟨j,e1,O1⟩:=O.step g (by rw[e]at hl;simp at hl;omega) hh;have e2:hs=(pre++[h])++l:=by rw[e];simp
  have hlen:(pre++[h]).length=pre.length+1:=by simp
  obtain⟨o',a,b⟩:=MF g hl l (pre++[h]) _ e2 (by rw[hlen];exact O1);refine⟨o', ?_,b⟩;rw[List.foldl_cons];rw[<-a,hlen]
  congr 1
  show(do let j <-layClean.free mask owner (turns mask) (bits h % (mask+1)) (bits h);pure (owner.setIfInBounds j (some pre.length),pre.length+1))=_;rw[e1];rfl
theorem ZV {mask:Nat}{hs:Array Int}(g:lS mask) (hl:hs.size<=mask):∃owner,layClean mask hs=some owner/\LOk mask hs.toList owner hs.size:=by
 have O0:LOk mask hs.toList (Array.replicate (mask+1) none) 0:=by
  refine⟨by simp, ?_,λi hi=>absurd hi (by omega), ?_⟩
  ·intro j i e;rw[zd]at e
   split at e <;> simp at e
  ·intro j j' i e;rw[zd]at e
   split at e <;> simp at e
 obtain⟨o',a,b⟩:=MF g (by simpa using hl) hs.toList [] _ rfl O0;refine⟨o', ?_,by simpa using b⟩;unfold layClean;rw[<-Array.foldl_toList];simp only[nr]at a;rw[a];rfl
theorem Way.mono' {mask:Nat}{occ occ':Nat->Prop}{h:Int}{j:Nat}(w:Way mask occ h j) (k:∀x,x<=mask->occ x->occ' x):Way mask occ' h j:=let ⟨n,e,a⟩:=w;⟨n,e,λm hm=>k _ (DE h m) (a m hm)⟩
theorem MG (g:Nat->Option Nat):∀(l:Be),l.Pairwise (·<·)->((l.filterMap λj=>(g j).map ((j,·):Nat->Nat×Nat)).map fe).Pairwise (·<·)
 | [],_=>by simp
 |j::l,h=>by
  rw[dv]at h;have ih:=MG g l h.2
  cases e:g j with
  |none=>simpa[cf,e]using ih
  |some i=>
   simp only[cf,e,Option.map_some,da,dv];refine⟨?_,ih⟩;intro a ha;obtain⟨⟨x,y⟩,hp,rfl⟩:=cp.mp ha;obtain⟨z,hz,ez⟩:=jz.mp hp
   cases q:g z with
   |none=>rw[q]at ez;simp at ez
   |some i'=>rw[q]at ez;simp at ez;have:=h.1 z hz;omega
theorem ZW {mask finger moves:Nat}{led:Bool}{hs:Array Int}(g:lS mask) (hl:hs.size<=mask):
  ∃t order,laid mask finger moves led true hs=some (t,order)/\t.mask=mask/\t.led=led/\order.toList.Perm (bo hs.size)/\Ea t (order.toList.filterMap (hs.toList[·]?)):=by
 obtain⟨owner,e,O⟩:=ZV g hl;generalize hlive:(bo (mask+1)).filterMap (λj=>(owner.getD j none).map ((j,·):Nat->Nat×Nat))=live;have Dz:∀j i,(j,i)∈live↔owner[j]?=some (some i):=by
  intro j i;rw[<-hlive,jz];constructor
  ·rintro ⟨x,hx,ex⟩
   have Fp:x<owner.size:=by rw[O.size];exact bu.mp hx
   have eg:owner.getD x none=owner[x]:=by simp[kz,Fp]
   rw[eg]at ex
   cases q:owner[x]with
   |none=>rw[q]at ex;simp at ex
   |some i'=>rw[q]at ex;simp at ex;obtain⟨rfl,rfl⟩:=ex;rw[gp Fp,q]
  ·intro h;obtain⟨Fp,q⟩:=dm.mp h;refine⟨j,bu.mpr (by rw[<-O.size];exact Fp), ?_⟩;have eg:owner.getD j none=owner[j]:=by simp[kz,Fp]
   rw[eg,q];rfl
 have hrise:(live.map fe).Pairwise (·<·):=by rw[<-hlive];exact MG _ _ (zw)
 have Dx:(live.map qo).Perm (bo hs.size):=by
  refine(ql ?_ tm).mpr ?_
  ·rw[yr,rj];rw[rj]at hrise;refine wc ?_ hrise
   rintro ⟨a,i⟩ ⟨b,i'⟩ ha hb Ef e
   have e':i=i':=e;subst e';have:=O.inj a b i ((Dz _ _).mp ha) ((Dz _ _).mp hb);have hab':a<b:=Ef;omega
  ·intro i;rw[bu];constructor
   ·intro h;obtain⟨⟨j,i'⟩,hp,rfl⟩:=cp.mp h;exact(O.own j i' ((Dz _ _).mp hp)).1
   ·intro h;obtain⟨j,ej⟩:=O.all i h;exact cp.mpr ⟨(j,i),(Dz _ _).mpr ej,rfl⟩
 have hlen:live.length=hs.size:=by simpa using Dx.length_eq
 have hget:∀(i:Nat),((live.map qo).filterMap (hs.toList[·]?))[i]?=(live[i]?).bind λp=>hs.toList[p.2]?:=by
  have gen:∀(l:List (Nat×Nat)),(∀p∈l,p.2<hs.toList.length)->∀(i:Nat),((l.map qo).filterMap (hs.toList[·]?))[i]?=(l[i]?).bind λp=>hs.toList[p.2]?:=by
   intro l
   induction l with
   |nil=>intro _ i;simp
   |cons p l ih=>
    intro hp i;have h1:=hp p (bf ..);have e1:hs.toList[p.2]?=some hs.toList[p.2]:=ba h1;rw[da,cf,e1]
    cases i with
    |zero=>simp[e1]
    |succ i=>simp only[sv];exact ih (λq hq=>hp q (ar _ hq)) i
  intro i;refine gen live ?_ i
  rintro ⟨j,k⟩ hp
  have:=(O.own j k ((Dz _ _).mp hp)).1;simpa using this
 have hlen':((live.map qo).filterMap (hs.toList[·]?)).length=hs.size:=by
  have gen:∀(l:List (Nat×Nat)),(∀p∈l,p.2<hs.toList.length)->((l.map qo).filterMap (hs.toList[·]?)).length=l.length:=by
   intro l
   induction l with
   |nil=>intro _;rfl
   |cons p l ih=>intro hp;have h1:=hp p (bf ..);have e1:hs.toList[p.2]?=some hs.toList[p.2]:=ba h1;rw[da,cf,e1];show(_::_).length=_;rw[dg,dg,ih (λq hq=>hp q (ar _ hq))]
  rw[gen live ?_,hlen]
  rintro ⟨j,k⟩ hp
  have:=(O.own j k ((Dz _ _).mp hp)).1;simpa using this
 refine⟨{ mask,place:=(live.map fe).toArray,dummies:=#[],finger,led,moves,plain:=true },(live.map qo).toArray, ?_,rfl,rfl,Dx, ?_⟩
 ·unfold laid;rw[e];show some _=some _;rw[hlive]
 ·refine⟨(by show(live.map fe).toArray.size=((live.map qo).filterMap (hs.toList[·]?)).length;rw[hlen',av,bg,hlen]),hrise,rfl, ?_,by rw[hlen'];exact hl,g, ?_,rfl⟩
  ·intro j hj;obtain⟨⟨x,y⟩,hp,rfl⟩:=cp.mp (show j∈live.map fe from hj);have:=(Dz _ _).mp hp;obtain⟨Fp,_⟩:=dm.mp this;have:=O.size;show x<=mask;omega
  ·intro i h j e1 e2;have e1':((live.map qo).filterMap (hs.toList[·]?))[i]?=some h:=e1;rw[hget]at e1';have Fc:(live.map fe)[i]?=some j:=e2;rw[dj]at Fc
   cases q:live[i]? with
   |none=>rw[q]at Fc;cases Fc
   |some p=>
    obtain⟨x,k⟩:=p;rw[q]at e1' Fc;simp at e1' Fc;subst Fc;have hp:=cq q;obtain⟨a,h',b,c⟩:=O.own x k ((Dz _ _).mp hp);have hh:h'=h:=by
     have:hs.toList[k]?=some h:=by simpa using e1'
     rw[b]at this;exact cn this
    subst hh;refine c.mono' λy hy ho=>?_;obtain⟨i',ei⟩:=(uO (by rw[O.size];omega)).mp ho;exact cp.mpr ⟨(y,i'),(Dz _ _).mpr ei,rfl⟩
end SM
namespace SR
variable{prog:bh}{w:cj}{A:bw}{E:af->ag->Prop}{s:ag}
open SM
section
variable{prog:bh}{w:cj}
def hk (prog:bh) (w:cj) (k:Bd):Int:=tupleKeyHash (intKind prog w) k
abbrev KB:=List (Bd×ai)
def gS (prog:bh) (w:cj) (kb:KB):List (Int×af):=kb.map λp=>(hk prog w p.1,ik p.2)
structure Bx (prog:bh) (w:cj) (h:cy) (a:ai) (kb:KB) (o:Obj) (es:Array (Int×af)) (ep:Nat) (t:iq):Prop where
 obj:h.get? a=some o
 ex:o.ExactSet
 data:o.data=.set es ep t
 es:es.toList=gS prog w kb
 tab:Ea t (kb.map λp=>hk prog w p.1)
 nd:(kb.map fe).Nodup
 nf:kb.length*5<t.mask*3
 led:t.led=!w.params.followText "set-order"
def kY (prog:bh) (w:cj) (h:cy) (a:ai) (kb:KB):Prop:=∃o es ep t,Bx prog w h a kb o es ep t
def yC (prog:bh) (w:cj) (h:cy) (kb:KB):Prop:=∀p∈kb,gw (intKind prog w) h p.1 p.2
variable{h:cy}{a:ai}{kb:KB}{o:Obj}{es:Array (Int×af)}{ep:Nat}{t:iq}
theorem Bx.size (P:Bx prog w h a kb o es ep t):es.size=kb.length:=by have:=congrArg pj P.es;simpa[gS]using this
theorem Bx.fits (P:Bx prog w h a kb o es ep t):t.fits es.size=true:=by have:=P.tab.fits;rw[bg]at this;rw[P.size];exact this
theorem Bx.at_ (P:Bx prog w h a kb o es ep t) {i:Nat}{p:Bd×ai}(e:kb[i]?=some p):es[i]?=some (hk prog w p.1,.ref p.2):=by
 have:es.toList[i]?=some (hk prog w p.1,ik p.2):=by rw[P.es];simp[gS,e]
 simpa using this
theorem Bx.hash_at (P:Bx prog w h a kb o es ep t) {i:Nat}{p:Bd×ai}(e:kb[i]?=some p):(es[i]?.map (·.1)).getD 0=hk prog w p.1:=by rw[P.at_ e];rfl
end
section
variable{a:ai}{kb:KB}{o:Obj}{es:Array (Int×af)}{ep:Nat}{t:iq}
theorem MH {ks:Bd}{b:ai}{Q:Bool->ag->Prop}(hb:gw (intKind prog w) s.heap ks b) (h:Q false s):wpAny (model prog w) A (ofAClassStatement 8 (.ref b)) Q E s:=by
 obtain⟨o,items,n,ho,hc,hd,hi⟩:=hb;unfold ofAClassStatement;refine aa (nu (T := "tuple") ⟨o,ho,hc⟩ ?_);show wpAny _ _ ((if(("tuple" : String) == "tuple")=true then(pure true:Sem Bool)else isSubtype (.type "tuple") (.type "tuple")) >>= _) _ _ s;rw[if_pos (by decide)];refine aa (ah ?_);simp only[pg,cu,if_false];refine aa (jt ho hd ?_);refine aa ?_;show wpAny _ _ (forIn items _ _) _ _ s;rw[<-Ba];refine qd _ (λrest r s'=>r.1=none/\s'=s/\∀v∈rest,carriedByValue v=true) _ ?_ ?_ _ _ ⟨rfl,rfl,hi.byValue⟩
 ·rintro v rest r s' ⟨hr,rfl,Cn⟩
  have hv:=Cn v bf;have e:ofAClassStatement 7 v=pure false:=by
   cases v with
   |ref a=>simp[carriedByValue]at hv
   |_=>rfl
  rw[e];refine aa (ah ?_);simp only[cu,if_false];exact ah ⟨rfl,rfl,λu Cc=>Cn u (ar _ Cc)⟩
 ·rintro ⟨r1,r2⟩ s' ⟨hr,rfl,_⟩
  simp only at hr;subst hr;exact ah h
theorem ZX {k:Bd}{b:ai}{Q:Bool->ag->Prop}(hb:gw (intKind prog w) s.heap k b):∀(l:List af),(∀y∈l,∃k' b',y=.ref b'/\gw (intKind prog w) s.heap k' b')->Q false s->
  wpAny (model prog w) A (searchCouldBeSeen (.ref b) l) Q E s:=by
 intro l hl h;unfold searchCouldBeSeen;refine aa ?_;refine qd _ (λrest r s'=>r.1=none/\s'=s/\∀y∈rest,∃k' b',y=.ref b'/\gw (intKind prog w) s.heap k' b') _ ?_ ?_ _ _ ⟨rfl,rfl,hl⟩
 ·rintro y rest r s' ⟨hr,rfl,Cn⟩
  obtain⟨k',b',rfl,hb'⟩:=Cn y bf;have fin:r.1=none/\s'=s'/\∀y∈rest,∃k' b',y=.ref b'/\gw (intKind prog w) s'.heap k' b':=⟨hr,rfl,λu hu=>Cn u (ar _ hu)⟩
  dsimp only
  split
  ·exact ah ⟨rfl,rfl,fin.2.2⟩
  ·refine aa (wpAny_eqIsQuiet_tuple hb ?_);simp only[pg,cu,if_false];refine aa (wpAny_eqIsQuiet_tuple hb' ?_);simp only[pg,cu,if_false];refine aa (MH hb ?_);simp only[cu,if_false];refine aa (MH hb' ?_);simp only[cu,if_false];exact ah ⟨rfl,rfl,fin.2.2⟩
 ·rintro ⟨r1,r2⟩ s' ⟨hr,rfl,_⟩
  simp only at hr;subst hr;exact ah h
end
section
variable{a:ai}{kb:KB}{o:Obj}{es:Array (Int×af)}{ep:Nat}{t:iq}{k:Bd}{b:ai}
theorem mem_keys {kb:KB}{k:Bd}:k∈kb.map fe↔∃(i:Nat) (b:ai),kb[i]?=some (k,b):=by
 constructor
 ·intro h;obtain⟨⟨k',b⟩,hp,rfl⟩:=cp.mp h;obtain⟨i,hi,e⟩:=ju hp;exact⟨i,b,by rw[ba hi,e]⟩
 ·rintro ⟨i,b,e⟩
  exact cp.mpr ⟨(k,b),cq e,rfl⟩
theorem ZY (P:Bx prog w s.heap a kb o es ep t) (T:yC prog w s.heap kb) (hb:gw (intKind prog w) s.heap k b) (hu:A.units<cLine) {Q:SetFound->ag->Prop}
  (Dm:k∈kb.map fe->Q (.there none) s)
  (Cz:k∉kb.map fe->∀n,pr t.mask (hk prog w k) n∉t.place.toList->(∀m,m<n->pr t.mask (hk prog w k) m∈t.place.toList)->Q (.free (pr t.mask (hk prog w k) n) false) s)
  (N:Nat) (hN:N<10*ud t.mask) (hNe:pr t.mask (hk prog w k) N∉t.place.toList):
  ∀(fuel n:Nat) (stand:Option SetTable.Probe),stand.getD (t.probeStart (hk prog w k))=dH t.mask (hk prog w k) n->n<=N->N - n<fuel->
   (∀l,l<n->pr t.mask (hk prog w k) l∈t.place.toList/\∀(i:Nat) p,t.place.toList[i]?=some (pr t.mask (hk prog w k) l)->kb[i]?=some p->p.1≠k)->
   wpAny (model prog w) A (setSearchFrom a (.ref b) (hk prog w k) true fuel stand) Q E s:=by
 intro fuel
 induction fuel with
 |zero=>intro n stand _ _ h2;omega
 |succ f ih=>
  intro n stand Fq h1 h2 hseen;have hlen:t.place.toList.length=kb.length:=by have:=P.tab.size;simpa using this
  have kbat:∀{i j:Nat},t.place.toList[i]?=some j->∃p,kb[i]?=some p:=λ{i j} e=>by obtain⟨hi,_⟩:=ax.mp e;exact⟨kb[i]'(by omega),ba (by omega)⟩
  unfold setSearchFrom;refine aa (jw P.obj P.data P.fits ?_);dsimp only;rw[P.tab.gave];simp only[cu,if_false];obtain⟨m,a1,a2,a3,a4⟩:=ZQ P.tab (λi=>(es[i]?.map (·.1)).getD 0) (hk prog w k) (10*ud t.mask) n N h1 (by omega) hNe;have pass:∀l,l<m->pr t.mask (hk prog w k) l∈t.place.toList/\∀(i:Nat) p,t.place.toList[i]?=some (pr t.mask (hk prog w k) l)->kb[i]?=some p->p.1≠k:=by
   intro l hl
   rcases jk l n with q|q
   ·exact hseen l q
   ·obtain⟨b1,b2⟩:=a3 l q hl;refine⟨b1,λi p e1 e2 e3=>b2 i e1 ?_⟩;show(es[i]?.map (·.1)).getD 0=_;rw[P.hash_at e2,e3]
  rcases a4 with⟨b1,b2⟩|⟨i,b1,b2,b3⟩
  ·have e:∀g:Nat->Int,g=(λi=>(es[i]?.map (·.1)).getD 0)->t.probe g (hk prog w k) (stand.getD (t.probeStart (hk prog w k)))=some (.empty (pr t.mask (hk prog w k) m) none):=by rintro g rfl;rw[Fq];exact b2
   rw[e]
   rotate_left
   ·rfl
   refine ah (Cz ?_ m b1 λl hl=>(pass l hl).1);intro Dz;obtain⟨i,b',ei⟩:=mem_keys.mp Dz;obtain⟨j,ej⟩:∃j,t.place.toList[i]?=some j:=by obtain⟨hi,_⟩:=ax.mp ei;exact⟨_,ba (by omega)⟩
   obtain⟨n',hn',e'⟩:=P.tab.before (i:=i) (h:=hk prog w k) (by rw[dj,ei];rfl) ej b1;exact(pass n' hn').2 i (k,b') (by rw[e'];exact ej) ei rfl
  ·have e:∀g:Nat->Int,g=(λi=>(es[i]?.map (·.1)).getD 0)->t.probe g (hk prog w k) (stand.getD (t.probeStart (hk prog w k)))=some (.candidate (pr t.mask (hk prog w k) m) i (dH t.mask (hk prog w k) (m+1))):=by rintro g rfl;rw[Fq];exact b3
   rw[e]
   rotate_left
   ·rfl
   dsimp only;obtain⟨p,ep'⟩:=kbat b1;have hp:=T p (cq ep');have es1:t.sameMemory t.moves t.mask=some true:=by unfold SetTable.sameMemory;simp
   obtain⟨i2,e2,e3⟩:=P.tab.slot_live (cq b1);have hi2:i2=i:=DD P.tab.rise e3 b1;subst hi2;have mM:¬ p.1=k->wpAny (model prog w) A (setSearchFrom a (.ref b) (hk prog w k) true f (some (dH t.mask (hk prog w k) (m+1)))) Q E s:=by
    intro hpk;have hmN:m≠N:=by rintro rfl;exact hNe (cq b1)
    refine ih (m+1) _ rfl (by omega) (by omega) ?_
    ·intro l hl
     rcases jk l m with q|q
     ·exact pass l q
     ·have:l=m:=by omega
      subst this;refine⟨cq b1,λi' p' z1 z2=>?_⟩;have:i'=i2:=DD P.tab.rise z1 b1;subst this;rw[ep']at z2;cases z2;exact hpk
   cases hl:t.led
   case' true=>simp only[pg,cu,if_false]
   case' false=>
    simp only[Bool.not_false,if_true];refine aa (ZX hb _ ?_ ?_)
    ·intro y hy;obtain⟨e1,he1,rfl⟩:=cp.mp hy;have Ec:=(Array.mem_filter.mp (Aj.mp he1)).1;have he3:e1∈gS prog w kb:=by rw[<-P.es];exact Aj.mpr Ec
     obtain⟨q,hq,rfl⟩:=cp.mp he3;exact⟨q.1,q.2,rfl,T q hq⟩
    simp only[cu,if_false]
   all_goals
    rw[P.at_ ep'];dsimp only;refine aa (gv (wpAny_eqBool_tuple hu hp hb ?_));refine aa (jw P.obj P.data P.fits ?_);dsimp only
    by_cases hpk:p.1=k
    ·rw[decide_eq_true hpk];simp only[vn,if_true];exact ah (Dm (mem_keys.mpr ⟨i2,p.2,by rw[ep',<-hpk]⟩))
    ·rw[decide_eq_false hpk];simp only[qk,cu,if_false];rw[es1];dsimp only;simp only[if_true];rw[e2];dsimp only;rw[P.at_ ep'];dsimp only;refine aa (wpAny_isSame_ref_self ?_);refine aa (ah ?_);simp only[if_true];exact mM hpk
theorem ZZ (P:Bx prog w s.heap a kb o es ep t) (T:yC prog w s.heap kb) (hb:gw (intKind prog w) s.heap k b) (hu:A.units<cLine) {Q:SetFound->ag->Prop}
  (Dm:k∈kb.map fe->Q (.there none) s)
  (Cz:k∉kb.map fe->∀n,pr t.mask (hk prog w k) n∉t.place.toList->(∀m,m<n->pr t.mask (hk prog w k) m∈t.place.toList)->Q (.free (pr t.mask (hk prog w k) n) false) s):
  wpAny (model prog w) A (setSearch a (.ref b) (hk prog w k) true) Q E s:=by
 obtain⟨N,hN,hNe⟩:=P.tab.stops (hk prog w k);have hm:10*ud t.mask<=1420:=by
  unfold ud
  rcases P.tab.msk with e|e|e <;> rw[e] <;> decide
 exact ZY P T hb hu Dm Cz N hN hNe 100000 0 none rfl (gr _) (by omega) λl hl=>absurd hl (by omega)
theorem Z0 {Q:Bool->ag->Prop}(hb:gw (intKind prog w) s.heap k b) (h:Q true s):wpAny (model prog w) A (hashByValue 8 (.ref b)) Q E s:=by
 have hT:=hb.typeIs;obtain⟨o,items,n,ho,hc,hd,hi⟩:=hb;unfold hashByValue;refine aa (wpAny_specialOf hT F.slot_tuple_hash.lookup ?_);dsimp only;refine aa (jt ho hd ?_);refine aa ?_;show wpAny _ _ (forIn items _ _) _ _ s;rw[<-Ba];have hv:∀v∈items.toList,∃i t,v=.int i t:=by
  clear hd ho
  generalize items.toList=l at hi
  induction hi with
  |nil=>intro v h;cases h
  |cons h1 _ ih=>
   intro v hv
   rcases az.mp hv with rfl|hv
   ·obtain⟨t,e⟩:=oh h1;exact⟨_,t,e⟩
   ·exact ih v hv
 refine qd _ (λrest r s'=>r.1=none/\s'=s/\∀v∈rest,∃i t,v=.int i t) _ ?_ ?_ _ _ ⟨rfl,rfl,hv⟩
 ·rintro v rest r s' ⟨hr,rfl,Cn⟩
  obtain⟨i,t,rfl⟩:=Cn v bf;refine aa (ah ?_);simp only[pg,cu,if_false];exact ah ⟨rfl,rfl,λu Cc=>Cn u (ar _ Cc)⟩
 ·rintro ⟨r1,r2⟩ s' ⟨hr,rfl,_⟩
  simp only at hr;subst hr;exact ah h
end
section
variable{a:ai}{kb:KB}{o:Obj}{es:Array (Int×af)}{ep:Nat}{t:iq}{k:Bd}{b:ai}
theorem Z1 (p:Nat):(gS prog w kb).take p++(hk prog w k,ik b)::(gS prog w kb).drop p=gS prog w (kb.take p++(k,b)::kb.drop p):=by simp[gS,zi,vp]
theorem Z2 (p:Nat):(kb.map λq=>hk prog w q.1).take p++hk prog w k::(kb.map λq=>hk prog w q.1).drop p=(kb.take p++(k,b)::kb.drop p).map λq=>hk prog w q.1:=by simp[zi,vp]
theorem oU {α:Type}(l:List α) (x:α) (p:Nat):(l.take p++x::l.drop p).Perm (x::l):=by have h:(l.take p++x::l.drop p).Perm (x::(l.take p++l.drop p)):=List.perm_middle;rwa [Ai]at h
theorem DF {p:Nat}(h:(kb.map fe).Nodup) (hk:k∉kb.map fe):((kb.take p++(k,b)::kb.drop p).map fe).Nodup:=by have q:=(oU kb (k,b) p).map fe;exact q.nodup_iff.mpr (jq.mpr ⟨hk,h⟩)
theorem MI {es':Array (Int×af)}{t':iq}(hd:o.data=.set es ep t) (ho:s.heap.get? a=some o):(s.heap.update a (Obj.putSet es' t')).get? a=some { o with data:=.set es' (ep+1) t' }:=by have:=ow (Obj.putSet es' t') ho (by rw[putSet_of es' t' hd];rfl);rw[putSet_of es' t' hd]at this;exact this
theorem MJ {α:Type}:∀(l:List α),(bo l.length).filterMap (λi=>l[i]?)=l
 | []=>rfl
 |x::l=>by
  rw[dg,zu,cf];simp only[List.getElem?_cons_zero,List.filterMap_map]
  congr 1
  exact MJ l
theorem MK {kb:KB}{mask' wanted:Nat}{Q:Unit->ag->Prop}(ho:s.heap.get? a=some o) (hex:o.ExactSet) (hd:o.data=.set es ep t) (hes:es.toList=gS prog w kb) (hT:Ea t (kb.map λp=>hk prog w p.1)) (nd:(kb.map fe).Nodup) (hled:t.led=!w.params.followText "set-order")
  (hw:zy wanted - 1=mask') (hg:lS mask') (hl:kb.length*5<mask'*3) (hz:zy wanted<=cb)
  (h:∀h' Er,ja a s.heap h'->kY prog w h' a Er->Er.Perm kb->Q () { s with heap:=h' }):
  wpAny (model prog w) A (setRelay a wanted) Q E s:=by
 have Cu:es.size=kb.length:=by have:=congrArg pj hes;simpa[gS]using this
 have hfit:t.fits es.size=true:=by have:=hT.fits;rw[bg]at this;rw[Cu];exact this
 have eh:(es.map (·.1)).toList=kb.map λp=>hk prog w p.1:=by rw[Array.toList_map,hes];simp[gS]
 have hs':(es.map (·.1)).size=kb.length:=by simp[Cu]
 unfold setRelay;refine aa (jw ho hd hfit ?_);dsimp only;rw[if_neg (by omega)];obtain⟨t',order,e1,e2,e3,e4,e5⟩:=ZW (mask:=mask') (finger:=t.finger) (moves:=t.movedTo mask') (led:=t.led) (hs:=es.map (·.1)) hg (by rw[hs'];omega);have er:t.relaid (es.map (·.1)) wanted=some (t',order):=by unfold SetTable.relaid;rw[hw,hT.plain];exact e1
 rw[er];have hlt:∀i∈order.toList,i<kb.length:=λi hi=>by have:=bu.mp (e4.mem_iff.mp hi);omega
 have hfm:∀(l:Be),(∀i∈l,i<kb.length)->l.filterMap (λi=>es[i]?)=gS prog w (l.filterMap λi=>kb[i]?):=by
  intro l hl
  induction l with
  |nil=>rfl
  |cons i l ih=>
   have hi:=hl i bf;have q1:kb[i]?=some kb[i]:=ba hi;have q2:es[i]?=some (hk prog w kb[i].1,ik kb[i].2):=by
    have:es.toList[i]?=some (hk prog w kb[i].1,ik kb[i].2):=by rw[hes];simp[gS,q1]
    simpa using this
   rw[cf,cf,q1,q2];simp only;rw[ih λj hj=>hl j (ar _ hj)];rfl
 have hkey:∀(l:Be),(∀i∈l,i<kb.length)->l.filterMap (λi=>(es.map (·.1)).toList[i]?)=(l.filterMap λi=>kb[i]?).map λp=>hk prog w p.1:=by
  intro l hl
  induction l with
  |nil=>rfl
  |cons i l ih=>
   have hi:=hl i bf;have q1:kb[i]?=some kb[i]:=ba hi;have q2:(es.map (·.1)).toList[i]?=some (hk prog w kb[i].1):=by rw[eh];simp[q1]
   rw[cf,cf,q1,q2];simp only;rw[ih λj hj=>hl j (ar _ hj)];rfl
 have Dx:(order.toList.filterMap λi=>kb[i]?).Perm kb:=by have q:=e4.filterMap (λi=>kb[i]?);rw[hs']at q;exact q.trans (List.Perm.of_eq (MJ kb))
 have hes2:(order.filterMap (es[·]?)).toList=gS prog w (order.toList.filterMap λi=>kb[i]?):=by rw[Array.toList_filterMap];exact hfm _ hlt
 have hsz2:(order.filterMap (es[·]?)).size=es.size:=by have:=congrArg pj hes2;rw[ni]at this;rw[this,Cu];simp[gS,Dx.length_eq]
 show wpAny _ _ ((if((order.filterMap (es[·]?)).size != es.size)=true then(unsupported "internal:set-table-lost-an-element" >>= λ_=>pure (order.filterMap (es[·]?),t'))else pure (order.filterMap (es[·]?),t')) >>= _) _ _ s;rw[if_neg (by rw[hsz2];simp)];refine aa (ah ?_);dsimp only;refine wpAny_storeSet_of ho hd ?_ (by rw[hsz2,Cu];rcases hg with q|q|q <;> (rw[q]at hl;rw[jr];omega));refine h _ (order.toList.filterMap λi=>kb[i]?) (oq ..) ⟨_,_,_,t',MI hd ho,hex,rfl,hes2, ?_, ?_, ?_,e3.trans hled⟩ Dx
 ·rw[<-hkey _ hlt];exact e5
 ·exact(Dx.map fe).nodup_iff.mpr nd
 ·rw[Dx.length_eq,e2];exact hl
theorem Z3 (P:Bx prog w s.heap a kb o es ep t) (T:yC prog w s.heap kb) (hb:gw (intKind prog w) s.heap k b) (hu:A.units<cLine) (h76:k∉kb.map fe->kb.length+1<=76) {Q:Bool->ag->Prop}
  (h:∀h' Er r,ja a s.heap h'->kY prog w h' a Er->(k∈kb.map fe->Er.Perm kb)->(k∉kb.map fe->Er.Perm ((k,b)::kb))->Q r { s with heap:=h' }):
  wpAny (model prog w) A (setAddHashed a (.ref b) (hk prog w k)) Q E s:=by
 unfold setAddHashed;refine gv ?_;unfold setAddHashedIn;refine aa (jw P.obj P.data P.fits ?_);dsimp only;have hbs:byScan (.ref b) es=false:=by simp[byScan,Value.scannable]
 rw[hbs];simp only[cu,if_false];refine aa (ZZ P T hb hu (λDm=>?_) λCz n hn hw=>?_)
 ·dsimp only;refine ah ?_;have:=h s.heap kb false (uw ..) ⟨o,es,ep,t,P⟩ (λ_=>.refl _) λq=>absurd Dm q;exact this
 ·dsimp only;refine aa (jw P.obj P.data P.fits ?_);dsimp only;rw[ZR P.tab.nod];dsimp only;rw[if_pos P.tab.plain];refine aa (Z0 hb ?_);simp only[if_true];have hlen:=P.nf;have hmask:=P.tab.msk;have hroom:(kb.map λp=>hk prog w p.1).length+1<=t.mask:=by
   rw[bg]
   rcases hmask with q|q|q <;> (rw[q]at hlen ⊢;omega)
  have T2:=P.tab.put (h:=hk prog w k) (n:=n) hn hw hroom;have hbl:=(uM (j:=pr t.mask (hk prog w k) n) P.tab.rise).2.2;generalize hp:ue t.place (pr t.mask (hk prog w k) n)=p at T2 hbl ⊢;rw[Z2 (b:=b)]at T2;have hesl:(jl es p (hk prog w k,ik b)).toList=gS prog w (kb.take p++(k,b)::kb.drop p):=by rw[uN _ _ _ (by rw[P.size,<-show t.place.size=kb.length from by have:=P.tab.size;simpa using this];exact hbl),P.es,Z1]
  have Cu:(jl es p (hk prog w k,ik b)).size=kb.length+1:=by have:=congrArg pj hesl;simp only[gS,bg,ni]at this;rw[this,(oU kb (k,b) p).length_eq];rfl
  refine aa (wpAny_storeSet_of P.obj P.data ?_ (by rw[Cu,jr];have:=h76 Cz;omega));have Ey:(kb.take p++(k,b)::kb.drop p).length=kb.length+1:=(oU kb (k,b) p).length_eq;have ho2:=MI (s:=s) (es':=jl es p (hk prog w k,ik b)) (t':={ t with place:=jl t.place p (pr t.mask (hk prog w k) n) }) P.data P.obj;have fill:({ t with place:=jl t.place p (pr t.mask (hk prog w k) n) }:iq).tooFull=decide ((kb.length+1)*5>=t.mask*3):=by unfold SetTable.tooFull SetTable.fill;have e1:=T2.size;rw[bg,Ey]at e1;have e1':(jl t.place p (pr t.mask (hk prog w k) n)).size=kb.length+1:=e1;dsimp only;rw[P.tab.nod,e1'];rfl
  simp only[Bool.not_false,vn];rw[fill];have fin:∀h' Er,ja a (s.heap.update a (Obj.putSet (jl es p (hk prog w k,ik b)) { t with place:=jl t.place p (pr t.mask (hk prog w k) n) })) h'->kY prog w h' a Er->
    Er.Perm (kb.take p++(k,b)::kb.drop p)->Q true { s with heap:=h' }:=λh' Er sb st pm=>
   h h' Er true ((oq ..).trans sb) st (λq=>absurd q Cz) λ_=>pm.trans (oU kb (k,b) p)
  by_cases pA:(kb.length+1)*5>=t.mask*3
  ·rw[decide_eq_true pA,if_pos rfl];have h76':=h76 Cz;have hcase:(t.mask=7/\kb.length=4)∨(t.mask=31/\kb.length=18):=by
    rcases hmask with q|q|q
    ·left;rw[q]at hlen pA;exact⟨q,by omega⟩
    ·right;rw[q]at hlen pA;exact⟨q,by omega⟩
    ·rw[q]at pA;omega
   have es0:es.size=kb.length:=P.size
   rcases hcase with⟨q1,q2⟩|⟨q1,q2⟩
   ·refine aa (MK (mask':=31) (kb:=kb.take p++(k,b)::kb.drop p) ho2 P.ex rfl hesl T2 (DF P.nd Cz) P.led (by rw[es0,q2];decide) (.inr (.inl rfl)) (by rw[Ey,q2];decide) (by rw[es0,q2,jr];decide) λh' Er sb st pm=>ah (fin h' Er sb st pm))
   ·refine aa (MK (mask':=127) (kb:=kb.take p++(k,b)::kb.drop p) ho2 P.ex rfl hesl T2 (DF P.nd Cz) P.led (by rw[es0,q2];decide) (.inr (.inr rfl)) (by rw[Ey,q2];decide) (by rw[es0,q2,jr];decide) λh' Er sb st pm=>ah (fin h' Er sb st pm))
  ·rw[decide_eq_false pA,if_neg gy];refine ah (fin _ _ (uw ..) ⟨_,_,_,_,ho2,P.ex,rfl,hesl,T2,DF P.nd Cz, ?_,P.led⟩ (.refl _));rw[Ey];exact Nat.lt_of_not_le pA
end
theorem Bx.keep {prog:bh}{w:cj}{h h':cy}{a:ai}{kb:KB}(S:kY prog w h a kb) (k:∀o,h.get? a=some o->h'.get? a=some o):kY prog w h' a kb:=by obtain⟨o,es,ep,t,P⟩:=S;exact⟨o,es,ep,t,k o P.obj,P.ex,P.data,P.es,P.tab,P.nd,P.nf,P.led⟩
theorem yD {prog:bh}{w:cj}{h h':cy}{ks:Bd}{a:ai}(x:gw (intKind prog w) h ks a) (k:∀o,h.get? a=some o->h'.get? a=some o):gw (intKind prog w) h' ks a:=by obtain⟨o,items,n,ho,r⟩:=x;exact⟨o,items,n,k o ho,r⟩
section
variable{prog:bh}{w:cj}{A:bw}{R:xq->ag->Prop}{I:ai}{fp wr:List ai}{n:Nat}{P:Nat->af->Prop}{St:Nat->cy->Prop}
structure Upto (ky:Nat->Bd) (ad:Nat->ai) (i:Nat) (kb:KB):Prop where
 from_:∀p∈kb,∃j,j<i/\p=(ky j,ad j)
 all:∀j,j<i->ky j∈kb.map fe
theorem Z4 (W:Walks prog w A.in1 I fp wr n P St) (S:ai) (hSf:S∉fp) (ad:Nat->ai) (ky:Nat->Bd) (hval:∀i v,P i v->v=.ref (ad i)) (hu:A.units+2<cLine)
  (U:A') (hU:U.length<=76) (hky:∀i,i<n->ky i∈U) (hS:∀i,i<n->ad i≠S/\ad i∉wr):
  ∀(m i:Nat) (s:ag) (kb:KB),n - i=m->i<=n->St i s.heap->kY prog w s.heap S kb->Upto ky ad i kb->(∀j,j<n->gw (intKind prog w) s.heap (ky j) (ad j))->
   (∀h' tk Er,(∀b o,b∉S::wr->s.heap.get? b=some o->h'.get? b=some o)->kY prog w h' S Er->Upto ky ad n Er->R (.ok (.ret .none)) { s with heap:=h',toks:=tk })->
   codeAny (model prog w) A (.builtin "set.update.loop" ⟨[.ref S,.ref I],[]⟩) R s:=by
 have hSw:S∉wr:=λh=>hSf (W.sub _ h);intro m
 induction m with
 |zero=>
  intro i s kb hk hi Fq hT Fj Ez hR;have Dm:i=n:=by omega
  subst Dm;refine mr F.entry_set_update_loop ?_;rw[ka F.plain_set_update_loop _];show wpAny _ A.in1 (pyNext (.ref I) >>= _) _ _ s;refine aa (W.done s _ _ Fq λh' tk hm=>?_);exact ah (hR h' tk kb (λb o hb e=>hm b o (λz=>hb (ar _ z)) e) (Bx.keep hT λo e=>hm S o hSw e) Fj)
 |succ m ih=>
  intro i s kb hk hi Fq hT Fj Ez hR;have hlt:i<n:=by omega
  refine mr F.entry_set_update_loop ?_;rw[ka F.plain_set_update_loop _];show wpAny _ A.in1 (pyNext (.ref I) >>= _) _ _ s;refine aa (W.item i s _ _ hlt Fq λv h' tk hP hst' hm=>?_);have ev:=hval i v hP;subst ev;have hT':kY prog w h' S kb:=Bx.keep hT λo e=>hm S o hSw e;have Ep:∀j,j<n->gw (intKind prog w) h' (ky j) (ad j):=λj hj=>yD (Ez j hj) λo e=>hm _ o (hS j hj).2 e;show wpAny _ A.in1 (holding [ik (ad i)] (setAdd S (.ref (ad i))) >>= _) _ _ _;refine aa (gv ?_);unfold setAdd;refine gv ?_;refine aa (wpAny_pyHash_tuple (s:={ s with heap:=h',toks:=tk }) (show A.in1.units<cLine by show A.units+1<cLine;omega) (Ep i hlt) ?_);obtain⟨o,es,ep,t,Pt⟩:=hT';have tups:yC prog w h' kb:=λp hp=>by obtain⟨j,hj,rfl⟩:=Fj.from_ p hp;exact Ep j (by omega)
  have hsub:∀x∈kb.map fe,x∈U:=λx hx=>by obtain⟨p,hp,rfl⟩:=cp.mp hx;obtain⟨j,hj,rfl⟩:=Fj.from_ p hp;exact hky j (by omega)
  refine Z3 (s:={ s with heap:=h',toks:=tk+((ky i).length+1) }) (a:=S) (k:=ky i) (b:=ad i) Pt tups (Ep i hlt) (by show A.units+1<cLine;omega) (λCz=>?_) λh2 kb2 r sb hT2 q1 q2=>?_
  ·have nd:(ky i::kb.map fe).Nodup:=jq.mpr ⟨Cz,Pt.nd⟩;have:=nd.length_le_of_subset (l₂:=U) λx hx=>by
    rcases az.mp hx with rfl|hx
    ·exact hky i hlt
    ·exact hsub x hx
   simp at this;omega
  ·have hup2:Upto ky ad (i+1) kb2:=by
    by_cases Dm:ky i∈kb.map fe
    ·have pm:=q1 Dm;refine⟨λp hp=>?_,λj hj=>?_⟩
     ·obtain⟨j,hj,e⟩:=Fj.from_ p (pm.mem_iff.mp hp);exact⟨j,by omega,e⟩
     ·rw[(pm.map fe).mem_iff]
      rcases jk j i with z|z
      ·exact Fj.all j z
      ·have:j=i:=by omega
       subst this;exact Dm
    ·have pm:=q2 Dm;refine⟨λp hp=>?_,λj hj=>?_⟩
     ·rcases az.mp (pm.mem_iff.mp hp)with z|z
      ·exact⟨i,by omega,z⟩
      ·obtain⟨j,hj,e⟩:=Fj.from_ p z;exact⟨j,by omega,e⟩
     ·rw[(pm.map fe).mem_iff,da,az]
      rcases jk j i with z|z
      ·exact .inr (Fj.all j z)
      ·have:j=i:=by omega
       subst this;exact .inl rfl
   refine ah ⟨plainId_quiet F.plain_set_update_loop _,ih (i+1) _ kb2 (by omega) hlt (W.frame _ _ _ hst' λb hb o e=>?_) hT2 hup2 (λj hj=>?_) λh3 tk3 kb3 k3 hT3 hup3=>?_⟩
   ·rw[sb.2 b (λz:b=S=>hSf (by rw[<-z];exact hb))];exact e
   ·exact yD (Ep j hj) λo e=>(sb.2 _ (hS j hj).1).trans e
   ·refine hR h3 tk3 kb3 (λb o hb e=>k3 b o hb ?_) hT3 hup3;exact(sb.2 b λz=>hb (by rw[z];exact bf)).trans (hm b o (λz=>hb (ar _ z)) e)
end
theorem walk_slots:Slot "set" "__iter__" "set.__iter__"/\Slot "set_iterator" "__next__" "set_iterator.__next__"/\Slot "set_iterator" "__iter__" "set_iterator.__iter__"/\Slot "set" "__len__" "set.__len__":=by
 refine⟨Slot.of (owner := "set") (n := "__iter__") ?_ ?_ ?_ ?_ ?_ ?_,Slot.of (owner := "set_iterator") (n := "__next__") ?_ ?_ ?_ ?_ ?_ ?_,Slot.of (owner := "set_iterator") (n := "__iter__") ?_ ?_ ?_ ?_ ?_ ?_,Slot.of (owner := "set") (n := "__len__") ?_ ?_ ?_ ?_ ?_ ?_⟩
 all_goals first
  |decide +kernel
  |(rw[typeLookup_type,builtinLookup_eq_fast];kernel_rfl)
  |(rw[isSubtype_type];kernel_rfl)
  |(left;decide +kernel)
  |(right;decide +kernel)
theorem yE (a:af):argsOk "set.__iter__" ⟨[a],[]⟩/\argsOk "set_iterator.__next__" ⟨[a],[]⟩/\argsOk "set_iterator.__iter__" ⟨[a],[]⟩:=by refine⟨?_, ?_, ?_⟩ <;> unfold argsOk <;> kernel_rfl
theorem ML:entryFor table "set_iterator.__next__" = some md.«set_iterator.__next__»:=entryFor_of_fast (by kernel_rfl)
theorem Z5:entryFor table "set.__iter__" = some md.«frozenset.__iter__»:=entryFor_alias (id' := "frozenset.__iter__") (by kernel_rfl) rfl (by decide +kernel) (by kernel_rfl)
theorem Z6:entryFor table "set_iterator.__iter__" = some md.«dict_keyiterator.__iter__»:=entryFor_alias (id' := "dict_keyiterator.__iter__") (by kernel_rfl) rfl (by decide +kernel) (by kernel_rfl)
theorem erase_perm {α:Type}:∀(l:List α) (i:Nat) (h:i<l.length),(l[i]::l.eraseIdx i).Perm l
 | [],_,h=>absurd h (by simp)
 |x::r,0,_=>.refl _
 |x::r,i+1,h=>by have ih:=erase_perm r i (by simpa using h);show((r[i]'(by simpa using h))::x::r.eraseIdx i).Perm (x::r);exact(Ay _ _ _).trans (ih.cons x)
theorem MM {α:Type}(next:Nat->Nat):∀(fuel k:Nat) (l:List α) (out:Array α),l.length<=fuel->(yo next fuel k l out).toList.Perm (out.toList++l)
 |0,k,l,out,h=>by have:l=[]:=zl.mp (by omega);subst this;rw[yo];simp
 |fuel+1,k,l,out,h=>by
  rw[yo]
  cases l with
  |nil=>simp
  |cons x r=>have hlt:next k % (x::r).length<(x::r).length:=Nat.mod_lt _ (by simp);rw[ba hlt];dsimp only;refine(MM next fuel (k+1) _ _ (by rw[yt hlt];omega)).trans ?_;rw[Array.toList_push,qw];refine yu _ ?_;exact erase_perm _ _ hlt
theorem Z7 {α:Type}(next:Nat->Nat) (xs:Array α):(pickOrder next xs).toList.Perm xs.toList:=by unfold pickOrder;have:=MM next xs.size 0 xs.toList #[] (by simp);simpa using this
section
variable{prog:bh}{w:cj}
def iP (w:cj) (a:ai) (ep:Nat) (es:Array (Int×af)):Array (Int×af):=if w.params.followText "set-order" then pickOrder (w.params.setOrder a ep) es else es
theorem MN (w:cj) (a:ai) (ep:Nat) (es:Array (Int×af)):(iP w a ep es).toList.Perm es.toList:=by
 unfold iP
 split
 ·exact Z7 _ _
 ·exact .refl _
theorem yF (w:cj) (a:ai) (ep:Nat) (es:Array (Int×af)):(iP w a ep es).size=es.size:=by simpa using(MN w a ep es).length_eq
def gU (w:cj) (t:iq) (i:Nat):Nat:=if w.params.followText "set-order" then 0 else match i with|0=>0|j+1=>t.place.getD j 0+1
def kH (a:ai) (slot i n ep:Nat):Obj:={ cls:=.type "set_iterator",data:=.fields #[rawInt slot,rawInt i,.ref a,rawInt n,rawInt ep] }
theorem Z8 {t:iq}{hs:Bd}(T:Ea t hs) (hb:w.params.followText "set-order" = false) {i:Nat}(hi:i<=t.place.size):ue t.place (gU w t i)=i:=by
 obtain⟨h1,h2,h3⟩:=uM (j:=gU w t i) T.rise;have mono:∀a b (ha:a<t.place.size) (hb:b<t.place.size),a<b->t.place[a]<t.place[b]:=by intro a b ha hb Ef;have:=ic.mp T.rise a b (by simpa using ha) (by simpa using hb) Ef;simpa using this
 unfold gU at h1 h2 h3 ⊢;rw[hb]at h1 h2 h3 ⊢;simp only[cu,if_false]at h1 h2 h3 ⊢
 cases i with
 |zero=>
  dsimp only at h1 h2 h3 ⊢;generalize ue t.place 0=r at h1 h2 h3 ⊢
  cases r with
  |zero=>rfl
  |succ r=>have:=h1 r (by omega) (by omega);omega
 |succ j=>
  dsimp only at h1 h2 h3 ⊢;have hj:j<t.place.size:=by omega
  have ej:t.place.getD j 0=t.place[j]:=by simp[kz,hj]
  rw[ej]at h1 h2 h3 ⊢;generalize ue t.place (t.place[j]+1)=r at h1 h2 h3 ⊢
  rcases Nat.lt_trichotomy r (j+1)with q|q|q
  ·have:=h2 j hj (by omega);omega
  ·exact q
  ·have:=h1 (j+1) (by omega) q;have:=mono j (j+1) hj (by omega) (by omega);omega
end
section
variable{a it:ai}{kb:KB}{o:Obj}{es:Array (Int×af)}{ep:Nat}{t:iq}
theorem Z9 {Q:Bool->ag->Prop}(P:Bx prog w s.heap a kb o es ep t) (h:Q false s):wpAny (model prog w) A (setDrawn a) Q E s:=by
 unfold setDrawn setsByText;refine aa (jw P.obj P.data P.fits ?_);dsimp only;refine aa (aa (nv (ah ?_)));have e:(!(w.params.followText "set-order")&&((!t.plain)&&decide (es.size>1)))=false:=by rw[P.tab.plain];simp
 show wpAny _ _ (pure (!(w.params.followText "set-order")&&((!t.plain)&&decide (es.size>1)))) _ _ s;rw[e];exact ah h
theorem a9 {Q:af->ag->Prop}(P:Bx prog w s.heap a kb o es ep t) (h:Q (.ref s.heap.objs.size) { s with heap:=s.heap.push (kH a 0 0 es.size ep) }):
  wpAny (model prog w) A (pyIter (.ref a)) Q E s:=by
 have hT:s.TypeIs (.ref a) "set" := ⟨o,P.obj,P.ex.1⟩;refine wpAny_pyIter_slot hT walk_slots.1 (fq walk_slots.1 hT Z5 ?_ (yE _).1);unfold md.«frozenset.__iter__» Builtin.Frozenset.slot0;refine aa (m:=(do Builtin.Frozenset.addrOf (<-slotArgs "__iter__" 0 ⟨[.ref a],[]⟩).1:Sem ai)) (ah ?_);unfold Builtin.Frozenset.sizeOf;refine aa (aa (xc P.obj P.data P.fits (ah ?_)));refine aa (Z9 P ?_);simp only[cu,if_false];refine aa (ah ?_);refine aa (wpAny_setEpoch_of P.obj P.data P.fits ?_);refine aa (dk ?_ (by size_fits));refine ah ⟨_,rfl,"set_iterator",_,⟨_,bc _ rfl,rfl⟩,walk_slots.2.1.lookup,h⟩
end
section
variable{a it:ai}{kb:KB}{o:Obj}{es:Array (Int×af)}{ep:Nat}{t:iq}
theorem MP {i:Nat}{Q:Option (af×Nat)->ag->Prop}(P:Bx prog w s.heap a kb o es ep t) (hi:i<=es.size)
  (h:Q (((iP w a ep es)[i]?).map λe=>(e.2,gU w t (i+1))) s):wpAny (model prog w) A (setNext a (gU w t i) i ep) Q E s:=by
 unfold setNext setsByText;refine aa (jw P.obj P.data P.fits ?_);dsimp only;refine aa (aa (nv (ah ?_)));have hps:t.place.size=es.size:=by have:=P.tab.size;rw[P.size];simpa using this
 show wpAny _ _ (if w.params.followText "set-order" = true then _ else _) _ _ s
 by_cases hb:w.params.followText "set-order" = true
 ·rw[if_pos hb,if_neg (by simp)];refine aa ?_;unfold setWalk setsByText;refine aa (jw P.obj P.data P.fits ?_);dsimp only;refine aa (aa (nv (ah ?_)));show wpAny _ _ (if w.params.followText "set-order" = true then _ else _) _ _ s;rw[if_pos hb];refine aa (nv (ah (ah ?_)));unfold iP gU at h;unfold gU;rw[if_pos hb]at h ⊢;rw[if_pos hb]at h;exact h
 ·have hb':w.params.followText "set-order" = false:=by simpa using hb
  rw[if_neg hb];have hl:t.led=true:=by rw[P.led,hb'];rfl
  have hd:((!t.plain)&&decide (es.size>1))=false:=by rw[P.tab.plain];rfl
  show wpAny _ _ (if((!t.plain)&&decide (es.size>1))=true then _ else _) _ _ s;rw[hd];simp only[cu,if_false];show wpAny _ _ ((if((!t.led)&&!es.isEmpty)=true then _ else _) >>= _) _ _ s;rw[hl];simp only[pg,Bool.false_and,cu,if_false];refine aa (ah ?_);have hbl:=Z8 (w:=w) P.tab hb' (i:=i) (by omega);rw[hbl];unfold iP at h;rw[if_neg hb]at h;refine ah ?_
  by_cases hlt:i<es.size
  ·have e1:es[i]?=some es[i]:=gp hlt;have e2:t.place[i]?=some t.place[i]:=gp (by omega);rw[e1]at h;rw[e1,e2];have e3:gU w t (i+1)=t.place[i]+1:=by unfold gU;rw[if_neg hb];simp[kz,show i<t.place.size by omega]
   rw[e3]at h;exact h
  ·have e1:es[i]?=none:=tw (by omega);rw[e1]at h ⊢;exact h
theorem b9 {i:Nat}{x:Int×af}{Q:Option af->ag->Prop}(P:Bx prog w s.heap a kb o es ep t) (hit:s.heap.get? it=some (kH a (gU w t i) i es.size ep)) (hx:(iP w a ep es)[i]?=some x)
  (hQ:∀h',h'.get? it=some (kH a (gU w t (i+1)) (i+1) es.size ep)->ja it s.heap h'->Q (some x.2) { s with heap:=h' }):wpAny (model prog w) A (pyNext (.ref it)) Q E s:=by
 have hT:s.TypeIs (.ref it) "set_iterator" := ⟨_,hit,rfl⟩;have hlt:i<es.size:=by rw[<-yF w a ep es];exact(dm.mp hx).1
 unfold pyNext;refine aa (xi (gm (name:=lj "__next__") hT walk_slots.2.1 (fq walk_slots.2.1 hT ML ?_ (yE _).2.1)));unfold md.«set_iterator.__next__»;refine aa (m:=slotArgs "__next__" 0 ⟨[.ref it],[]⟩) (ah ?_);refine aa (wpAny_fieldsOf hit rfl ?_);dsimp only;show wpAny _ _ (setEntries a >>= _) _ _ s;refine aa (xc P.obj P.data P.fits ?_);rw[if_neg (by simp)];show wpAny _ _ (setNext a ((gU w t i:Nat):Int).toNat ((i:Nat):Int).toNat ((ep:Nat):Int).toNat >>= _) _ _ s;rw[fj,fj,fj];refine aa (MP P (gu hlt) ?_);rw[hx];show wpAny _ _ (setField (.ref it) 0 (rawInt ((gU w t (i+1):Nat):Int)) >>= _) _ _ s;refine aa (jn hit (by simp) λh1 g1 b1=>?_);refine aa (jn g1 (by simp) λh2 g2 b2=>?_);refine ah ⟨_,rfl,ah (hQ h2 ?_ (b1.trans b2))⟩;rw[g2];rfl
theorem c7 {i:Nat}{Q:Option af->ag->Prop}(hh:A.handled=none) (P:Bx prog w s.heap a kb o es ep t) (hit:s.heap.get? it=some (kH a (gU w t i) i es.size ep)) (hi:i=es.size)
  (hQ:∀h',Ap it s.heap h'->Q none { s with heap:=h' }):wpAny (model prog w) A (pyNext (.ref it)) Q E s:=by
 have hT:s.TypeIs (.ref it) "set_iterator" := ⟨_,hit,rfl⟩;unfold pyNext;refine aa (xi (gm (name:=lj "__next__") hT walk_slots.2.1 (fq walk_slots.2.1 hT ML ?_ (yE _).2.1)));unfold md.«set_iterator.__next__»;refine aa (m:=slotArgs "__next__" 0 ⟨[.ref it],[]⟩) (ah ?_);refine aa (wpAny_fieldsOf hit rfl ?_);dsimp only;show wpAny _ _ (setEntries a >>= _) _ _ s;refine aa (xc P.obj P.data P.fits ?_);rw[if_neg (by simp)];show wpAny _ _ (setNext a ((gU w t i:Nat):Int).toNat ((i:Nat):Int).toNat ((ep:Nat):Int).toNat >>= _) _ _ s;rw[fj,fj,fj];refine aa (MP P (qi hi) ?_);rw[tw (by rw[yF];omega)];show wpAny _ _ (setField (.ref it) 2 jx >>= _) _ _ s;refine aa (jn hit (by simp) λh1 g1 b1=>?_);show wpAny _ _ (newExc (.type "StopIteration") [] >>= _) _ _ _;refine aa ?_;simp only[newExc,newTuple];refine aa (dk ?_ (by size_fits));refine aa (m:=firstArgMember _ _) (zh (a:=jx) (by first|rfl|(simp only[firstArgMember];rfl)) ?_);refine dk ?_ (by size_fits);simp only[raiseNew];refine aa (wpAny_handled ?_);rw[show A.in1.handled=none from hh];refine aa (ah (wpAny_throw ?_));refine aa (zc (T := "StopIteration") (b:=true) ⟨_,bc _ rfl,rfl⟩ isSubtype_stop ?_);exact ah (hQ _ ((b1.extBut.push _).push _))
end
section
variable{a:ai}{kb:KB}{o:Obj}{es:Array (Int×af)}{ep:Nat}{t:iq}
theorem Bx.at' {h h':cy}(P:Bx prog w h a kb o es ep t) (k:h'.get? a=some o):Bx prog w h' a kb o es ep t:=⟨k,P.ex,P.data,P.es,P.tab,P.nd,P.nf,P.led⟩
theorem c8 (hh:A.handled=none) (I:ai) (hne:a≠I):
  Walks prog w A I [I,a] [I] es.size (λi v=>∃x,(iP w a ep es)[i]?=some x/\v=x.2) (λi h=>Bx prog w h a kb o es ep t/\h.get? I=some (kH a (gU w t i) i es.size ep)) where
 sub:=λb hb=>by rw[cg.mp hb];exact bf ..
 frame:=λi h h' ⟨p,q⟩ k=>⟨p.at' (k a (by simp) _ p.obj),k I (by simp) _ q⟩
 item:=λi s Q E hi ⟨p,q⟩ hQ=>by
  have hi':i<(iP w a ep es).size:=by rw[yF];exact hi
  have hx:(iP w a ep es)[i]?=some (iP w a ep es)[i]:=gp hi';refine b9 p q hx λh' q' sb=>hQ _ h' s.toks ⟨_,hx,rfl⟩ ⟨p.at' ((sb.2 a hne).trans p.obj),q'⟩ λb o hb e=>?_;exact(sb.2 b λz=>hb (by rw[z];exact bf ..)).trans e
 done:=λs Q E ⟨p,q⟩ hQ=>c7 hh p q rfl λh' x=>hQ h' s.toks λb o hb e=>x b o (λz=>hb (by rw[z];exact bf ..)) e
 self:=λi s Q E ⟨_,q⟩ hQ=>by have hT:s.TypeIs (.ref I) "set_iterator" := ⟨_,q,rfl⟩;refine wpAny_pyIter_slot hT walk_slots.2.2.1 (fq walk_slots.2.2.1 hT Z6 ?_ (yE _).2.2);exact ah ⟨_,rfl,"set_iterator",_,⟨_,q,rfl⟩,walk_slots.2.1.lookup,hQ⟩
theorem d6 {S:ai}{n:Nat}{Q:Unit->ag->Prop}(h:s.heap.get? S=some (seqObj "list" #[] n)) (q:∀h' c,h'.get? S=some (seqObj "list" #[] c)->(∀b o,b≠S->s.heap.get? b=some o->h'.get? b=some o)->Q () { s with heap:=h' }):
  wpAny (model prog w) A (xj (.ref S)) Q E s:=by
 unfold xj;refine aa (um h rfl ?_);have h1:=mw h (λx=>x.push jx);refine um h1 rfl ?_;have h2:=mw h1 (λx=>x.pop);refine q _ _ h2 λb o hb e=>?_;rw[jv _ _ _ _ hb,jv _ _ _ _ hb];exact e
theorem d7 {Q:List af->ag->Prop}(hh:A.handled=none) (P:Bx prog w s.heap a kb o es ep t) (hn:es.size<=cb)
  (q:∀(h':cy) (tk:Nat),(∀b o,s.heap.get? b=some o->h'.get? b=some o)->s.heap.objs.size<=h'.objs.size->Q ((iP w a ep es).toList.map (·.2)) { s with heap:=h',toks:=tk }):wpAny (model prog w) A (collect (.ref a)) Q E s:=by
 have la:a<s.heap.objs.size:=aq P.obj;have up1:∀b o,s.heap.get? b=some o->(s.heap.push (seqObj "list" #[] 0)).get? b=some o:=λb o e=>aj _ e;have hS1:(s.heap.push (seqObj "list" #[] 0)).get? s.heap.objs.size=some (seqObj "list" #[] 0):=bc _ rfl;have P1:Bx prog w (s.heap.push (seqObj "list" #[] 0)) a kb o es ep t:=P.at' (up1 a o P.obj);have hT1:oz { s with heap:=s.heap.push (seqObj "list" #[] 0) } (.ref a) "set" := ⟨o,P1.obj,P1.ex.1⟩;unfold collect;refine aa (we (mr entry_proto_collect' ?_));rw[ka F.plain_proto_collect _];refine aa (m:=newList []) (uq (ah ⟨vt _ (by decide +kernel),mr entry_list_iadd' ?_⟩));rw[ka F.plain_list_iadd _];show wpAny _ A.in1 (kq (.ref s.heap.objs.size) (.ref a) (.ref s.heap.objs.size)) _ _ { s with heap:=s.heap.push (seqObj "list" #[] 0) };unfold kq;refine aa (nu hT1 ?_);have ne:wm (.ref s.heap.objs.size) (.ref a)=false:=by simp[wm,ji la]
 rw[if_neg (by rw[ne];decide)];refine aa (a9 P1 ?_);have sz:(s.heap.push (seqObj "list" #[] 0)).objs.size=s.heap.objs.size+1:=xw _ _;rw[sz];have up2:∀b o,(s.heap.push (seqObj "list" #[] 0)).get? b=some o->((s.heap.push (seqObj "list" #[] 0)).push (kH a 0 0 es.size ep)).get? b=some o:=λb o e=>aj _ e;have P2:Bx prog w ((s.heap.push (seqObj "list" #[] 0)).push (kH a 0 0 es.size ep)) a kb o es ep t:=P1.at' (up2 a o P1.obj);have hT2:oz { s with heap:=(s.heap.push (seqObj "list" #[] 0)).push (kH a 0 0 es.size ep) } (.ref a) "set" := ⟨o,P2.obj,P2.ex.1⟩;have hI2:((s.heap.push (seqObj "list" #[] 0)).push (kH a 0 0 es.size ep)).get? (s.heap.objs.size+1)=some (kH a 0 0 es.size ep):=by rw[<-sz];exact bc _ rfl
 refine aa (gv ?_);unfold Builtin.List.listLengthHint;refine aa (wpAny_specialOf hT2 walk_slots.2.2.2.lookup ?_);have spl:splitId "set.__len__" = some ("set","__len__"):=by decide +kernel
 dsimp only;rw[spl];dsimp only;refine aa (zc (b:=true) hT2 sub_set_self ?_);rw[if_neg (by decide),if_pos (by decide +kernel)];refine aa (nu hT2 (ah ?_));rw[if_pos (by decide +kernel)];refine aa (si ?_);refine aa (d6 (s:={ s with heap:=(s.heap.push (seqObj "list" #[] 0)).push (kH a 0 0 es.size ep) }) (up2 _ _ hS1) λh3 c hS3 up3=>?_);have neS:∀b o,s.heap.get? b=some o->b≠s.heap.objs.size:=λb o e=>ay (aq e);have P3:Bx prog w h3 a kb o es ep t:=P2.at' (up3 a o (ay la) P2.obj);have hI3:h3.get? (s.heap.objs.size+1)=some (kH a 0 0 es.size ep):=up3 _ _ (ph _) hI2;have hz:gU w t 0=0:=by unfold gU;split <;> rfl
 have hh2:A.in1.handled=none:=by simp[hh]
 have nin:s.heap.objs.size∉[s.heap.objs.size+1,a]:=λm=>by
  rcases az.mp m with e|m
  ·exact ph _ e.symm
  ·exact ji la (cg.mp m)
 refine ah ⟨plainId_quiet F.plain_extend_loop _,codeAny_extend_loopS (A:=A) ((c8 (kb:=kb) (o:=o) (t:=t) (ep:=ep) (es:=es) hh2 (s.heap.objs.size+1) (a:=a) (ay (ki la))).toS) hn s.heap.objs.size nin _ es.size 0 { s with heap:=h3 } #[] c rfl (gr _)
  ⟨P3,by rw[hz];exact hI3⟩ hS3 (ItemsOf.nil _) λs' acc c' mv hS' ia=>?_⟩
 have eacc:acc.toList=(iP w a ep es).toList.map (·.2):=by
  apply wo
  intro i;rw[ly,dj,ly]
  cases q:acc[i]? with
  |some v=>obtain⟨x,h1,h2⟩:=ia.2 i v q;rw[h1,h2];rfl
  |none=>have h1:acc.size<=i:=Array.getElem?_eq_none_iff.mp q;rw[tw (by rw[yF,<-ia.1];exact h1)];rfl
 obtain⟨hp,gs,dr,tk,os⟩:=s';have e1:gs=s.gens:=mv.gens;have e2:dr=s.drawn:=mv.drawn;have e3:os=s.os:=mv.os;subst e1;subst e2;subst e3;show wpAny _ A (load s.heap.objs.size >>= _) _ _ _;refine aa (wpAny_load hS' (ah ?_));rw[eacc];refine q hp tk (λb o e=>mv.heap b o (λm=>?_) (up3 b o (neS b o e) (up2 b o (up1 b o e)))) (gu (aq hS'))
 rcases az.mp m with z|m
 ·exact neS b o e z
 ·exact ay (ki (aq e)) (cg.mp m)
end
open PySem.W SoM L2
section
theorem MQ {fin:Bool}{Q:Bool->ag->Prop}:∀{kx ky:Bd}{vx vy:List af}(i:Nat),ItemsAre (intKind prog w) kx vx->ItemsAre (intKind prog w) ky vy->fin=decide (vx.length<vy.length)->Q (cX kx ky) s->KatLex prog w A true fin Q (vx.zip vy) i s
 |_,_,_,_,i,.nil,.nil,hf,h=>by subst hf;exact kat_nil h
 |_,_,_,_,i,.nil,.cons _ _,hf,h=>by subst hf;refine kat_nil ?_;rw[decide_eq_true (by simp)];exact h
 |_,_,_,_,i,.cons _ _,.nil,hf,h=>by subst hf;refine kat_nil ?_;rw[decide_eq_false (by simp)];exact h
 |_,_,_,_,i,.cons (k:=a) hu hx,.cons (k:=b) hv hy,hf,h=>by
  obtain⟨t,rfl⟩:=oh hu;obtain⟨t',rfl⟩:=oh hv;refine kat_cons (yv (kat_go (λe=>?_) λe=>?_))
  ·refine kat_yes (MQ (i+1) hx hy (hf.trans (by simp)) ?_);rw[cX,if_pos e]at h;exact h
  ·have h':Q (decide (a<b)) s:=by rw[cX,if_neg (by rw[e];simp)]at h;exact h
   refine kat_no ?_
   cases q:i==0 with
   |true=>exact oneLt_int h'
   |false=>exact kat_one _ _ (yg h')
theorem d8 {x y:ai}{kx ky:Bd}{Q:Bool->ag->Prop}(hx:gw (intKind prog w) s.heap kx x) (hy:gw (intKind prog w) s.heap ky y) (h:Q (cX kx ky) s):wpAny (model prog w) A (keyLt' (tuples' true) (.ref x) (.ref y)) Q E s:=by obtain⟨ox,ix,nx,e1,_,d1,i1⟩:=hx;obtain⟨oy,iy,ny,e2,_,d2,i2⟩:=hy;exact kat_lt e1 d1 e2 d2 (MQ 0 i1 i2 (by simp) h)
def Df (prog:bh) (w:cj) (h:cy) (n:Nat) (ad:Nat->ai) (ky:Nat->Bd):Prop:=∀i,i<n->gw (intKind prog w) h (ky i) (ad i)/\ky i≠[]
def cB (n:Nat) (ad:Nat->ai):List af:=(bo n).map λi=>.ref (ad i)
theorem kZ (n:Nat) (ad:Nat->ai):(cB n ad).length=n:=by simp[cB]
theorem DG {n:Nat}{ad:Nat->ai}{i:Nat}(h:i<n):(cB n ad).getD i jx=.ref (ad i):=by simp[cB,h]
theorem MR:∀(l:Be) {ad:Nat->ai}{ky:Nat->Bd},(∀i∈l,gw (intKind prog w) s.heap (ky i) (ad i)/\ky i≠[])->∃fs:List af,KatTups s.heap (l.map λi=>.ref (ad i)) fs/\fs.length=l.length/\∀v∈fs,∃a t,v=.int a t
 | [],_,_,_=>⟨[],trivial,rfl,by simp⟩
 |i::l,ad,ky,h=>by
  obtain⟨fs,t,hl,hv⟩:=MR l (ad:=ad) (ky:=ky) λj hj=>h j (ar _ hj);obtain⟨⟨o,its,n,e,c,d,r⟩,ne⟩:=h i (bf ..)
  cases q:its.toList with
  |nil=>rw[q]at r;cases hk:ky i with
   |nil=>exact absurd hk ne
   |cons a b=>rw[hk]at r;cases r
  |cons v vs=>
   rw[q]at r
   cases hk:ky i with
   |nil=>exact absurd hk ne
   |cons a b=>
    rw[hk]at r
    cases r with
    |cons hu _=>
     obtain⟨tk,rfl⟩:=oh hu;refine⟨.int a tk::fs,KatTups.cons e c d (by rw[<-ly,q];rfl) t,by simp[hl],λv hv'=>?_⟩
     rcases az.mp hv' with rfl|hv'
     ·exact⟨_,_,rfl⟩
     ·exact hv v hv'
theorem d9 {n:Nat}{ad:Nat->ai}{ky:Nat->Bd}{G:Array Nat->ag->Prop}(h2:2<=n) (hk:Df prog w s.heap n ad ky)
  (h:∀p,Ent n p->gR cX (p.toList.map ky)->G p s):
  wpAny (model prog w) A (keyKind' (cB n ad).toArray) (λκ s'=>(kas_sort (cB n ad).length).kasWp (kas_ask prog w A κ (cB n ad)) G s') (λ_ _=>False) s:=by
 obtain⟨fs,t,hl,hv⟩:=MR (prog:=prog) (w:=w) (s:=s) (bo n) (ad:=ad) (ky:=ky) λi hi=>hk i (bu.mp hi);refine kat_kind (T:=.type "int") t (by rw[hl,mm];omega) (λv hv'=>?_) (by decide) ?_
 ·obtain⟨a,tk,rfl⟩:=hv v hv';exact .now
 ·rw[kZ]
  let ks:=(bo n).map ky
  have mem:∀i,i<n->ky i∈ks:=λi hi=>cp.mpr ⟨i,bu.mpr hi,rfl⟩;refine LJ (n:=n) (f:=λi=>rk cX ks (ky i)) (I:=λs'=>s'=s) (λi j C s' hs hi hj hC=>?_) (kas_sort n) (λp=>Ent n p/\gR cX (p.toList.map ky)) G s s (Y9 (by omega) λp e inc=>⟨e, ?_⟩) rfl λp s' hp hs=>by subst hs;exact h p hp.1 hp.2
  ·subst hs;show wpAny (model prog w) A (keyLt' (tuples' true) ((cB n ad).getD i jx) ((cB n ad).getD j jx)) C (λ_ _=>False) s';rw[DG hi,DG hj];refine d8 (hk i hi).1 (hk j hj).1 ?_;have:=hC s' rfl;rwa [LO Dq (mem i hi)]at this
  ·refine ic.mpr λi j hi hj C'=>?_;have hj':j<p.size:=by simpa using hj
   have hi':i<p.size:=by omega
   have z:=inc i j (gu C') (by rw[<-e.1];exact hj');unfold SoM.F at z;have ei:p.getD i 0=p[i]:=by simp[kz,hi']
   have ej:p.getD j 0=p[j]:=by simp[kz,hj']
   rw[ei,ej]at z;have lt:∀k (hk:k<p.size),p[k]<n:=λk hk=>bu.mp (e.2.mem_iff.mp (by simp));have:=ZC Dq (mem _ (lt j hj')) z;simpa using this
end
section
abbrev pY (h h':cy):Prop:=∀b o,h.get? b=some o->h'.get? b=some o
def Dn (n:Nat) (ad:Nat->ai) (ky:Nat->Bd) (out:List af):Prop:=∃p:Be,p.Perm (bo n)/\gR cX (p.map ky)/\out=p.map λi=>.ref (ad i)
theorem Dn.len {n:Nat}{ad:Nat->ai}{ky:Nat->Bd}{out:List af}(h:Dn n ad ky out):out.length=n:=by obtain⟨p,pp,_,e⟩:=h;rw[e,bg,pp.length_eq,mm]
theorem Df.keep {h h':cy}{n:Nat}{ad:Nat->ai}{ky:Nat->Bd}(k:Df prog w h n ad ky) (g:∀i,i<n->∀o,h.get? (ad i)=some o->h'.get? (ad i)=some o):Df prog w h' n ad ky:=λi hi=>⟨yD (k i hi).1 (g i hi),(k i hi).2⟩
theorem h8 {a:ai}{n c:Nat}{ad:Nat->ai}{ky:Nat->Bd}{P:Fin->ag->Prop}(ho:s.heap.get? a=some (seqObj "list" (cB n ad).toArray c)) (h64:n<64) (hk:Df prog w s.heap n ad ky)
  (q:∀h' e out,Dn n ad ky out->h'.get? a=some (seqObj "list" out.toArray e)->(∀b o,b≠a->s.heap.get? b=some o->h'.get? b=some o)->P (.done (.ret .none)) { s with heap:=h' }):
  wpAny (model prog w) A (md.«list.sort» ⟨[.ref a],[]⟩) P E s:=by
 have la:a<s.heap.objs.size:=aq ho;obtain⟨e1,g1⟩:∃e1,(s.heap.update a (pd λ_=>(#[]:Array af))).get? a=some (seqObj "list" #[] e1):=⟨_,mw ho λ_=>#[]⟩
 have k1:∀b o,b≠a->s.heap.get? b=some o->(s.heap.update a (pd λ_=>(#[]:Array af))).get? b=some o:=λb o hb e=>by rw[jv _ _ _ _ hb];exact e
 generalize hH1:s.heap.update a (pd λ_=>(#[]:Array af))=H1 at g1 k1;have k3:pY H1 ((H1.push (seqObj "tuple" (cB n ad).toArray 0)).push (seqObj "list" #[] 0)):=λb o e=>aj _ (aj _ e);have ne:∀i,i<n->ad i≠a:=λi hi e=>by obtain⟨⟨o,its,m,e1,c1,_⟩,_⟩:=hk i hi;rw[e,ho]at e1;cases e1;exact absurd (Value.type.inj c1) (by decide)
 have K3:Df prog w ((H1.push (seqObj "tuple" (cB n ad).toArray 0)).push (seqObj "list" #[] 0)) n ad ky:=hk.keep λi hi o e=>k3 _ o (k1 _ o (ne i hi) e);have g3:=k3 a _ g1;have kk:∀b o,b≠a->s.heap.get? b=some o->((H1.push (seqObj "tuple" (cB n ad).toArray 0)).push (seqObj "list" #[] 0)).get? b=some o:=λb o hb e=>k3 b o (k1 b o hb e);have sl:n<=cb:=by rw[jr];omega
 have fin:∀(out:List af),Dn n ad ky out->wpAny (model prog w) A (do
   let touched:=(<-seqEpoch a) != e1
   Builtin.List.listUpdate (.ref a) λ_=>out.toArray
   if let some e:=(none:Option af)then rule "list.sort.comparison-raised"; throw e
   if touched then rule "list.sort.modified"; raiseError "ValueError" "list modified during sort"
   ret .none) P E { s with heap:=(H1.push (seqObj "tuple" (cB n ad).toArray 0)).push (seqObj "list" #[] 0) }:=λout Es=>by
  refine aa (seqEpoch_at g3 rfl ?_);refine aa (um g3 rfl ?_ (gr _) (by rw[av,Es.len];omega));simp only[bne_self_eq_false,cu,if_false];exact ah (q _ _ out Es (mw g3 λ_=>out.toArray) λb o hb e=>by rw[jv _ _ _ _ hb];exact kk b o hb e)
 generalize hH3:(H1.push (seqObj "tuple" (cB n ad).toArray 0)).push (seqObj "list" #[] 0)=H3 at k3 K3 g3 kk fin;rw[list_sort_plain];refine aa (listItems_at ho rfl (aa (um ho rfl ?_ (by rw[av,kZ];exact sl) (gr _))));rw[hH1];refine aa (seqEpoch_at g1 rfl (aa (wpAny_newTuple (aa (uq (gv ?_) (gr _))) (by show(cB n ad).length<=_;rw[kZ];exact sl))));show wpAny (model prog w) A _ P E { s with heap:=(H1.push (seqObj "tuple" (cB n ad).toArray 0)).push (seqObj "list" #[] 0) };rw[hH3];have hz:(cB n ad).toArray.size=n:=by rw[av,kZ]
 dsimp only
 by_cases h2:n<2
 ·rw[if_pos (by rw[hz];exact h2),if_pos (by rw[hz];exact h2)];refine aa (ah ?_);rw[StateT.run_pure];refine aa (ah ?_);have e:(arrOf (SortSt.mk' general' ((cB n ad).toArray.zip (cB n ad).toArray) #[] 7 none)).map (·.2)=(cB n ad).toArray:=by show(((cB n ad).toArray.zip (cB n ad).toArray)).map (·.2)=_;rw[Array.map_snd_zip (ak _)]
  dsimp only;rw[e];refine fin _ ⟨bo n,.refl _, ?_,rfl⟩;refine ic.mpr λi j hi hj C'=>?_;rw[bg,mm]at hj;omega
 ·have h2':2<=n:=by omega
  rw[if_neg (by rw[hz];exact h2),if_neg (by rw[hz];exact h2)];refine aa (kn (d9 (A:=A) (s:={ s with heap:=H3 }) (G:=λp s'=>s'={ s with heap:=H3 }/\Ent n p/\gR cX (p.toList.map ky)) h2' K3 λp e r=>⟨rfl,e,r⟩) (λκ s0 hκ=>?_) λ_ _ x=>x.elim);refine aa (kn (kat_run (ks:=cB n ad) (vs:=cB n ad) (Q:=λEh s'=>∃p:Array Nat,p.size=(cB n ad).length/\arrOf Eh=p.map (kas_item ((cB n ad).toArray.zip (cB n ad).toArray))/\failedOf Eh=none/\s'={ s with heap:=H3 }/\Ent n p/\gR cX (p.toList.map ky))
   rfl (by rw[kZ];exact h2') (by rw[kZ];exact h64) (λp Eh s' z1 z2 z3 z4=>⟨p,z1,z2,z3,z4⟩) hκ) ?_ λ_ _ e=>e)
  rintro ⟨⟨⟩,Eh⟩ s' ⟨p,_,z2,z3,rfl,z5,z6⟩
  dsimp only;rw[kat_snds rfl z2,z3];have e:(p.toList.map λi=>(cB n ad).getD i jx)=p.toList.map λi=>.ref (ad i):=Bb λi hi=>DG (bu.mp (z5.2.mem_iff.mp hi));rw[e];exact fin _ ⟨p.toList,z5.2,z6,rfl⟩
theorem h9 {x:af}{n:Nat}{ad:Nat->ai}{ky:Nat->Bd}{Q:af->ag->Prop}(h64:n<64) (hk:Df prog w s.heap n ad ky)
  (hc:∀(Q':List af->ag->Prop) (E':af->ag->Prop),(∀h' tk,pY s.heap h'->s.heap.objs.size<=h'.objs.size->Q' (cB n ad) { s with heap:=h',toks:=tk })->wpAny (model prog w) A.in1 (collect x) Q' E' s)
  (q:∀h' tk D e out,Dn n ad ky out->s.heap.objs.size<=D->h'.get? D=some (seqObj "list" out.toArray e)->pY s.heap h'->Q (.ref D) { s with heap:=h',toks:=tk }):
  wpAny (model prog w) A (call (.builtin "sorted") [x]) Q E s:=by
 refine Calls.call_function_entry kind_sorted plain_sorted entry_sorted (args_sorted1 _) ?_;unfold md.«sorted»;refine aa (m:=checkCount "sorted" 1 1 _) (ah (aa (hc _ _ λh1 tk k1 sz=>aa (uq ?_ (by rw[kZ,jr];omega)))));have g:(h1.push (seqObj "list" (cB n ad).toArray 0)).get? h1.objs.size=some (seqObj "list" (cB n ad).toArray 0):=bc _ rfl;have k2:pY s.heap (h1.push (seqObj "list" (cB n ad).toArray 0)):=λb o e=>aj _ (k1 b o e);refine aa (gv (fq slot_list_sort ⟨_,g,rfl⟩ entry_list_sort (h8 (s:={ s with heap:=h1.push (seqObj "list" (cB n ad).toArray 0),toks:=tk }) g h64 (hk.keep λi hi o e=>k2 _ o e) λh' e out so ho ke=>⟨_,rfl, ?_⟩) (args_list_sort _)));exact ah ⟨_,rfl,q h' tk h1.objs.size e out so sz ho λb o e=>ke b o (ay (au (aq e) sz)) (k2 b o e)⟩
end
def bare (w:cj):Obj:={ cls:=.type "set",dict:=none,data:=.set #[] 0 (.fresh 0 0 (!w.params.followText "set-order")) }
section
theorem i0 {h:cy}{a:ai}(e:h.get? a=some (bare w)):kY prog w h a []:=by
 have tok:∀led:Bool,Ea (.fresh 0 0 led) []:=λled=>⟨rfl,.nil,rfl,(λj hj=>nomatch hj),gr _,.inl rfl,(λi h j e=>nomatch e),rfl⟩
 exact⟨bare w,#[],0,_,e,⟨rfl,rfl,rfl⟩,rfl,rfl,tok _,.nil,(by show 0*5<7*3;decide),rfl⟩
theorem MT (a:af) {Q:af->ag->Prop}(q:Q (.ref s.heap.objs.size) { s with heap:=s.heap.push (bare w) }):
  codeAny (model prog w) A (.call (.builtin "set.__new__") ⟨[.type "set",a],[]⟩) (wants Q E) s:=by
 refine qj F.plain_set_new F.entry_set_new (zh (F.newCall_set_1 a) ?_);have self:=sub_set_self;unfold md.«set.__new__» Builtin.Frozenset.newClass;cases s
 wp_walk
 exact nv (ah (aa (wpAny_alloc (ah (ah q)))))
theorem MU {v:af}{Q N:af->ag->Prop}(hn:codeAny (model prog w) A.in1 (.call (.builtin "set.__new__") ⟨[.type "set",v],[]⟩) (wants N E) s)
  (hi:∀x s1,N x s1->s1.TypeIs x "set"/\codeAny (model prog w) A.in1 (.call (.builtin "set.__init__") ⟨[x,v],[]⟩) (wants (λr s2=>r=.none/\Q x s2) E) s1):wpAny (model prog w) A (call (.type "set") [v]) Q E s:=by
 have f:=F.called_set;obtain⟨_,_,fm⟩:=f.mro;have fd:=f.made;have fs:=f.sub;have ft:=f.notType;have fc:=f.canCreate;have fk:=F.typeCall_set_1 v;have fl:=f.init.lookup;have q:(Code.builtin "type.__call__" ⟨[.type "set",v],[]⟩).quiet=true:=vt _ (by decide +kernel);refine wpAny_call (codeAny_of_tree (ah ⟨q,mr F.entry_type_call ?_⟩));rw[Around.under_plain (weight_type_call_type "set" [v] []) rfl]
 repeat (any_goals (first|assumption|wp_step))
 refine qu hn ?_
 rintro (e|fl1) s1 h1
 ·exact h1
 ·cases fl1 <;> try exact h1.elim
  rename_i x;obtain⟨hx,hr⟩:=hi x s1 h1;have fb:=f.init.bind x
  repeat (any_goals (first|assumption|wp_step))
  refine qu hr ?_
  rintro (e|Fv) s2 h2
  ·exact h2
  ·cases Fv <;> try exact h2.elim
   obtain⟨rfl,h3⟩:=h2
   repeat (any_goals (first|assumption|wp_step))
theorem MV {l:ai}{T:String}{it:Obj}{n:Nat}{P:Nat->af->Prop}{St:Nat->cy->Prop}{fp wr:List ai}(ad:Nat->ai) (ky:Nat->Bd) (U:A') {Q:af->ag->Prop}
  (hu:A.units+8<cLine) (hT:s.TypeIs (.ref l) T) (n1:isSubtype (.type T) (.type "set")=pure false) (n2:isSubtype (.type T) (.type "frozenset")=pure false) (n3:(vj T==vj "dict")=false)
  (hi:∀(B:bw) (Q':af->ag->Prop) (E':af->ag->Prop),Q' (.ref (s.heap.objs.size+1)) { s with heap:=(s.heap.push (bare w)).push it }->wpAny (model prog w) B (pyIter (.ref l)) Q' E' { s with heap:=s.heap.push (bare w) })
  (W:Walks prog w A.in1.in1.in1 (s.heap.objs.size+1) fp wr n P St) (hfp:s.heap.objs.size∉fp) (hwr:∀b∈wr,s.heap.objs.size<b) (h0:St 0 ((s.heap.push (bare w)).push it))
  (hval:∀i v,P i v->v=.ref (ad i)) (hU:U.length<=76) (hky:∀i,i<n->ky i∈U) (Ez:∀j,j<n->gw (intKind prog w) s.heap (ky j) (ad j))
  (q:∀(h':cy) (tk:Nat) kb,kY prog w h' s.heap.objs.size kb->Upto ky ad n kb->(∀b o,s.heap.get? b=some o->h'.get? b=some o)->Q (.ref s.heap.objs.size) { s with heap:=h',toks:=tk }):
  wpAny (model prog w) A (call (.type "set") [.ref l]) Q E s:=by
 refine MU (N:=λx s1=>x=.ref s.heap.objs.size/\s1={ s with heap:=s.heap.push (bare w) }) (MT _ ⟨rfl,rfl⟩) ?_
 rintro x s1 ⟨rfl,rfl⟩
 have up:∀b o,s.heap.get? b=some o->(s.heap.push (bare w)).get? b=some o:=λb o e=>aj _ e;have hb:(s.heap.push (bare w)).get? s.heap.objs.size=some (bare w):=bc _ rfl;have hS:oz { s with heap:=s.heap.push (bare w) } (.ref s.heap.objs.size) "set" := ⟨_,hb,rfl⟩;refine⟨hS,qj F.called_set.init.plain F.entry_set_init (check_set_init_1 hS ?_)⟩;obtain⟨ol,el,cl⟩:=hT;have hl1:oz { s with heap:=s.heap.push (bare w) } (.ref l) T:=⟨ol,up l ol el,cl⟩
 have lt:∀j,j<n->ad j<s.heap.objs.size:=λj hj=>let ⟨_,_,_,e,_⟩:=Ez j hj;aq e;have Eu:((s.heap.push (bare w)).push it).get? s.heap.objs.size=some (bare w):=aj _ hb;have run:∀(R:xq->ag->Prop),(∀h' tk kb,kY prog w h' s.heap.objs.size kb->Upto ky ad n kb->(∀b o,s.heap.get? b=some o->h'.get? b=some o)->R (.ok (.ret .none)) { s with heap:=h',toks:=tk })->
   codeAny (model prog w) A.in1.in1 (.builtin "set.update.loop" ⟨[.ref s.heap.objs.size,.ref (s.heap.objs.size+1)],[]⟩) R { s with heap:=(s.heap.push (bare w)).push it }:=λR hR=>by
  refine Z4 W s.heap.objs.size hfp ad ky hval (by show A.units+1+1+2<cLine;omega) U hU hky (λj hj=>⟨ay (lt j hj),λm=>Ak (lt j hj) (hwr _ m)⟩) n 0 _ [] rfl (gr _) h0 (i0 Eu)
   ⟨(λp hp=>nomatch hp),λj hj=>absurd hj (Nat.not_lt_zero j)⟩ (λj hj=>yD (Ez j hj) λo e=>aj _ (up _ o e)) λh' tk kb keep S u=>hR h' tk kb S u λb o e=>?_
  have hlt:=aq e;exact keep b o (λm=>(az.mp m).elim (ay hlt) λm=>Ak hlt (hwr b m)) (aj _ (up b o e))
 unfold md.«set.__init__» noKeywords ur;generalize hPI:pyIter=PI;unfold bare at hb
 wp_walk
 subst hPI;refine hi _ _ _ ?_;refine aa (we (run _ λh' tk kb S u keep=>?_));exact ah (ah ⟨rfl,q h' tk kb S u keep⟩)
end
end SR
namespace L2.Mr
open SR
def B' (H:Hp):Hf->A'->Prop
 | [],[]=>True
 |v::vs,k::ks=>(∃b,v=.ref b/\H b=some (.tup (k.map Gh)))/\B' H vs ks
 |_,_=>False
def i6:V->ai
 | .ref b=>b
 |_=>0
def fU (vs:Hf) (i:Nat):ai:=i6 (vs.getD i .non)
section
variable{X:Cx}{pins:List (ai×Obj)}{σ:St}{H H':Hp}{s:ag}
theorem B'.len:∀{vs:Hf}{ks:A'},B' H vs ks->vs.length=ks.length
 | [],[],_=>rfl
 | [],_::_,h=>h.elim
 |_::_,[],h=>h.elim
 |v::vs,k::ks,h=>by rw[dg,dg,B'.len h.2]
theorem B'.at_:∀{vs:Hf}{ks:A'}{i:Nat},B' H vs ks->i<ks.length->vs[i]?=some (.ref (fU vs i))/\H (fU vs i)=some (.tup ((ks.getD i []).map Gh))
 | [],[],_,_,h=>by simp at h
 | [],_::_,_,h,_=>h.elim
 |_::_,[],_,h,_=>h.elim
 |v::vs,k::ks,0,h,_=>by obtain⟨⟨b,rfl,e⟩,_⟩:=h;exact⟨rfl,e⟩
 |v::vs,k::ks,i+1,h,hi=>by
  obtain⟨e1,e2⟩:=B'.at_ (i:=i) h.2 (by simpa using hi);have ea:fU (v::vs) (i+1)=fU vs i:=by simp[fU]
  exact⟨by rw[ea];simpa using e1,by rw[ea];simpa using e2⟩
theorem MW:∀{k:Bd}{its:List af}{prog:bh}{w:cj},Bp (k.map Gh) its->ItemsAre (intKind prog w) k its
 | [],_,_,_,.nil=>.nil
 |n::k,_,_,_,.cons h1 h2=>by obtain⟨t,rfl⟩:=h1;exact .cons (intKind_is _ _ _ _) (MW h2)
theorem DH (I:Inv X pins σ H s) {b:ai}{k:Bd}(e:H b=some (.tup (k.map Gh))):gw (intKind X.prog X.w) s.heap k b:=by obtain⟨_,its,r,o,e1,c,_,n,d⟩:=I.hok b _ e;exact⟨o,its.toArray,n,e1,c,d,MW r⟩
theorem MX {vs:Hf}{ks:A'}{its:List af}(h:B' H vs ks) (r:Bp vs its):its=cB ks.length (fU vs):=by
 have hl:=r.length;have hl2:=h.len
 apply wo
 intro i
 by_cases hi:i<ks.length
 ·obtain⟨e1,_⟩:=h.at_ hi;obtain⟨u,e2,e3⟩:=r.get e1;cases e3;rw[e2];simp[cB,hi]
 ·rw[Al (by omega),Al (by rw[kZ];omega)]
theorem i8 {n:Nat}{ad:Nat->ai}{ky:Nat->Bd}{out:List af}(so:Dn n ad ky out) (hH:∀i,i<n->H (ad i)=some (.tup ((ky i).map Gh))):
  ∃(p:Be) (Cs:Hf),p.Perm (bo n)/\gR cX (p.map ky)/\Bp Cs out/\B' H Cs (p.map ky):=by
 obtain⟨p,pp,r,rfl⟩:=so;refine⟨p,p.map λi=>Gx (ad i),pp,r, ?_, ?_⟩
 ·clear pp r
  induction p with
  |nil=>exact .nil
  |cons i p ih=>exact .cons rfl ih
 ·have:∀q:Be,(∀i∈q,i<n)->B' H (q.map λi=>Gx (ad i)) (q.map ky):=λq=>by
   induction q with
   |nil=>intro _;trivial
   |cons i q ih=>exact λh=>⟨⟨_,rfl,hH i (h i (bf ..))⟩,ih λj hj=>h j (ar _ hj)⟩
  exact this p λi hi=>bu.mp (pp.mem_iff.mp hi)
theorem i9 {α:Type}{p:Be}{n:Nat}{l:List α}{d:α}(h:p.Perm (bo n)) (hl:l.length=n):(p.map λi=>l.getD i d).Perm l:=by
 refine(h.map _).trans ?_;have:(bo n).map (λi=>l.getD i d)=l:=by
  apply List.ext_getElem (by simp[hl])
  intro i h1 h2;simp[h2]
 rw[this]
def yG (prog:bh) (w:cj) (l:ai) (o:Obj) (kb:KB):Prop:=∃es ep t,∀h:cy,h.get? l=some o->Bx prog w h l kb o es ep t
structure KbOk (H:Hp) (kb:KB) (ks:A'):Prop where
 tup:∀p∈kb,H p.2=some (.tup (p.1.map Gh))
 frm:∀p∈kb,p.1∈ks
 all:∀k∈ks,k∈kb.map fe
abbrev MY (X:Cx):Hf->Hp->VK->Prop:=λxs H Q=>∃(p:ai) (vs:Hf) (ks:A'),xs=[.ref p]/\H p=some (.lst vs)/\B' H vs ks/\(eF cX ks).length<=76/\∀l o kb,H l=none->yG X.prog X.w l o kb->KbOk H kb ks->Q (.ref l) (upd H l (.frz o (.own 0)))
theorem sub_list:isSubtype (.type "list") (.type "set")=pure false/\isSubtype (.type "list") (.type "frozenset")=pure false:=⟨F.sub_list_set,F.sub_list_frozenset⟩
theorem j3 {k:Nat}(rm:Ce k X.A):Bv X (.type "set") (MY X):=by
 intro pins s σ H xs us Q I rv ⟨p,vs,ks,e,hp,ht,hU,q⟩;subst e;obtain⟨u,rfl,ru⟩:=iU rv;cases ru;obtain⟨its,rits,pl,hz⟩:=I.list (Gn hp);have hits:=MX ht rits;have lp:=I.hok.lt hp;have hI:s.heap.IsList p (cB ks.length (fU vs)).toArray:=by rw[<-hits];exact pl.isList
 have Cu:(cB ks.length (fU vs)).toArray.size=ks.length:=by rw[av,kZ]
 have hh:X.A.in1.in1.in1.handled=none:=rm.hd;have hne:p≠s.heap.objs.size+1:=ay (ki lp);have hb:(s.heap.push (bare X.w)).IsList p (cB ks.length (fU vs)).toArray:=hI.push _;have hs1:(s.heap.push (bare X.w)).objs.size=s.heap.objs.size+1:=xw _ _;have W:=Ax (prog:=X.prog) (w:=X.w) (A:=X.A.in1.in1.in1) hh (s.heap.objs.size+1) p hne (cB ks.length (fU vs)).toArray;rw[Cu]at W;refine MV (T := "list") (it:={ cls:=.type "list_iterator",data:=.fields #[.ref p,.int 0 0] }) (fU vs) (λi=>ks.getD i []) (eF cX ks) (by have:=rm.un;omega) hI.typeIs sub_list.1 sub_list.2 (by decide) (λB Q' E' hQ=>?_) W ?_ ?_ ?_ (λi v hv=>?_) hU (λi hi=>?_) (λj hj=>?_) λh' tk kb hS Fj k=>?_
 ·refine ub hb ?_;rw[<-hs1]at hQ;exact hQ
 ·intro m
  rcases az.mp m with z|m
  ·exact ph _ z.symm
  ·exact ji lp (cg.mp m)
 ·intro b hb;rw[cg.mp hb];exact jy _
 ·refine⟨⟨{ cls:=.type "list_iterator",data:=.fields #[.ref p,.int 0 0] }, ?_,rfl,rfl⟩,hb.push _⟩;rw[<-hs1];exact bc _ rfl
 ·have hi:i<ks.length:=by have:=(dm.mp hv).1;rwa [Cu]at this
  have:(cB ks.length (fU vs))[i]?=some (.ref (fU vs i)):=by simp[cB,hi]
  rw[Am,this]at hv;exact(cn hv).symm
 ·refine(nK Dq _ _).mpr ?_;show ks.getD i []∈ks;simp[hi]
 ·exact DH I (ht.at_ hj).2
 ·obtain⟨o,es,ep,t,P⟩:=hS;refine⟨.ref s.heap.objs.size,_,I.laid (t':=tk) (o:=.frz o (.own 0)) k (ak _) ⟨P.obj,o,P.obj⟩,rfl,q _ o kb (I.hok.fresh (ak _)) ⟨es,ep,t,λh e=>P.at' e⟩ ⟨λz hz=>?_,λz hz=>?_,λz hz=>?_⟩⟩
  ·obtain⟨j,hj,rfl⟩:=Fj.from_ z hz;exact(ht.at_ hj).2
  ·obtain⟨j,hj,rfl⟩:=Fj.from_ z hz;show ks.getD j []∈ks;simp[hj]
  ·obtain⟨j,hj,rfl⟩:=ju hz;have:=Fj.all j hj;simpa[hj]using this
abbrev MZ (X:Cx):Hf->Hp->VK->Prop:=λxs H Q=>∃(l:ai) (o:Obj) (kb:KB) (ks:A'),xs=[.ref l]/\H l=some (.frz o (.own 0))/\yG X.prog X.w l o kb/\KbOk H kb ks/\(∀k∈ks,k≠[])/\(eF cX ks).length<64/\∀D Cs,H D=none->B' H Cs (eF cX ks)->Q (.ref D) (upd H D (.lst Cs))
theorem j5 {α β:Type}{f:α->β}:∀{l:List β}{l':List β},l.Perm l'->∀xs:List α,l'=xs.map f->∃ys:List α,ys.Perm xs/\l=ys.map f:=by
 intro l l' h
 induction h with
 |nil=>intro xs e;exact⟨xs,.refl _,e⟩
 |cons a _ ih=>
  intro xs e
  cases xs with
  |nil=>cases e
  |cons x xs=>simp only[da,As]at e;obtain⟨ys,p,e'⟩:=ih xs e.2;exact⟨x::ys,p.cons x,by simp[e.1,e']⟩
 |swap a b l=>
  intro xs e
  cases xs with
  |nil=>cases e
  |cons x xs=>
   cases xs with
   |nil=>simp at e
   |cons y xs=>simp only[da,As]at e;exact⟨y::x::xs,.swap ..,by simp[e.1,e.2.1,e.2.2]⟩
 |trans _ _ ih1 ih2=>intro xs e;obtain⟨ys,p,e'⟩:=ih2 xs e;obtain⟨zs,p',e''⟩:=ih1 ys e';exact⟨zs,p'.trans p,e''⟩
theorem j6 {k:Nat}(rm:Ce k X.A):Bv X (.builtin "sorted") (MZ X):=by
 intro pins s σ H xs us Q I rv ⟨l,o,kb,ks,e,hl,⟨es,ep,t,hP⟩,kO,ne,h64,q⟩;subst e;obtain⟨u,rfl,ru⟩:=iU rv;cases ru;have P:=hP s.heap (I.hok l _ hl).1;have pe:(iP X.w l ep es).toList.Perm (gS X.prog X.w kb):=by rw[<-P.es];exact MN _ _ _ _
 obtain⟨kc,pk,ek⟩:=j5 pe kb rfl;have mem:∀i,i<kc.length->kc.getD i ([],0)∈kb:=λi hi=>pk.mem_iff.mp (by simp[hi]);have hn:(kb.map fe).length=(eF cX ks).length:=by refine List.Perm.length_eq ((ql P.nd (uK Dq (uJ Dq ks))).mpr λz=>?_);rw[nK Dq];refine⟨λh=>?_,λh=>kO.all z h⟩;obtain⟨p,hp,rfl⟩:=cp.mp h;exact kO.frm p hp
 have hlen:kc.length<64:=by rw[pk.length_eq];rw[bg]at hn;omega
 have hes:es.size=kc.length:=by rw[P.size,pk.length_eq]
 have KA:Df X.prog X.w s.heap kc.length (λi=>(kc.getD i ([],0)).2) (λi=>(kc.getD i ([],0)).1):=λi hi=>⟨DH I (kO.tup _ (mem i hi)),ne _ (kO.frm _ (mem i hi))⟩
 have er:(iP X.w l ep es).toList.map (·.2)=cB kc.length (λi=>(kc.getD i ([],0)).2):=by
  rw[ek,kh]
  apply List.ext_getElem (by simp[kZ])
  intro i h1 h2;have hi:i<kc.length:=by simpa using h1
  simp[cB,hi]
 refine h9 hlen KA (λQ' E' hQ=>?_) λh' tk D e out so hD ho k=>?_
 ·refine d7 (show X.A.in1.handled=none from rm.hd) P (by rw[hes,jr];omega) λh' tk kk sz=>?_;rw[er];exact hQ h' tk kk sz
 ·obtain⟨pp,Cs,h1,h2,h3,h4⟩:=i8 (H:=H) so λi hi=>kO.tup _ (mem i hi);have pm:(pp.map λi=>(kc.getD i ([],0)).1).Perm (kb.map fe):=by have:=((i9 (d:=(([],0):Bd×ai)) h1 rfl).trans pk).map fe;rwa [kh]at this
  have nd:(pp.map λi=>(kc.getD i ([],0)).1).Nodup:=pm.nodup_iff.mpr P.nd;have rs:fT cX (pp.map λi=>(kc.getD i ([],0)).1):=by
   refine(h2.and nd).imp λ{a b} ⟨x,y⟩=>?_
   cases q:cX a b with
   |true=>rfl
   |false=>exact absurd (Dq.tot a b q x) y
  have e1:(pp.map λi=>(kc.getD i ([],0)).1)=eF cX ks:=ZA Dq rs λz=>by rw[pm.mem_iff];refine⟨λh=>?_,λh=>kO.all z h⟩;obtain⟨p,hp,rfl⟩:=cp.mp h;exact kO.frm p hp
  rw[e1]at h4;refine⟨.ref D,_,I.laid (t':=tk) k hD (show Br X.prog X.w _ _ _ (.lst Cs) from⟨?_,out,e,h3,ho⟩),rfl,q D Cs (I.hok.fresh hD) h4⟩;rw[h4.len,jr];omega
end
def rY:Dv->Option Bd 
 | .tup xs=>bP gB xs
 |_=>none
def yH (k:Bd):Dv:=.tup (k.map Fx)
section
variable{X:Cx}{G:Cfg}{E:XK}{k:Nat}{e a b:bj}{es:List bj}{ma mb:M Dv}{aR:M Bh }{p p2 pos Dk:Pos}
theorem DI {μ:Nat->ai}{n:Nat}{H:Hp}:∀{xs:Bh}{vs:Hf}{ks:A'},RelDL G μ n H xs vs->bP rY xs=some ks->B' H vs ks
 | [],_,ks,r,e=>by cases e;rw[RelDL]at r;subst r;trivial
 |x::xs,_,ks,r,e=>by
  rw[RelDL]at r;obtain⟨v,rr,rfl,r1,r2⟩:=r;unfold bP at e
  cases x with
  |tup ds=>
   dsimp only[rY]at e
   cases q:bP gB ds with
   |none=>rw[q]at e;cases e
   |some zs=>
    rw[q]at e;dsimp only at e
    cases q2:bP rY xs with
    |none=>rw[q2]at e;cases e
    |some ys=>rw[q2]at e;cases e;rw[Bo]at r1;obtain⟨b,us,rfl,h1,h2⟩:=r1;rw[pT h2 q]at h1;exact⟨⟨b,rfl,h1⟩,DI r2 q2⟩
  |_=>cases e
theorem M1 {μ:Nat->ai}{n:Nat}{H:Hp}:∀{vs:Hf}{ks:A'},B' H vs ks->RelDL G μ n H (ks.map yH) vs
 | [],[],_=>Ge
 | [],_::_,h=>h.elim
 |_::_,[],h=>h.elim
 |v::vs,k::ks,h=>by obtain⟨⟨b,rfl,e⟩,h2⟩:=h;refine Gf ?_ (M1 h2);unfold yH;rw[Bo];exact⟨b,_,rfl,e,rE k⟩
def yI (ks:A'):Bool:=ks.all λk=>!k.isEmpty
theorem j7 {ks:A'}(h:yI ks=true):∀k∈ks,k≠[]:=λk hk e=>by have:=ey.mp h k hk;rw[e]at this;cases this
theorem M3:dy "set" = some (.type "set"):=by decide +kernel
end
open PySem.SeqAt PySem.MeetsSeq PySem.MeetsSeq2 PySem.MeetsSeq3
section
variable{X:Cx}{G:Cfg}{E:XK}{k:Nat}{e a b o:bj}{es:List bj}{mo me ma mb:M Dv}{aR:M Bh }{p p2 pos Dk apos cpos np:Pos}{y:Str}
theorem j8 {prog:bh}{w:cj}{A:bw}{Ee:af->ag->Prop}{s:ag}{t sl:ai}{items:Array af}{vl vu:af}{lo hi:Option Int}{Q:af->ag->Prop}(ht:ye s.heap t items) (hs:s.heap.IsSliceOf sl vl vu .none) (pl:ug vl lo) (pu:ug vu hi)
  (h0:HT.sIx items.size 0 lo=0) (h1:HT.sIx items.size items.size hi=items.size) (h:Q (.ref t) s):wpAny (model prog w) A (getItem (.ref t) (.ref sl)) Q Ee s:=by
 obtain⟨os,hos,Fu,hds⟩:=id hs;have hTs:s.TypeIs (.ref sl) "slice" := ⟨os,hos,Fu⟩;have tt:=ht.typeIs;obtain⟨ot,et,ct,_⟩:=id ht;unfold getItem
 try with_reducible refine gv ?_
 first|refine aa (ah ?_)|skip
 refine aa (yh tt (by decide) (aa (gm (name:=lj "__getitem__") tt df (fq df tt xk ?_ (xf _ _)))));refine aa (m:=slotArgs "__getitem__" 1 ⟨[.ref t,.ref sl],[]⟩) (ah (aa (xh ht (aa (nu hTs ?_)))));rw[if_pos (by decide)];refine aa (HT.sliceApplied_gen hs pl pu ?_);rw[h0,h1];show wpAny _ _ (if(((0:Nat):Int)==0&&(1:Int)==1&&(items.size - 0)==items.size)=true then _ else _) _ _ s;rw[if_pos (by simp)];unfold Builtin.Tuple.tupleIsExact;refine aa (aa (nu tt (ah ?_)));rw[if_pos (by decide)];refine aa (si (ah ⟨_,rfl,ah h⟩))
theorem j9:SlR X (λx lo hi H Q=>∃a xs,x=.ref a/\Ca X.K H a xs/\HT.sIx xs.length 0 lo=0/\HT.sIx xs.length xs.length hi=xs.length/\Q (.ref a) H):=by
 intro pins s σ H x v vl vu lo hi sl Q I rx hs pl pu ⟨a,xs,ex,hx,h0,h1,q⟩;subst ex;cases rx;obtain⟨its,r,ht,hz⟩:=I.tuple hx;have hlen:its.toArray.size=xs.length:=by rw[av];exact r.length.symm
 exact⟨"tuple",_,df.lookup,ht.typeIs,j8 ht hs pl pu (by rw[hlen];exact h0) (by rw[hlen];exact h1) ⟨.ref a,H,I,rfl,q⟩⟩
def pZ (x:Dv) (lo hi:Option Int) (h:Hs):Rs Dv:=match x with
 | .ref j=>match getL h j with
  |some xs=>.ok (.ref h.length) (h++[.lst (kA xs lo hi)])
  |none=>.bad
 | .tup xs=>.ok (.tup (kA xs lo hi)) h
 |_=>.bad
theorem k6 {xs:Bh}{lo hi:Option Int}(h0:HT.sIx xs.length 0 lo=0) (h1:HT.sIx xs.length xs.length hi=xs.length):kA xs lo hi=xs:=by unfold kA;rw[h0,h1];simp
def gK (m:M Dv) (lo hi:MO):M Dv:=λρ h=>(m ρ h).bind λx h1=>(lo ρ h1).bind λl h2=>(hi ρ h2).bind λu h3=>pZ x l u h3
theorem nM {lo hi:Option bj}{ml mh:MO}(ho:aI X G E o mo) (hl:uB X G E lo ml) (hh:uB X G E hi mh):aI X G E (.Subscript o (.Slice lo hi none p2) pos) (gK mo ml mh):=λhK=>
 Gg (TU (SlR.or (SlR.or T7 TX) j9) (ho hK) (hl hK) (hh hK)) λσ H Q ⟨μ,ρ,h,rs,s,oo⟩=>eV rs s oo λμ1 x h1 vx H1 x1 Cb s1 r1 o1=>by
  refine⟨μ1,ρ,h1,Cb,s1,(o1.bind (R1:=λ_ _ _ a b=>b=a)).mono λl' H2 ⟨μ2,l,h2,x2,s2,el,o2⟩=>?_⟩;subst el;refine⟨μ2,ρ,h2,Cb.mono x2,s2,(o2.bind (R1:=λ_ _ _ a b=>b=a)).mono λu' H3 ⟨μ3,u,h3,x3,s3,eu,o3⟩=>?_⟩;subst eu;have r3:=Gi (x2.trans x3) _ _ r1
  cases x with
  |ref j=>
   dsimp only[pZ]at o3
   cases q:getL h3 j with
   |none=>rw[q]at o3;exact o3.elim
   |some xs=>rw[q]at o3;obtain⟨vs,ea,ra⟩:=s3.ob j _ (cW q);obtain⟨_,rfl⟩:=r3;exact .inl (.inl ⟨_,vs,rfl,Gn ea,λp hp=>oE s3 (KN ra _ _) hp o3⟩)
  |tup xs=>
   dsimp only[pZ]at o3;obtain⟨a,vs,rfl,ea,ra⟩:=r3
   by_cases hw:HT.sIx xs.length 0 l'=0/\HT.sIx xs.length xs.length u'=xs.length
   ·refine .inr ⟨a,vs,rfl,Gb ea,by rw[ra.length];exact hw.1,by rw[ra.length];exact hw.2,o3 μ3 _ _ Gj s3 ?_⟩;rw[k6 hw.1 hw.2];exact⟨a,vs,rfl,ea,ra⟩
   ·exact .inl (.inr ⟨a,vs,rfl,Gb ea,by rw[ra.length];exact hw,λp hp=>o3 μ3 _ _ (F' (cK hp)) (s3.same (cK hp)) ⟨p,_,rfl,cR,Ga (F' (cK hp)) _ _ (KN ra _ _)⟩⟩)
  |_=>exact o3.elim
def eZ (x y:Dv) (h:Hs):Rs Dv:=match x,y with
 | .int i,.int j=>.ok (.bl (decide (i<j))) h
 | .tup xs,.tup ys=>match bP gB xs,bP gB ys with
  |some ns,some ms=>.ok (.bl (HT.lexLt ns ms)) h
  |_,_=>.bad
 |_,_=>.bad
theorem M4:∀x y:Bd,HT.lexLt x y=cX x y
 | [],[]=>rfl
 | [],_::_=>rfl
 |_::_,[]=>rfl
 |a::x,b::y=>by
  rw[HT.lexLt_cons,cX,M4 x y]
  by_cases h:a=b <;> simp[h]
theorem M5:fR G (λx y H Q=>(jU λi j=>.bl (decide (i<j))) x y H Q∨HJ G.K x y H Q) eZ:=by
 intro E μ h H x y vx vy Q s rx ry o;unfold eZ at o
 split at o
 ·rename_i i j;exact .inl (rB E μ h H (.int i) (.int j) vx vy Q s rx ry o)
 ·rename_i xs ys
  cases q1:bP gB xs with
  |none=>rw[q1]at o;exact o.elim
  |some ns=>
   cases q2:bP gB ys with
   |none=>rw[q1,q2]at o;exact o.elim
   |some ms=>rw[q1,q2]at o;obtain⟨a,us,rfl,ea,ra⟩:=rx;obtain⟨b,ws,rfl,eb,rb⟩:=ry;exact .inr ⟨a,b,ns,ms,rfl,rfl,Gb (by rw[ea,pT ra q1]),Gb (by rw[eb,pT rb q2]),o.val s rfl⟩
 ·exact o.elim
theorem DJ (g:Good X G E k) (ha:aI X G E a ma) (hb:aI X G E b mb):aI X G E (.Compare a [.Lt] [b] pos) (m2 eZ ma mb):=λhK=>wX (Cr.or GY (HK (by have:=g.room.un;omega))) (by rw[hK];exact M5) ha hb (mR _) hK
theorem DK (g:Good X G E k) (ha:aI X G E a ma) (hb:aI X G E b mb):gE X G E (.Compare a [.Lt] [b] pos) (mB (m2 eZ ma mb)):=λhK=>pG (Cr.or GY (HK (by have:=g.room.un;omega))) (by rw[hK];exact M5) ha hb (mR _) hK
def bR (j:Int):Bd:=(bo j.toNat).map λk:Nat=>(k:Int)
theorem k7:Bv X (.type "range") (λxs H Q=>∃j:Int,xs=[.int j]/\∀l,H l=none->Q (.ref l) (upd H l (.rng 0 j))):=by intro pins s σ H xs us Q I rv ⟨j,e,q⟩;subst e;obtain⟨u,rfl,ru⟩:=iU rv;obtain⟨t,rfl⟩:=ru;refine call_range_1 ⟨.ref s.heap.objs.size,_,I.laid (t':=s.toks+1+1) (o:=.rng 0 j) (λb ob q=>aj _ q) (ak _) ⟨_,_,_,bc _ rfl⟩,rfl,q _ (I.hok.fresh (ak _))⟩
theorem k8 (rm:Ce k X.A):Bv X (.type "list") (λxs H Q=>∃(l:ai) (j:Int),xs=[.ref l]/\H l=some (.rng 0 j)/\0<=j/\j<=1000/\∀D,H D=none->Q (.ref D) (upd H D (.lst ((bR j).map Gh)))):=by
 intro pins s σ H xs us Q I rv ⟨l,j,e,hl,h0,h1,q⟩;subst e;obtain⟨u,rfl,ru⟩:=iU rv;cases ru;obtain⟨t,u,v,hr⟩:=I.hok l _ hl;refine call_list_range (n:=j.toNat) (a:=0) (b:=j) (c:=1) rm.hd hr (small_one (by omega) (by omega) (by omega) (by omega)) ?_ (by omega) λh' tk acc c ke ho ia=>?_
 ·rw[rangeSize_one]
  split <;> omega
 ·have hv:Bp ((bR j).map Gh) acc.toList:=by
   have:∀(n:Nat) (as:List af),as.length=n->(∀(i:Nat) (v:af),as[i]?=some v->∃t,v=Value.int (0+(i:Int)*1) t)->Bp (((bo n).map λk:Nat=>(k:Int)).map Gh) as:=λn=>by
    induction n with
    |zero=>intro as hl _;rw[zl.mp hl];exact .nil
    |succ n ih=>
     intro as hl hi;have hne:as≠[]:=λz=>by rw[z]at hl;cases hl
     have e:=List.dropLast_concat_getLast hne;rw[<-e,yd,iu,iu];have hlast:as[n]?=some (as.getLast hne):=by
      rw[List.getLast_eq_getElem,ba (by omega)]
      congr 2;omega
     obtain⟨t,ht⟩:=hi n _ hlast;refine Bp.append (ih as.dropLast (by simp[hl]) λi v hv=>hi i v ?_) ?_
     ·rw[List.getElem?_dropLast]at hv
      split at hv
      ·exact hv
      ·cases hv
     ·refine .cons ?_ .nil;show RelV (.int (n:Int)) _;rw[ht];exact⟨t,by simp⟩
   refine this j.toNat acc.toList (by simpa using ia.1) λi v hv=>?_;exact ia.2 i v (by simpa using hv)
  refine⟨.ref s.heap.objs.size,_,I.laid (t':=tk) ke (ak _) (show Br X.prog X.w _ _ _ (.lst ((bR j).map Gh)) from⟨?_,acc.toList,c,hv, ?_⟩),rfl,q _ (I.hok.fresh (ak _))⟩
  ·rw[bg,bR,bg,mm,jr];omega
  ·rw[ho]
def lT:Dv->Hs->Rs Dv
 | .int j,h=>if(decide (0<=j)&&decide (j<=1000))=true then .ok (.ref h.length) (h++[.lst ((bR j).map Fx)])else .bad
 |_,_=>.bad
theorem M6 (g:Good X G E k) (hg:Gl X "list") (hm:X.mg "list" = none) (hg2:Gl X "range") (hm2:X.mg "range" = none) (ha:dX X G E [e] aR)
  (he:aw [e] X.env=[(false,eval e X.env)]:=by rfl) (Ec:aw [Expr.Call (.Name "range" p2) [e] [] Dk] X.env=[(false,eval (.Call (.Name "range" p2) [e] [] Dk) X.env)]:=by rfl):
  aI X G E (.Call (.Name "list" p) [.Call (.Name "range" p2) [e] [] Dk] [] pos) (aF (f1 lT) aR):=λhK=>
 Gg (tF (k8 g.room) hg hm xB (hY (tF k7 hg2 hm2 boot_range (ha hK) (by decide) (by decide) he rfl) jG Ec) (by decide) (by decide) Ec rfl) λσ H Q ⟨μ,ρ,h,rs,s,o⟩=>by
  refine jV rs s o λμ1 ds h1 vs H1 x1 Cb s1 r1 o1=>?_;unfold f1 at o1
  split at o1
  ·rename_i d;obtain⟨v,rfl,rv⟩:=rF r1
   cases d with
   |int j=>
    dsimp only[lT]at o1
    split at o1
    ·rename_i h0;rw[cx]at h0;have j0:0<=j:=by simpa using h0.1
     have j1:j<=1000:=by simpa using h0.2
     rw[Bo]at rv;subst rv;refine⟨j,rfl,λl hl=>?_⟩;have sm:=cK (o:=.rng 0 j) hl;refine⟨l,j,rfl,cR,j0,j1,λD hD=>?_⟩;exact oE (E:=E) (s1.same sm) (rE _) hD (λμ' H' v x'=>o1 μ' H' v ((F' sm).trans x'))
    ·exact o1.elim
   |_=>exact o1.elim
  ·exact o1.elim
end
section
variable{mo me:M Dv}{ml mh:MO}
end
section
variable{X:Cx}{G:Cfg}{E:XK}{k:Nat}{e a b o:bj}{es:List bj}{mo me ma mb:M Dv}{aR:M Bh }{p p2 pos Dk apos cpos np:Pos}{y:Str}
theorem sub_tuple:isSubtype (.type "tuple") (.type "set")=pure false/\isSubtype (.type "tuple") (.type "frozenset")=pure false:=by constructor <;> (rw[isSubtype_type];kernel_rfl)
abbrev M7 (X:Cx):Hf->Hp->VK->Prop:=λxs H Q=>∃(p:ai) (vs:Hf) (ks:A'),xs=[.ref p]/\H p=some (.tup vs)/\B' H vs ks/\(eF cX ks).length<=76/\∀l o kb,H l=none->yG X.prog X.w l o kb->KbOk H kb ks->Q (.ref l) (upd H l (.frz o (.own 0)))
theorem k9 (rm:Ce k X.A):Bv X (.type "set") (M7 X):=by
 intro pins s σ H xs us Q I rv ⟨p,vs,ks,e,hp,ht,hU,q⟩;subst e;obtain⟨u,rfl,ru⟩:=iU rv;cases ru;obtain⟨its,rits,pl,hz⟩:=I.tuple (Gb hp);have hits:=MX ht rits;have lp:=I.hok.lt hp;have hI:s.heap.IsTuple p (cB ks.length (fU vs)).toArray:=by rw[<-hits];exact pl
 have Cu:(cB ks.length (fU vs)).toArray.size=ks.length:=by rw[av,kZ]
 have hne:p≠s.heap.objs.size+1:=ay (ki lp);have hb:(s.heap.push (bare X.w)).IsTuple p (cB ks.length (fU vs)).toArray:=yp (items:=(cB ks.length (fU vs)).toArray) hI _;have hs1:(s.heap.push (bare X.w)).objs.size=s.heap.objs.size+1:=xw _ _;have W:=Walks.tuple (prog:=X.prog) (w:=X.w) (A:=X.A.in1.in1.in1) (show X.A.in1.in1.in1.handled=none from rm.hd) (s.heap.objs.size+1) p hne (cB ks.length (fU vs)).toArray;rw[Cu]at W;refine MV (T := "tuple") (it:={ cls:=.type "tuple_iterator",data:=.fields #[.ref p,.int 0 0] }) (fU vs) (λi=>ks.getD i []) (eF cX ks) (by have:=rm.un;omega) hI.typeIs sub_tuple.1 sub_tuple.2 (by decide) (λB Q' E' hQ=>?_) W (λm=>?_) (λb hb=>?_) ⟨⟨{ cls:=.type "tuple_iterator",data:=.fields #[.ref p,.int 0 0] }, ?_,rfl,rfl⟩,yp (items:=(cB ks.length (fU vs)).toArray) hb _⟩ (λi v hv=>?_) hU (λi hi=>?_) (λj hj=>DH I (ht.at_ hj).2) λh' tk kb hS Fj k=>?_
 ·refine om hb ?_;rw[<-hs1]at hQ;exact hQ
 ·rcases az.mp m with z|m
  ·exact ph _ z.symm
  ·exact ji lp (cg.mp m)
 ·rw[cg.mp hb];exact jy _
 ·rw[<-hs1];exact bc _ rfl
 ·have hi:i<ks.length:=by have:=(dm.mp hv).1;rwa [Cu]at this
  have:(cB ks.length (fU vs))[i]?=some (.ref (fU vs i)):=by simp[cB,hi]
  rw[Am,this]at hv;exact(cn hv).symm
 ·refine(nK Dq _ _).mpr ?_;show ks.getD i []∈ks;simp[hi]
 ·obtain⟨o,es,ep,t,P⟩:=hS;refine⟨.ref s.heap.objs.size,_,I.laid (t':=tk) (o:=.frz o (.own 0)) k (ak _) ⟨P.obj,o,P.obj⟩,rfl,q _ o kb (I.hok.fresh (ak _)) ⟨es,ep,t,λh e=>P.at' e⟩ ⟨λz hz=>?_,λz hz=>?_,λz hz=>?_⟩⟩
  ·obtain⟨j,hj,rfl⟩:=Fj.from_ z hz;exact(ht.at_ hj).2
  ·obtain⟨j,hj,rfl⟩:=Fj.from_ z hz;show ks.getD j []∈ks;simp[hj]
  ·obtain⟨j,hj,rfl⟩:=ju hz;have:=Fj.all j hj;simpa[hj]using this
theorem m6 (rm:Ce k X.A):Bv X (.type "set") (λxs H Q=>MY X xs H Q∨M7 X xs H Q):=by
 intro pins s σ H xs us Q I rv h
 rcases h with h|h
 ·exact j3 rm pins s σ H xs us Q I rv h
 ·exact k9 rm pins s σ H xs us Q I rv h
def qA (x:Dv) (h:Hs):Option A' :=match x with
 | .ref i=>match getL h i with
  |some xs=>bP rY xs
  |none=>none
 | .tup xs=>bP rY xs
 |_=>none
def lU (x:Dv) (h:Hs):Rs Dv:=match qA x h with
 |some ks=>if(yI ks&&decide ((eF cX ks).length<64))=true then .ok (.ref h.length) (h++[.lst ((eF cX ks).map yH)])else .bad
 |none=>.bad
theorem M8 (g:Good X G E k) (hg:Gl X "sorted") (hm:X.mg "sorted" = none) (hg2:Gl X "set") (hm2:X.mg "set" = none) (ha:dX X G E [e] aR)
  (he:aw [e] X.env=[(false,eval e X.env)]:=by rfl) (Ec:aw [Expr.Call (.Name "set" p2) [e] [] Dk] X.env=[(false,eval (.Call (.Name "set" p2) [e] [] Dk) X.env)]:=by rfl):
  aI X G E (.Call (.Name "sorted" p) [.Call (.Name "set" p2) [e] [] Dk] [] pos) (aF (f1 lU) aR):=λhK=>
 Gg (qV (j6 g.room) hg hm K1 (hY (tF (m6 g.room) hg2 hm2 M3 (ha hK) (by decide) (by decide) he rfl) jG Ec) (by decide) (by decide) Ec rfl) λσ H Q ⟨μ,ρ,h,rs,s,o⟩=>by
  refine jV rs s o λμ1 ds h1 vs H1 x1 Cb s1 r1 o1=>?_;unfold f1 at o1
  split at o1
  ·rename_i d;obtain⟨v,rfl,rv⟩:=rF r1;unfold lU at o1
   cases q:qA d h1 with
   |none=>rw[q]at o1;exact o1.elim
   |some ks=>
    rw[q]at o1;dsimp only at o1
    split at o1
    ·rename_i h0;rw[cx]at h0;have h64:(eF cX ks).length<64:=by simpa using h0.2
     have fin:∀(l:ai) (o:Obj) (kb:KB),H1 l=none->yG X.prog X.w l o kb->KbOk H1 kb ks->MZ X [.ref l] (upd H1 l (.frz o (.own 0))) Q:=λl o kb hl so ko=>by have sm:=cK (o:=.frz o (.own 0)) hl;refine⟨l,o,kb,ks,rfl,cR,so,⟨λp hp=>sm _ _ (ko.tup p hp),ko.frm,ko.all⟩,j7 h0.1,h64,λD Cs hD ht=>?_⟩;exact oE (E:=E) (s1.same sm) (M1 ht) hD (λμ' H' v x'=>o1 μ' H' v ((F' sm).trans x'))
     cases d with
     |ref i=>
      dsimp only[qA]at q
      cases q1:getL h1 i with
      |none=>rw[q1]at q;cases q
      |some xs=>rw[q1]at q;obtain⟨vs,e1,r2⟩:=s1.ob i _ (cW q1);obtain⟨_,rfl⟩:=rv;exact .inl ⟨_,vs,ks,rfl,e1,DI r2 q,by omega,fin⟩
     |tup xs=>obtain⟨a,vs,rfl,e1,r2⟩:=rv;exact .inr ⟨_,vs,ks,rfl,e1,DI r2 q,by omega,fin⟩
     |_=>cases q
    ·exact o1.elim
  ·exact o1.elim
theorem m7 {prog:bh}{w:cj}{A:bw}{Ee:af->ag->Prop}{s:ag}{l:ai}{vs:List af}{Q:List af->ag->Prop}(ht:ye s.heap l vs.toArray) (hz:vs.length<=cb)
  (q:∀h',pY s.heap h'->s.heap.objs.size<=h'.objs.size->Q vs { s with heap:=h' }):wpAny (model prog w) A (collect (.ref l)) Q Ee s:=by
 have up:pY s.heap (s.heap.push (seqObj "list" #[] 0)):=λb o e=>aj _ e;have hS:(s.heap.push (seqObj "list" #[] 0)).get? s.heap.objs.size=some (seqObj "list" #[] 0):=bc _ rfl;obtain⟨o,ho,hc,n,hd⟩:=ht;unfold collect;refine aa (we (mr entry_proto_collect' ?_));rw[ka F.plain_proto_collect _];refine aa (m:=newList []) (uq (ah ⟨vt _ (by decide +kernel),mr entry_list_iadd' ?_⟩));rw[ka F.plain_list_iadd _];show wpAny _ A.in1 (kq (.ref s.heap.objs.size) (.ref l) (.ref s.heap.objs.size)) _ _ { s with heap:=s.heap.push (seqObj "list" #[] 0) };unfold kq;refine aa (nu (T := "tuple") ⟨o,up l o ho,hc⟩ ?_);rw[if_pos (by simp)];refine aa (listItems_at (up l o ho) hd (aa (listItems_at hS rfl ?_)));rw[if_neg (by simp)];refine aa (um hS rfl (ah ?_) (gr _) (by show(#[]++vs.toArray).size<=cb+1;simp only[Array.size_append,av,nr];omega));have hS2:=mw hS λx=>x++vs.toArray;show wpAny (model prog w) A (load s.heap.objs.size >>= _) Q Ee _;refine aa (wpAny_load hS2 (ah ?_));have e:((#[]:Array af)++vs.toArray).toList=vs:=by simp
 rw[e];refine q _ (λb o e=>?_) ?_
 ·rw[jv _ _ _ _ (ay (aq e))];exact up b o e
 ·rw[Heap.size_update,xw];exact Nat.le_succ _
end
theorem DL {α β:Type}{f g:α->Option β}:∀l:List α,(∀x∈l,f x=g x)->l.filterMap f=l.filterMap g
 | [],_=>rfl
 |x::l,h=>by rw[cf,cf,h x (by simp),DL l λy hy=>h y (by simp[hy])]
theorem m8 (xs:Array af):((bo xs.size).filterMap λ(m:Nat)=>xs[((xs.size:Int) - 1+(m:Int)*(-1)).toNat]?).toArray=xs.toList.reverse.toArray:=by
 congr 1
 have e:((bo xs.size).filterMap λ(m:Nat)=>xs[((xs.size:Int) - 1+(m:Int)*(-1)).toNat]?)=(bo xs.size).filterMap λm=>xs.toList.reverse[m]?:=by
  refine DL _ λm hm=>?_;have Ex:m<xs.size:=bu.mp hm;rw[List.getElem?_reverse (by simpa using Ex),ly]
  congr 1
  simp;omega
 rw[e];have:∀(l:List af) (n:Nat),n<=l.length->(bo n).filterMap (λm=>l[m]?)=l.take n:=λl n=>by
  induction n with
  |zero=>intro _;simp
  |succ n ih=>intro h;rw[yd,List.filterMap_append,ih (by omega),jb (by omega)];simp[show n<l.length by omega]
 rw[this _ _ (by simp),uc (by simp)]
theorem m9 {prog:bh}{w:cj}{A:bw}{Ee:af->ag->Prop}{s:ag}{sl:ai}{vs:af}{n:Nat}{Q:Int×Int×Nat->ag->Prop}(hs:s.heap.IsSliceOf sl .none .none vs) (pv:ug vs (some (-1)))
  (h:Q ((n:Int) - 1,-1,n) s):wpAny (model prog w) A (ku (.ref sl) (pure (n:Int))) Q Ee s:=by
 obtain⟨os,hos,Fu,hds⟩:=id hs;have e1:iz none none (-1) (n:Int)=((n:Int) - 1,-1):=by simp[iz]
 have e2:fz ((n:Int) - 1) (-1) (-1)=n:=by
  unfold fz;rw[if_neg (by decide)]
  split
  ·simp
  ·simp;omega
 unfold ku vq;refine aa (aa (ff hos hds (x:=.none) rfl (aa (ff hos hds (x:=.none) rfl (aa (ff hos hds (x:=vs) rfl (ah ?_)))))));refine aa (HT.slicePart_ pv ?_);show wpAny _ _ (if((-1:Int)==0)=true then _ else _) _ _ s;rw[if_neg (by decide)];refine aa (HT.slicePart_ .none (aa (HT.slicePart_ .none (aa (ah ?_)))));show wpAny _ _ (match iz none none (-1) (n:Int)with|(lo,hi)=>pure (lo,(-1:Int),fz lo hi (-1))) _ _ s;rw[e1];show wpAny _ _ (pure ((n:Int) - 1,(-1:Int),fz ((n:Int) - 1) (-1) (-1))) _ _ s;rw[e2];exact ah h
theorem n9 {prog:bh}{w:cj}{A:bw}{Ee:af->ag->Prop}{s:ag}{t sl:ai}{items:Array af}{vs:af}{Q:af->ag->Prop}(ht:ye s.heap t items) (hs:s.heap.IsSliceOf sl .none .none vs) (pv:ug vs (some (-1))) (hz:items.size<=cb)
  (h:Q (.ref s.heap.objs.size) { s with heap:=s.heap.push { cls:=.type "tuple",data:=.seq items.toList.reverse.toArray } }):wpAny (model prog w) A (getItem (.ref t) (.ref sl)) Q Ee s:=by
 obtain⟨os,hos,Fu,hds⟩:=id hs;have hTs:s.TypeIs (.ref sl) "slice" := ⟨os,hos,Fu⟩;have tt:=ht.typeIs;have szo:sizeOk (.seq items.toList.reverse.toArray):=by show items.toList.reverse.toArray.size<=cb;simpa using hz
 unfold getItem
 try with_reducible refine gv ?_
 first|refine aa (ah ?_)|skip
 refine aa (yh tt (by decide) (aa (gm (name:=lj "__getitem__") tt df (fq df tt xk ?_ (xf _ _)))));refine aa (m:=slotArgs "__getitem__" 1 ⟨[.ref t,.ref sl],[]⟩) (ah (aa (xh ht (aa (nu hTs ?_)))));rw[if_pos (by decide)];refine aa (m9 hs pv ?_);show wpAny _ _ (if(((items.size:Int) - 1)==0&&(-1:Int)==1&&items.size==items.size)=true then _ else _) _ _ s;rw[if_neg (by simp),m8]
 first
  |exact aa (m:=gn _) (dk (ah ⟨_,rfl,ah h⟩) szo)
  |exact aa (m:=gn _) (dk (aa (ah (ah ⟨_,rfl,ah h⟩))) szo)
  |exact aa (aa (m:=gn _) (dk (ah (ah ⟨_,rfl,ah h⟩)) szo))
  |exact aa (aa (m:=gn _) (dk (ah ⟨_,rfl,ah h⟩) szo))
section
variable{X:Cx}{G:Cfg}{E:XK}{o:bj}{mo:M Dv}{ms:MO}{se:bj}{p2 pos:Pos}
def o7 (K:ao) (te:TE) (ts:TO):TE:=λσ H Q=>te σ H λx H1=>ts σ H1 λl H2=>l=some (-1)/\∃a xs,x=.ref a/\Ca K H2 a xs/\∀p,H2 p=none->Q (.ref p) (upd H2 p (.tup xs.reverse))
theorem p6 {te:TE}{ts:TO}(he:PE X o te) (hs:PO X (some se) ts):PE X (.Subscript o (.Slice none none (some se) p2) pos) (o7 X.K te ts):=by
 intro pins s σ H Q I h;refine Subscript_ (aW (he pins s σ H _ I h) λv s1 ⟨x,H1,I1,r1,q1⟩=>?_);refine wpAny_Slice ?_;rw[Av];refine ah (ah (aW (hs pins s1 σ H1 _ I1 q1) λvs s3 ⟨l,H3,I3,pl,el,a,xs,ex,hx,q⟩=>?_));subst el;subst ex;cases r1;have I4:Inv X pins σ H3 { s3 with heap:=s3.heap.push { cls:=.type "slice",data:=.fields #[.none,.none,vs] } }:=I3.kept (t':=s3.toks) λb ob q=>aj _ q;obtain⟨its,r,ht,hz⟩:=I4.tuple hx;have hg:=n9 (prog:=X.prog) (w:=X.w) (A:=X.A) (Ee:=X.xe) (Q:=EP X pins σ Q) ht (yb ..) pl (by rw[av,<-r.length];exact hz) ⟨.ref _,_,I4.laid (t':=s3.toks) (o:=.tup xs.reverse) (λb ob q=>aj _ q) (ak _) ⟨by rw[List.length_reverse];exact hz,its.reverse, ?_,Cj.new _ _⟩,rfl,q _ (I4.hok.fresh (ak _))⟩
 ·show wpAny (model X.prog X.w) X.A (subscriptTail o (.Slice none none (some se) p2) (.ref a) (.ref s3.heap.objs.size)) (EP X pins σ Q) X.xe { s3 with heap:=s3.heap.push { cls:=.type "slice",data:=.fields #[.none,.none,vs] } };exact tail_any (ops:=[.ref a,.ref s3.heap.objs.size]) ht.typeIs df.lookup hg (by with_unfolding_all rfl)
 ·have:∀{xs:Hf}{us:List af},Bp xs us->Bp xs.reverse us.reverse:=λ{xs us} h=>by
   induction h with
   |nil=>exact .nil
   |cons h1 _ ih=>rw[rn,rn];exact Bp.append ih (.cons h1 .nil)
  exact this r
def DM (x:Dv) (l:Option Int) (h:Hs):Rs Dv:=match x,l with
 | .tup xs,some (-1)=>.ok (.tup xs.reverse) h
 |_,_=>.bad
theorem RelDL.rev {μ:Nat->ai}{n:Nat}{H:Hp}:∀{ds:Bh}{vs:Hf},RelDL G μ n H ds vs->RelDL G μ n H ds.reverse vs.reverse
 | [],_,h=>by rw[RelDL]at h;subst h;exact Ge
 |d::ds,_,h=>by rw[RelDL]at h;obtain⟨v,r,rfl,h1,h2⟩:=h;rw[rn,rn];exact(RelDL.rev h2).append (Gf h1 Ge)
def yJ (m:M Dv) (st:MO):M Dv:=λρ h=>(m ρ h).bind λx h1=>(st ρ h1).bind λl h2=>DM x l h2
theorem p7 (ho:aI X G E o mo) (hs:uB X G E (some se) ms):aI X G E (.Subscript o (.Slice none none (some se) p2) pos) (yJ mo ms):=λhK=>
 Gg (p6 (ho hK) (hs hK)) λσ H Q ⟨μ,ρ,h,rs,s,oo⟩=>eV rs s oo λμ1 x h1 vx H1 x1 Cb s1 r1 o1=>by
  refine⟨μ1,ρ,h1,Cb,s1,(o1.bind (R1:=λ_ _ _ a b=>b=a)).mono λl' H2 ⟨μ2,l,h2,x2,s2,el,o2⟩=>?_⟩;subst el;unfold DM at o2
  split at o2
  ·rename_i xs;obtain⟨a,vs,rfl,ea,ra⟩:=Gi x2 _ _ r1;exact⟨rfl,a,vs,rfl,Gb ea,λp hp=>o2 μ2 _ _ (F' (cK hp)) (s2.same (cK hp)) ⟨p,_,rfl,cR,Ga (F' (cK hp)) _ _ (RelDL.rev ra)⟩⟩
  ·exact o2.elim
end
end L2.Mr
namespace L2.Mr.Com
def DN:MS:=(aO (eK (m1 (aV oR) (aA 0)) (m1 mV (m1 (aV kD) (aA 0)))))
def F_qz:Bg:=aY 1 1 (DN)
def yK:MS:=(aO (eK (aF F_qz (aB (aA 0) aC)) (qZ rQ rQ (aA 1) (aA 0) (aA 2))))
def F_qn:Bg:=aY 3 3 (yK)
def M9:MS:=(aO (mL iL (bM (aR rN (aB (aA 0) (aB (gK (aA 0) (fS (mC (.int 1))) gI) aC))) [none,none] (cH 2 (aX (aE 0) (aX (aE 1) cJ))) cT (bA (m2 eZ (aA 0) (aA 1))))))
def F_qu:Bg:=aY 1 1 (M9)
def DO:MS:=(aO (aF F_qn (aB (aA 1) (aB (mC (.int 0)) (aB (m2 nE (aA 0) (mC (.int 1))) aC)))))
def F_qy:Bg:=aY 2 2 (DO)
def yL:MS:=(aO (eK (m1 (aV eY) (aA 1)) (mL iL (bM (bF dY (aA 1)) [none,some 0] (aE 0) cT (bA (aF F_qy (aB (aA 1) (aB (aA 0) aC))))))))
def F_qm:Bg:=aY 2 2 (yL)
def rZ:MS:=(aO (eK (aF F_qm (aB (aA 0) (aB (aA 1) aC))) (m2 bT (aF (f1 bX) (aB (aA 1) aC)) (mC (.int 2)))))
def F_q1:Bg:=aY 2 2 (rZ)
def DP:MS:=(aO (mL iL (bM (bF dY (aA 1)) [none,some 0] (aE 0) cT (bA (aF F_q1 (aB (aA 1) (aB (aA 0) aC)))))))
def F_qs:Bg:=aY 2 2 (DP)
def NA:MS:=(aO (mL tT (bM (bF dY (aA 0)) [none,none] (cH 2 (aX (aE 0) (aX (aE 1) cJ))) cT (bA (m2 bT (aA 0) (aA 1))))))
def F_qt:Bg:=aY 1 1 (NA)
def NB:MS:=(aO (mL iL (bM (bF dY (aA 0)) [none,none,none,none,some 0] (cH 2 (aX (aE 0) (aX (aE 1) cJ))) cT (jK (bF dY (aA 4)) (cH 2 (aX (aE 2) (aX (aE 3) cJ))) (mB (m2 bT (aA 1) (aA 2))) (bA (m2 (dW false) (aL (aB (aA 0) (aB (aA 3) aC))) (aA 4)))))))
def F_qi:Bg:=aY 1 1 (NB)
def qB:MS:=(aH (bS (dU (cO (bO (m1 (aV eY) (aA 0)))) (mB (m2 cD (aF (f1 bX) (aB (aA 0) aC)) (mC (.int 2))))) (aO (mC (.bl false))) cA) (aH (aJ (aA 0) (cH 2 (aX (aE 1) (aX (aE 2) cJ)))) (aH (bS (dU (cO (bO (aF F_qn (aB (aA 1) (aB (mC (.int 1)) (aB (mC (.int 6)) aC)))))) (cO (bO (m1 (aV eY) (aA 2))))) (aO (mC (.bl false))) cA) (aH (bS (dU (cO (bO (aF F_qs (aB (aA 1) (aB (aA 2) aC))))) (cO (bO (aF F_qu (aB (aA 2) aC))))) (aO (mC (.bl false))) cA) (aO (eK (m1 mV (aF F_qt (aB (aA 2) aC))) (aF F_qi (aB (aA 2) aC))))))))
def F_qx:Bg:=aY 1 3 (qB)
def yM (scr:Bd):MS:=(aH (bS (mB (m2 eZ (aA 1) (aF (f1 (gH scr)) (aB (aA 0) aC)))) (aO (m2 (gG scr) (aA 0) (aA 1))) cA) (aO (mC (.int 0))))
def F_qe (scr:Bd):Bg:=aY 2 2 (yM scr)
def yN (scr:Bd):MS:=(aH (aJ (aF (F_qe scr) (aB (aA 0) (aB (aA 1) aC))) (aE 2)) (aH (bS (mB (m2 xU (aA 2) (m2 oP (mC (.int 10)) (mC (.int 18))))) (aO (aQ (aB (m2 nE (aA 2) (m2 oP (mC (.int 10)) (mC (.int 18)))) (aB (mC (.bl true)) aC)))) cA) (aO (aQ (aB (m2 lQ (aA 2) (mC (.int 2147483647))) (aB (mC (.bl false)) aC))))))
def F_qk (scr:Bd):Bg:=aY 2 3 (yN scr)
def DQ:MS:=(aH (bS (bO (m2 aU (aA 0) (mC (.int 1)))) (aH (aJ (m2 lQ (m2 aU (aA 0) (mC (.int 0))) (aA 1)) (aE 2)) (aH (tV (aA 0) (mC (.int 0)) (m2 uE (m2 aU (aA 0) (mC (.int 0))) (aA 1))) (aO (aA 2)))) cA) (aH (tV (aA 0) (mC (.int 0)) (m2 lQ (m2 bJ (m2 pR (m2 aU (aA 0) (mC (.int 0))) (mC (.int 48271))) (mC (.int 29))) (mC (.int 2147483647)))) (aH (aJ (m2 lQ (m2 bJ (m2 bJ (m2 pR (m2 aU (aA 0) (mC (.int 0))) (m2 aU (aA 0) (mC (.int 0)))) (m2 pR (mC (.int 39373)) (m2 aU (aA 0) (mC (.int 0))))) (mC (.int 7))) (mC (.int 2147483629))) (aE 3)) (aH (aJ (m2 lQ (m2 bJ (m2 pR (aA 3) (aA 3)) (m2 pR (mC (.int 16807)) (aA 3))) (mC (.int 2147483587))) (aE 3)) (aO (m2 lQ (m2 uE (aA 3) (mC (.int 8))) (aA 1)))))))
def F_qr:Bg:=aY 2 4 (DQ)
def DR:MS:=(aH (aJ (aF (f1 gJ) (aB (aA 1) aC)) (aE 2)) (aH (aJ (aQ aC) (aE 3)) (aH (iN (mB (m2 cD (aA 2) (aQ aC))) (dG (hO (aA 3) (uA (aA 2) (aF F_qr (aB (aA 0) (aB (aF (f1 bX) (aB (aA 2) aC)) aC)))))) 40) (aO (aA 3)))))
def F_qb:Bg:=aY 2 4 (DR)
def jC:MS:=(aH (aJ (aF (f1 lU) (aB (aA 0) aC)) (aE 1)) (iN (bO (mC (.bl true))) (aH (aJ (aF (f1 gJ) (aB (aA 1) aC)) (aE 2)) (aH (eC (bF cG (aA 1)) (cH 2 (aX (aE 3) (aX (aE 4) cJ))) (dG (pP (aA 2) (bM (bF cG (aA 1)) [none,none,some 3,some 4] (cH 2 (aX (aE 0) (aX (aE 1) cJ))) (mB (m2 bT (aA 3) (aA 0))) (bA (aL (aB (aA 2) (aB (aA 1) aC)))))))) (aH (aJ (aF (f1 lU) (aB (aA 2) aC)) (aE 2)) (aH (bS (mB (m2 bT (aA 2) (aA 1))) (aO (aA 1)) cA) (aJ (aA 2) (aE 1)))))) 40))
def F_qg:Bg:=aY 1 5 (jC)
def jD:MS:=(aH (aJ (m2 nE (aA 1) (m2 aU (aQ (aB (mC (.int 0)) (aB (mC (.int 0)) (aB (mC (.int 1)) (aB (mC (.int 2)) (aB (mC (.int 0)) (aB (mC (.int 3)) (aB (mC (.int 1)) (aB (mC (.int 4)) aC))))))))) (aF F_qr (aB (aA 0) (aB (mC (.int 8)) aC))))) (aE 2)) (aH (aJ (aF mW (aB (mC (.int 1)) (aB (aA 2) aC))) (aE 2)) (aH (aJ (aF F_qb (aB (aA 0) (aB (aF (f1 lT) (aB (aA 2) aC)) aC))) (aE 3)) (aH (aJ (aF F_qr (aB (aA 0) (aB (mC (.int 5)) aC))) (aE 4)) (aH (aJ (aQ aC) (aE 5)) (aH (aJ (bH (bM (bF cG (aA 3)) [none,some 0] (aE 0) cT (bA (aF F_qr (aB (aA 1) (aB (mC (.int 3)) aC)))))) (aE 6)) (aH (eC (aR cN (aB (aA 2) aC)) (aE 7) (eC (aR pN (aB (m2 bJ (aA 7) (mC (.int 1))) (aB (aA 2) aC))) (aE 8) (aH (aJ (aQ (aB (m2 bT (aF F_qr (aB (aA 0) (aB (mC (.int 6)) aC))) (mC (.int 0))) (aB (m2 bT (aF F_qr (aB (aA 0) (aB (mC (.int 2)) aC))) (mC (.int 0))) (aB (m2 jN (aF F_qr (aB (aA 0) (aB (mC (.int 4)) aC))) (mC (.int 0))) aC)))) (aE 9)) (aH (aJ (m2 bJ (aA 9) (aQ (aB (m2 eZ (m2 aU (aA 6) (aA 7)) (m2 aU (aA 6) (aA 8))) (aB (m2 bT (m2 aU (aA 6) (aA 7)) (m2 aU (aA 6) (aA 8))) aC)))) (aE 9)) (bS (bO (m2 aU (aA 9) (aA 4))) (dG (hO (aA 5) (aL (aB (m2 aU (aA 3) (aA 7)) (aB (m2 aU (aA 3) (aA 8)) aC))))) cA))))) (aH (bS (mB (m2 bT (aA 4) (mC (.int 3)))) (aH (aJ (aQ aC) (aE 5)) (eC (aR cN (aB (aA 2) aC)) (aE 7) (aJ (m2 bJ (aA 5) (bH (bM (aR cN (aB (aA 2) aC)) [none,some 7,some 6] (aE 0) (mB (m2 eZ (m2 aU (aA 2) (aA 1)) (m2 aU (aA 2) (aA 0)))) (bA (aL (aB (aA 1) (aB (aA 0) aC))))))) (aE 5)))) cA) (aO (aL (aB (aA 2) (aB (aF (f1 gN) (aB (aF F_qg (aB (aA 5) aC)) aC)) aC))))))))))))
def F_qj:Bg:=aY 2 10 (jD)
def jE:MS:=(aH (aJ (aQ (aB (mC .non) (aB (mC (.int 0)) (aB (aL aC) (aB (aL (aB (mC (.int 0)) (aB (aL aC) aC))) (aB (aL (aB (mC (.int 7)) (aB (aL aC) aC))) (aB (aL (aB (mC (.bl true)) (aB (aL aC) aC))) (aB (aL (aB (mC (.int 2)) (aB (aQ aC) aC))) (aB (aQ (aB (mC (.int 2)) (aB (aL aC) aC))) (aB (aL (aB (mC (.int 2)) (aB (aL (aB (aL (aB (mC (.int 0)) (aB (mC (.int 1)) aC))) (aB (aL (aB (mC (.int 0)) (aB (mC (.int 1)) aC))) aC))) aC))) (aB (aL (aB (mC (.int 2)) (aB (aL (aB (aL (aB (mC (.int 1)) (aB (mC (.int 0)) aC))) (aB (aL (aB (mC (.int 0)) (aB (mC (.int 1)) aC))) aC))) aC))) aC))))))))))) (aE 1)) (aH (aJ (m2 bJ (aA 1) (aQ (aB (aL (aB (mC (.int 3)) (aB (aL (aB (aL (aB (mC (.int 0)) (aB (mC (.int 1)) aC))) (aB (aL (aB (mC (.int 1)) (aB (mC (.int 2)) aC))) aC))) aC))) (aB (aL (aB (mC (.int 2)) (aB (aL (aB (aL (aB (mC (.int 0)) (aB (mC (.int 0)) aC))) aC)) aC))) (aB (aL (aB (mC (.int 2)) (aB (aL (aB (aL (aB (mC (.int 0)) (aB (mC (.int 2)) aC))) aC)) aC))) (aB (aL (aB (mC (.int 2)) (aB (aL (aB (aL (aB (mC (.int 0)) (aB (mC (.bl true)) aC))) aC)) aC))) (aB (aL (aB (mC (.int 2)) (aB (aL (aB (aL (aB (mC (.int 0)) (aB (mC (.int 1)) (aB (mC (.int 1)) aC)))) aC)) aC))) (aB (mC .edc) aC)))))))) (aE 1)) (aH (aJ (m2 bJ (aA 1) (aQ (aB (mC (.str "2:")) (aB (aL (aB (mC (.int 2)) (aB (aL (aB (mC (.int 0)) (aB (mC (.int 1)) aC))) aC))) (aB (aL (aB (mC (.int 3)) (aB (aL (aB (aL (aB (mC (.int 0)) (aB (mC (.int 2)) aC))) (aB (aL (aB (mC (.int 0)) (aB (mC (.int 1)) aC))) aC))) aC))) (aB (aL (aB (mC (.int 2)) (aB (mC .non) aC))) (aB (aL (aB (mC (.int 2)) (aB (aL aC) (aB (aL aC) aC)))) (aB (aL (aB (mC (.int 2)) aC)) (aB (aL (aB (mC (.int 2)) (aB (aL (aB (aQ (aB (mC (.int 0)) (aB (mC (.int 1)) aC))) aC)) aC))) (aB (aL (aB (mC (.int 2)) (aB (aL (aB (mC .non) aC)) aC))) aC)))))))))) (aE 1)) (aO (m2 aU (aA 1) (aF F_qr (aB (aA 0) (aB (mC (.int 24)) aC))))))))
def F_qa:Bg:=aY 1 2 (jE)
end L2.Mr.Com
namespace L2.Mr
def uP (i j:Nat) (ma:M Bh ):MS:=λρ h=>(ma ρ h).thenS λds h1=>match ds with
 | [a,b]=>.nx ((ρ.set i (some a)).set j (some b)) h1
 |_=>.bad
section
variable{X:Cx}{G:Cfg}{E:XK}{pos:Pos}
theorem p8 {i j:Nat}{x y:Str}{a b:bj}{ma:M Bh }{px py pt:Pos}{kt k2 pt2} (hc:X.calm=true) (hN:X.N.Nodup) (hi:X.N[i]?=some x) (hj:X.N[j]?=some y) (C':i≠j)
  (hx:X.env.scope.names.lookup x=some .local) (hy:X.env.scope.names.lookup y=some .local) (ha:dX X G E [a,b] ma)
  (hw:swappedStores [.Tuple [.Name x px,.Name y py] kt pt] (.Tuple [a,b] k2 pt2) X.env=pure (some [x,y]):=by rfl)
  (hs:swapsWithSole [.Tuple [.Name x px,.Name y py] kt pt] (.Tuple [a,b] k2 pt2) pos.line X.env=pure false:=by rfl):
  hJ X G E (.Assign [.Tuple [.Name x px,.Name y py] kt pt] (.Tuple [a,b] k2 pt2) pos) (uP i j ma):=λhK=>PS.imp (RJ hc hN hi hj C' hx hy (ha hK) hw hs) λD σ H ⟨μ,ρ,h,rs,s,o⟩=>
 ⟨μ,ρ,h,rs,s,(o.thenS (R:=RelDL G)).mono λvs H1 ⟨μ1,ds,h1,x1,s1,r1,o1⟩=>by
  match ds,r1,o1 with
  | [d1,d2],r1,o1=>obtain⟨v1,vs1,rfl,p,q⟩:=r1;obtain⟨v2,Fh,rfl,p',q'⟩:=q;rw[RelDL]at q';subst q';exact⟨_,_,rfl,o1 μ1 H1 _ Gj s1 (((rs.mono x1).set i p).set j p')⟩
  | [],_,o1=>exact o1.elim
  | [_],_,o1=>exact o1.elim
  |_::_::_::_,_,o1=>exact o1.elim⟩
end
def oX:M Dv:=λ_ _=>.bad
def yO (f:bj->M Dv):List bj->M Bh 
 | []=>aC
 |e::es=>aB (f e) (yO f es)
def nO (lk:Str->Option Nat):Nat->bj->M Dv
 |0,_=>oX
 |n+1,e=>match e with
  | .Constant c _ _=>match c with
   | .int i=>mC (.int i)
   | .bool b=>mC (.bl b)
   | .none=>mC .non
   | .str x=>mC (.str x)
   |_=>oX
  | .Tuple es _ _=>aL (yO (nO lk n) es)
  | .List es _=>aQ (yO (nO lk n) es)
  | .Dict [] [] _=>mC .edc
  | .Name x _=>match lk x with
   |some i=>aA i
   |none=>oX
  | .UnaryOp .USub a _=>m1 nB (nO lk n a)
  |_=>oX
def NC (e:bj):Prop:=∀es env,aw (e::es) env=(false,eval e env)::aw es env
section
variable{X:Cx}{G:Cfg}{E:XK}{lk:Str->Option Nat}
theorem yP {e:bj}:aI X G E e oX:=λ_ pins s σ H Q _ ⟨_,_,_,_,_,o⟩=>o.elim
theorem p9 {e:bj}{es:List bj}{ms:M Bh }:dX X G E (e::es) (aB oX ms):=λ_ pos pins s σ H Q _ ⟨_,_,_,_,_,o⟩=>o.elim
theorem DS {f:bj->M Dv}(hf:∀e,aI X G E e (f e)/\(NC e∨f e=oX)):∀es,dX X G E es (yO f es)
 | []=>aN
 |e::es=>by
  obtain⟨a,b|b⟩:=hf e
  ·exact aG a (DS hf es) (b es X.env)
  ·show dX X G E (e::es) (aB (f e) _);rw[b];exact p9
theorem yQ (hv:∀x i pos,lk x=some i->aI X G E (.Name x pos) (aA i)):∀n e,aI X G E e (nO lk n e)/\(NC e∨nO lk n e=oX)
 |0,_=>⟨yP,.inr rfl⟩
 |n+1,e=>by
  unfold nO
  split
  ·split
   ·exact⟨bG,.inl λ_ _=>rfl⟩
   ·exact⟨fX,.inl λ_ _=>rfl⟩
   ·exact⟨wW,.inl λ_ _=>rfl⟩
   ·exact⟨BN,.inl λ_ _=>rfl⟩
   ·exact⟨yP,.inr rfl⟩
  ·exact⟨iB (DS (yQ hv n) _),.inl λ_ _=>rfl⟩
  ·exact⟨fP (DS (yQ hv n) _),.inl λ_ _=>rfl⟩
  ·exact⟨KO,.inl λ_ _=>rfl⟩
  ·rename_i x pos
   split
   ·rename_i i q;exact⟨hv x i pos q,.inl λ_ _=>rfl⟩
   ·exact⟨yP,.inr rfl⟩
  ·exact⟨CO (yQ hv n _).1,.inl λ_ _=>rfl⟩
  ·exact⟨yP,.inr rfl⟩
theorem qC (n:Nat) {e:bj}{m:M Dv}(h:nO (λ_=>none) n e=m:=by rfl):aI X G E e m:=h▸(yQ (λ_ _ _ h=>by cases h) n e).1
end
structure SW (X:Cx) (G:Cfg) (E:XK) (st:ie) (m:MS):Prop where
 ok:hJ X G E st m
structure SWs (X:Cx) (G:Cfg) (E:XK) (st:List ie) (m:MS):Prop where
 ok:jJ X G E st m
section
variable{X:Cx}{G:Cfg}{E:XK}{st:ie}{rest:List ie}{m u:MS}{pos:Pos}
theorem DT (a:SW X G E st m) (b:SWs X G E rest u):SWs X G E (st::rest) (aH m u):=⟨aZ a.ok b.ok⟩
theorem q5 (a:SW X G E st m):SWs X G E [st] m:=⟨bQ a.ok⟩
theorem r8 (n:Nat) {i:Nat}{x:Str}{pos':Pos}{e:bj}{me:M Dv}(hN:X.N.Nodup) (hi:X.N[i]?=some x) (hx:lF X.env.scope x) (h:nO (λ_=>none) n e=me:=by rfl) (hs:swapsWith e (some (.Name x pos')) pos.line X.env=pure false:=by rfl) (hf:X.fn x=true∨X.env.scope.names.lookup x=some .local:=by first|exact .inl rfl|exact .inr rfl|assumption):
  SW X G E (.Assign [.Name x pos'] e pos) (aJ me (aE i)):=⟨BV hN hi hx (qC n h) hs hf⟩
theorem ND (n:Nat) {i:Nat}{x:Str}{pos' p2 p3:Pos}{e:bj}{me:M Dv}(hN:X.N.Nodup) (hi:X.N[i]?=some x) (hx:lF X.env.scope x) (hv:aI X G E (.Name x p2) (aA i)) (h:nO (λ_=>none) n e=me:=by rfl) (hs:swapsWith (.BinOp (.Name x p2) .Add e p3) (some (.Name x pos')) pos.line X.env=pure false:=by rfl) (hf:X.fn x=true∨X.env.scope.names.lookup x=some .local:=by first|exact .inl rfl|exact .inr rfl|assumption):
  SW X G E (.Assign [.Name x pos'] (.BinOp (.Name x p2) .Add e p3) pos) (aJ (m2 bJ (aA i) me) (aE i)):=⟨BV hN hi hx (fG hv (qC n h)) hs hf⟩
end
section
variable{P:bh}{w:cj}{K:ao}{mg:Str->Option af}{base:cy}{G:Cfg}{N:Bf}{f:ai}{k:Nat}
theorem r9 {x qual:Str}{st:ie}{fd:bp}{ps:Bf}{mb:MS}(Fn:Cy K x qual st f fd) (S:Bq N ps (aT st)) (hK:K=G.K)
  (Cm:∀(cdv:af) (A:bw) (outer:List Env) (s:ag) (H:Hp) (E₀ E:XK),Good (fO (bN P w base) P w K mg base N qual (aT st) f cdv A outer s H E₀) G E k->SWs (fO (bN P w base) P w K mg base N qual (aT st) f cdv A outer s H E₀) G E (hZ st) mb):
  Bt P w K mg base (bN P w base) (k+1) f fd ps (cU G (aY ps.length N.length mb)):=dZ Fn S hK λcdv A outer s H E₀ E g=>(Cm cdv A outer s H E₀ E g).ok
end
open SR
def lV (ns:Bd):Nat:=(firstMet (λi=>ns.getD i 0) ns.length).length
section
variable{prog:bh}{w:cj}{A:bw}{E:af->ag->Prop}{s:ag}
theorem u0 {l:ai}{T:String}{it:Obj}{n:Nat}{P:Nat->af->Prop}{St:Nat->cy->Prop}{fp wr:List ai}(ky:Nat->Int) {Q:af->ag->Prop}
  (hT:s.TypeIs (.ref l) T) (n1:isSubtype (.type T) (.type "set")=pure false) (n2:isSubtype (.type T) (.type "frozenset")=pure false) (n3:(vj T==vj "dict")=false)
  (hi:∀(B:bw) (Q':af->ag->Prop) (E':af->ag->Prop),Q' (.ref (s.heap.objs.size+1)) { s with heap:=(s.heap.push (bare w)).push it }->wpAny (model prog w) B (pyIter (.ref l)) Q' E' { s with heap:=s.heap.push (bare w) })
  (W:Walks prog w A.in1.in1.in1 (s.heap.objs.size+1) fp wr n P St) (hfp:s.heap.objs.size∉fp) (hwr:∀b∈wr,s.heap.objs.size<b) (h0:St 0 ((s.heap.push (bare w)).push it))
  (hval:∀i v,P i v->∃t,v=.int (ky i) t) (hn:n+1<scanBound)
  (q:∀(h':cy) (tk:Nat),h'.SetOf (intKind prog w) s.heap.objs.size (λk=>(firstMet ky n).any (·==k)) (firstMet ky n).length->(∀b o,s.heap.get? b=some o->h'.get? b=some o)->Q (.ref s.heap.objs.size) { s with heap:=h',toks:=tk }):
  wpAny (model prog w) A (call (.type "set") [.ref l]) Q E s:=by
 refine MU (N:=λx s1=>x=.ref s.heap.objs.size/\s1={ s with heap:=s.heap.push (bare w) }) (MT _ ⟨rfl,rfl⟩) ?_
 rintro x s1 ⟨rfl,rfl⟩
 have up:∀b o,s.heap.get? b=some o->(s.heap.push (bare w)).get? b=some o:=λb o e=>aj _ e;have hb:(s.heap.push (bare w)).get? s.heap.objs.size=some (bare w):=bc _ rfl;have hS:oz { s with heap:=s.heap.push (bare w) } (.ref s.heap.objs.size) "set" := ⟨_,hb,rfl⟩;refine⟨hS,qj F.called_set.init.plain F.entry_set_init (check_set_init_1 hS ?_)⟩;obtain⟨ol,el,cl⟩:=hT;have hl1:oz { s with heap:=s.heap.push (bare w) } (.ref l) T:=⟨ol,up l ol el,cl⟩
 have Eu:((s.heap.push (bare w)).push it).get? s.heap.objs.size=some (bare w):=aj _ hb;have run:∀(R:xq->ag->Prop),(∀h' tk,h'.SetOf (intKind prog w) s.heap.objs.size (λk=>(firstMet ky n).any (·==k)) (firstMet ky n).length->(∀b o,s.heap.get? b=some o->h'.get? b=some o)->R (.ok (.ret .none)) { s with heap:=h',toks:=tk })->
   codeAny (model prog w) A.in1.in1 (.builtin "set.update.loop" ⟨[.ref s.heap.objs.size,.ref (s.heap.objs.size+1)],[]⟩) R { s with heap:=(s.heap.push (bare w)).push it }:=λR hR=>by
  refine codeAny_set_update_loopS W.toS s.heap.objs.size hfp ky hval hn n 0 _ rfl (gr _) h0 (SetOf_congr ((setObjOf_fresh (knd:=intKind prog w) _).setOf Eu (by unfold scanBound;omega)) (λ_=>rfl) rfl) λs' hm hS'=>?_;rw[Moved.eq_with hm];refine hR s'.heap s'.toks hS' λb o e=>?_;have hlt:=aq e;exact hm.heap b o (λm=>(az.mp m).elim (ay hlt) λm=>Ak hlt (hwr b m)) (aj _ (up b o e))
 unfold md.«set.__init__» noKeywords ur;generalize hPI:pyIter=PI;unfold bare at hb
 wp_walk
 subst hPI;refine hi _ _ _ ?_;refine aa (we (run _ λh' tk S keep=>?_));exact ah (ah ⟨rfl,q h' tk S keep⟩)
end
section
variable{X:Cx}{G:Cfg}{E:XK}{k:Nat}{e:bj}{aR:M Bh }{p p2 pos Dk:Pos}
abbrev u5:Hf->Hp->VK->Prop:=λxs H Q=>∃(p:ai) (ns:Bd),xs=[.ref p]/\H p=some (.tup (ns.map Gh))/\ns.length<1000/\∀l S,H l=none->Q (.ref l) (upd H l (.set S (lV ns)))
theorem u7 (hc:X.calm=true):Bv X (.type "set") u5:=by
 intro pins s σ H xs us Q I rv ⟨p,ns,e,hp,hz,q⟩;subst e;obtain⟨u,rfl,ru⟩:=iU rv;cases ru;obtain⟨its,rits,pl,_⟩:=I.tuple (Gb hp);have lp:=I.hok.lt hp;have hn:its.toArray.size=ns.length:=by have:=rits.length;simp at this ⊢;omega
 have hI:s.heap.IsTuple p its.toArray:=pl;have hne:p≠s.heap.objs.size+1:=ay (ki lp);have hb:(s.heap.push (bare X.w)).IsTuple p its.toArray:=yp (items:=its.toArray) hI _;have hs1:(s.heap.push (bare X.w)).objs.size=s.heap.objs.size+1:=xw _ _;have W:=Walks.tuple (prog:=X.prog) (w:=X.w) (A:=X.A.in1.in1.in1) (show X.A.in1.in1.in1.handled=none from I.ok.hd hc) (s.heap.objs.size+1) p hne its.toArray;rw[hn]at W;refine u0 (T := "tuple") (it:={ cls:=.type "tuple_iterator",data:=.fields #[.ref p,.int 0 0] }) (λi=>ns.getD i 0) hI.typeIs sub_tuple.1 sub_tuple.2 (by decide) (λB Q' E' hQ=>?_) W (λm=>?_) (λb hb=>?_) ⟨⟨{ cls:=.type "tuple_iterator",data:=.fields #[.ref p,.int 0 0] }, ?_,rfl,rfl⟩,yp (items:=its.toArray) hb _⟩ (λi v hv=>YT rits hv) (by unfold scanBound;omega) λh' tk hS kk=>?_
 ·refine om hb ?_;rw[<-hs1]at hQ;exact hQ
 ·rcases az.mp m with z|m
  ·exact ph _ z.symm
  ·exact ji lp (cg.mp m)
 ·rw[cg.mp hb];exact jy _
 ·rw[<-hs1];exact bc _ rfl
 ·exact⟨.ref s.heap.objs.size,_,I.laid (t':=tk) (o:=.set _ (lV ns)) kk (ak _) hS,rfl,q _ _ (I.hok.fresh (ak _))⟩
abbrev u9:Hf->Hp->VK->Prop:=λxs H Q=>∃(l:ai) (S:Int->Bool) (n:Nat),xs=[.ref l]/\H l=some (.set S n)/\Q (.int n) H
theorem v5:Bv X (.builtin "len") u9:=by intro pins s σ H xs us Q I rv ⟨l,S,n,e,hl,q⟩;subst e;obtain⟨u,rfl,ru⟩:=iU rv;cases ru;obtain⟨o,es,ep,t,ho,hex,hd,_,_,Cu,hf,en⟩:s.heap.SetOf (intKind X.prog X.w) l S n:=I.hok l _ hl;refine call_len_set ho hex hd hf (by unfold scanBound at Cu;omega) ?_;rw[en];exact⟨.int n,H,I.tok _,⟨_,rfl⟩,q⟩
def nQ:Dv->Hs->Rs Dv
 | .tup xs,h=>match bP gB xs with
  |some ns=>if ns.length<1000 then .ok (.int (lV ns)) h else .bad
  |none=>.bad
 |_,_=>.bad
theorem v7 (hc:X.calm=true) (hg:Gl X "len") (hm:X.mg "len" = none) (hg2:Gl X "set") (hm2:X.mg "set" = none) (ha:dX X G E [e] aR)
  (he:aw [e] X.env=[(false,eval e X.env)]:=by rfl) (Ec:aw [Expr.Call (.Name "set" p2) [e] [] Dk] X.env=[(false,eval (.Call (.Name "set" p2) [e] [] Dk) X.env)]:=by rfl):
  aI X G E (.Call (.Name "len" p) [.Call (.Name "set" p2) [e] [] Dk] [] pos) (aF (f1 nQ) aR):=λhK=>
 Gg (qV v5 hg hm yi (hY (tF (u7 hc) hg2 hm2 M3 (ha hK) (by decide) (by decide) he rfl) jG Ec) (by decide) (by decide) Ec rfl) λσ H Q ⟨μ,ρ,h,rs,s,o⟩=>by
  refine jV rs s o λμ1 ds h1 vs H1 x1 Cb s1 r1 o1=>?_;unfold f1 at o1
  split at o1
  ·rename_i d;obtain⟨v,rfl,rv⟩:=rF r1
   cases d with
   |tup xs=>
    dsimp only[nQ]at o1
    cases q:bP gB xs with
    |none=>rw[q]at o1;exact o1.elim
    |some ns=>
     rw[q]at o1;dsimp only at o1
     split at o1
     ·rename_i h0;obtain⟨a,vs,rfl,e1,r2⟩:=rv;refine⟨a,ns,rfl,by rw[e1,pT r2 q],h0,λl S hl=>⟨l,S,_,rfl,cR, ?_⟩⟩;exact o1 μ1 _ _ (F' (cK hl)) (s1.same (cK hl)) rfl
     ·exact o1.elim
   |_=>exact o1.elim
  ·exact o1.elim
end
theorem NF (ns:Bd):∀i,i<=ns.length->∀k,k∈firstMet (λi=>ns.getD i 0) i↔k∈ns.take i
 |0,_,k=>by simp[firstMet_zero]
 |i+1,h,k=>by
  have ih:=NF ns i (by omega);have hi:i<ns.length:=by omega
  rw[firstMet_succ];unfold step_dedup;rw[jb hi]
  by_cases c:(firstMet (λi=>ns.getD i 0) i).any (·==ns.getD i 0)=true
  ·rw[if_pos c];simp only[nh,beq_iff_eq,exists_eq_right]at c;rw[ih,br];refine⟨.inl,λz=>z.elim id λz=>?_⟩;have:k=ns[i]:=by simpa using z
   rw[this];have:=(ih _).mp c;simpa[hi]using this
  ·rw[if_neg c,br,br,ih];simp[hi]
theorem v8 (ns:Bd):lV ns=ns.length↔ns.Nodup:=by
 have key:∀i,i<=ns.length->((firstMet (λi=>ns.getD i 0) i).length=i↔(ns.take i).Nodup):=by
  intro i
  induction i with
  |zero=>intro _;simp[firstMet_zero]
  |succ i ih=>
   intro h;have hi:i<ns.length:=by omega
   have ih:=ih (by omega);have le:=firstMet_length_le (λi=>ns.getD i 0) i;rw[firstMet_succ,step_length,jb hi,wq];have hm:((firstMet (λi=>ns.getD i 0) i).any (·==ns.getD i 0)=true)↔ns[i]∈ns.take i:=by rw[<-NF ns i (by omega)];simp[hi]
   by_cases c:(firstMet (λi=>ns.getD i 0) i).any (·==ns.getD i 0)=true
   ·rw[if_pos c];refine⟨λz=>by omega,λz=>?_⟩;exact absurd rfl (z.2.2 _ (hm.mp c) _ (cg.mpr rfl))
   ·rw[if_neg c];refine⟨λz=>⟨ih.mp (by omega),by simp,λa ha b hb e=>?_⟩,λz=>by rw[ih.mpr z.1]⟩;have:b=ns[i]:=by simpa using hb
    subst this;subst e;exact c (hm.mpr ha)
 have:=key ns.length (ak _);rw[List.take_length]at this;exact this
section
variable{prog:bh}{w:cj}{A:bw}{E:af->ag->Prop}{s:ag}{z TI TO i j u v T:ai}{xs ys:List af}{st su:Nat->cy->Prop}{f1:Bool}
end
section
variable{X:Cx}{pins:List (ai×Obj)}{σ:St}{H:Hp}{s:ag}{B:bw}{z TI TO i j t u:ai}{vs ws:Hf}{n:Nat}
end
section
variable{X:Cx}{pins:List (ai×Obj)}{σ:St}{B:bw}{z TI TO i j t u S:ai}{vs ws:Hf}{H0:Hp}
end
section
variable{X:Cx}{G:Cfg}{E:XK}{a b:bj}{ta:TA}{ms:M Bh }{p p2 pos Dk:Pos}
end
open PySem.SeqAt PySem.MeetsSeq PySem.MeetsSeq2 PySem.MeetsSeq3
section
variable{prog:bh}{w:cj}{A:bw}{Ee:af->ag->Prop}{s:ag}
end
section
variable{X:Cx}{G:Cfg}{E:XK}{k:Nat}{e:bj}{aR:M Bh }{p p2 pos Dk:Pos}
end
section
variable{prog:bh}{w:cj}{A:bw}{I S:ai}{fp wr:List ai}{n:Nat}{P:Nat->af->Prop}{St:Nat->cy->Prop}{R:xq->ag->Prop}{ky:Nat->Int}{d:af}
end
section
variable{X:Cx}{G:Cfg}{E:XK}{e:bj}{ml:M Bh }{p pos kpos:Pos}
end
def yR (me mo mi mo' mi':M Dv):MS:=λρ h=>(me ρ h).thenS λd h1=>match d with
 | .tup [a,b]=>(mo ρ h1).thenS λo h2=>(mi ρ h2).thenS λi h3=>match jA o i a h3 with
  |some h4=>(mo' ρ h4).thenS λo' h5=>(mi' ρ h5).thenS λi' h6=>match jA o' i' b h6 with
   |some h7=>.nx ρ h7
   |none=>.bad
  |none=>.bad
 |_=>.bad
section
variable{X:Cx}{G:Cfg}{E:XK}{o i o' i' e:bj}{me mo mi mo' mi':M Dv}{pos spos Ct tpos:Pos}{kt:Nat}
theorem NG {μ:Nat->ai}{h h4:Hs}{H:Hp}{ob ix d:Dv}{vo vi v:V}{Q:Hp->Prop}(s:Bw G μ h H) (r2:Bo G μ h.length H ob vo) (r3:Bo G μ h.length H ix vi) (r1:Bo G μ h.length H d v) (q0:jA ob ix d h=some h4)
  (k:∀H4,Ext μ h.length H μ h4.length H4->Bw G μ h4 H4->Q H4):∃a vs j n,vo=.ref a/\vi=.int j/\H a=some (.lst vs)/\eI vs.length j=some n/\Q (upd H a (.lst (vs.set n v))):=by
 cases ob with
 |ref j=>
  cases ix with
  |int k'=>
   dsimp only[jA]at q0
   cases q:getL h j with
   |none=>rw[q]at q0;cases q0
   |some xs=>
    rw[q]at q0;dsimp only at q0
    cases q2:eI xs.length k' with
    |none=>rw[q2]at q0;cases q0
    |some n=>rw[q2]at q0;cases q0;obtain⟨vs,ea,ra⟩:=s.ob j _ (cW q);obtain⟨_,rfl⟩:=r2;rw[Bo]at r3;subst r3;obtain⟨x4,s4⟩:=s.write (cW q) (RelDL.set r1 n ra);exact⟨_,vs,k',n,rfl,rfl,ea,by rw[ra.length];exact q2,k _ x4 s4⟩
  |_=>cases q0
 |_=>cases ix <;> cases q0
theorem v9 (hc:X.calm=true) (ho:aI X G E o mo) (hi:aI X G E i mi) (Es:aI X G E o' mo') (hi':aI X G E i' mi') (he:aI X G E e me)
  (ha:∀v,assign (.Subscript o i spos) X.env v=(do
   let ov <-holding [v] (eval o X.env)
   let iv <-holding [v,ov] (eval i X.env)
   standAt spos
   holding [v,ov,iv] (setItem ov iv v)
   release [v,ov,iv] []):=by intro _;rfl)
  (ha':∀v,assign (.Subscript o' i' Ct) X.env v=(do
   let ov <-holding [v] (eval o' X.env)
   let iv <-holding [v,ov] (eval i' X.env)
   standAt Ct
   holding [v,ov,iv] (setItem ov iv v)
   release [v,ov,iv] []):=by intro _;rfl)
  (hs:swapsWithSole [.Tuple [.Subscript o i spos,.Subscript o' i' Ct] kt tpos] e pos.line X.env=pure false:=by rfl) (hw:swappedStores [.Tuple [.Subscript o i spos,.Subscript o' i' Ct] kt tpos] e X.env=pure none:=by rfl)
  (h1:(assignEach [.Tuple [.Subscript o i spos,.Subscript o' i' Ct] kt tpos] X.env).map (·.2)=[assign (.Tuple [.Subscript o i spos,.Subscript o' i' Ct] kt tpos) X.env]:=by rfl)
  (h2:(assignEach [.Subscript o i spos,.Subscript o' i' Ct] X.env).map (·.2)=assign (.Subscript o i spos) X.env::(assignEach [.Subscript o' i' Ct] X.env).map (·.2):=by rfl)
  (h3:(assignEach [.Subscript o' i' Ct] X.env).map (·.2)=assign (.Subscript o' i' Ct) X.env::(assignEach [] X.env).map (·.2):=by rfl)
  (h4:(assignEach [.Subscript o i spos,.Subscript o' i' Ct] X.env).length=2:=by rfl) (h5:(assignEach [.Subscript o i spos,.Subscript o' i' Ct] X.env).findIdx? (·.1)=none:=by rfl):
  hJ X G E (.Assign [.Tuple [.Subscript o i spos,.Subscript o' i' Ct] kt tpos] e pos) (yR me mo mi mo' mi'):=λhK=>
 PS.imp (AW (he hK) (GS hc (AU (AV (ho hK) (hi hK) BA ha) (AU (AV (Es hK) (hi' hK) BA ha') GR h3) h2) h4 h5) hs hw h1) λD σ H ⟨μ,ρ,h,rs,s,oo⟩=>iW rs s oo λμ1 d h1 v H1 x1 Cb s1 r1 o1=>by
  match d,r1,o1 with
  | .tup [a,b],r1,o1=>
   obtain⟨p,vs,rfl,ep,rp⟩:=r1;obtain⟨va,vb,rfl,ra,rb⟩:=rG rp;refine⟨p,_,rfl,Gb ep,rfl,va,[vb],rfl,iW Cb s1 o1 λμ2 ob h2 vo H2 x2 Dl s2 r2 o2=>iW Dl s2 o2 λμ3 ix h3 vi H3 x3 Fi s3 r3 o3=>?_⟩
   cases q:jA ob ix a h3 with
   |none=>rw[q]at o3;exact o3.elim
   |some h4=>
    rw[q]at o3;refine NG s3 (Gi x3 _ _ r2) r3 (Gi (x2.trans x3) _ _ ra) q λH4 x4 s4=>⟨vb,[],rfl,iW (Fi.mono x4) s4 (o3.ext x4) λμ5 ob' h5 vo' H5 x5 rs5 s5 r5 o5=>iW rs5 s5 o5 λμ6 ix' h6 vi' H6 x6 rs6 s6 r6 o6=>?_⟩
    cases q':jA ob' ix' b h6 with
    |none=>rw[q']at o6;exact o6.elim
    |some h7=>rw[q']at o6;exact NG s6 (Gi x6 _ _ r5) r6 (Gi ((((x2.trans x3).trans x4).trans x5).trans x6) _ _ rb) q' λH7 x7 s7=>⟨rfl,o6 μ6 H7 σ x7 s7 (rs6.mono x7)⟩
  | .non,_,o1=>exact o1.elim
  | .bl _,_,o1=>exact o1.elim
  | .int _,_,o1=>exact o1.elim
  | .str _,_,o1=>exact o1.elim
  | .ref _,_,o1=>exact o1.elim
  | .edc,_,o1=>exact o1.elim
  | .exc _,_,o1=>exact o1.elim
  | .scr,_,o1=>exact o1.elim
  | .tup [],_,o1=>exact o1.elim
  | .tup [_],_,o1=>exact o1.elim
  | .tup (_::_::_::_),_,o1=>exact o1.elim
end
theorem y8 {h:cy}{a:ai}{vs:List af}{out:Array af}{n:Nat}(ho:h.get? a=some (seqObj "list" vs.toArray n)):∃ep,(sortedHeap h a vs out).get? a=some (seqObj "list" out ep):=by have e1:=mw ho λ_=>#[];have e2:=aj (seqObj "list" #[] 0) (aj (seqObj "tuple" vs.toArray 0) e1);exact⟨_,mw e2 λ_=>out⟩
theorem y9 {h:cy}{a b:ai}{vs:List af}{out:Array af}{o:Obj}(hb:b≠a) (e:h.get? b=some o):(sortedHeap h a vs out).get? b=some o:=by unfold sortedHeap;rw[jv _ _ _ _ hb];refine aj _ (aj _ ?_);rw[jv _ _ _ _ hb];exact e
section
variable{X:Cx}{G:Cfg}{E:XK}{e:bj}{aR:M Bh }{p pos:Pos}
abbrev NH:Hf->Hp->VK->Prop:=λxs H Q=>∃(p:ai) (ns:Bd),xs=[.ref p]/\H p=some (.tup (ns.map Gh))/\ns.length<64/\∀l,H l=none->Q (.ref l) (upd H l (.lst ((iE ns).map Gh)))
theorem z9:Bv X (.builtin "sorted") NH:=by
 intro pins s σ H xs us Q I rv ⟨p,ns,e,hp,h0,q⟩;subst e;obtain⟨u,rfl,ru⟩:=iU rv;cases ru;obtain⟨its,rits,pt,hz⟩:=I.tuple (Gb hp);have hl:=rits.length;rw[bg]at hl;refine Calls.call_function_entry kind_sorted plain_sorted entry_sorted (args_sorted1 _) ?_;unfold md.«sorted»;refine aa (m:=checkCount "sorted" 1 1 _) (ah (aa (m7 pt (by rw[jr];omega) λh1 k1 sz=>aa (uq ?_ (by rw[jr];omega)))));have g:(h1.push (seqObj "list" its.toArray 0)).get? h1.objs.size=some (seqObj "list" its.toArray 0):=bc _ rfl;have k2:pY s.heap (h1.push (seqObj "list" its.toArray 0)):=λb o e=>aj _ (k1 b o e);refine aa (gv (fq slot_list_sort ⟨_,g,rfl⟩ entry_list_sort (list_sort_tree (s:={ s with heap:=h1.push (seqObj "list" its.toArray 0) }) g (CQ rits) (by omega) λout ns' a1 a2 a3=>⟨_,rfl,ah ⟨_,rfl, ?_⟩⟩) (args_list_sort _)));obtain⟨ep,he⟩:=y8 (out:=out) g;have hu:=K0 a2 a3;subst hu;refine⟨.ref h1.objs.size,_,I.laid (t':=s.toks) (λb o e=>y9 (ay (au (aq e) sz)) (k2 b o e)) sz (show Br X.prog X.w _ _ _ (.lst ((iE ns).map Gh)) from⟨?_,out.toList,ep,tG a1, ?_⟩),rfl,q _ (I.hok.fresh sz)⟩
 ·rw[bg,YW];exact cz (gu h0) (by decide)
 ·rw[he]
def qD (x:Dv) (h:Hs):Rs Dv:=match x with
 | .tup xs=>match bP gB xs with
  |some ns=>if ns.length<64 then .ok (.ref h.length) (h++[.lst ((iE ns).map Fx)])else .bad
  |none=>.bad
 |_=>.bad
theorem z00:mU G (λx H Q=>NH [x] H Q) qD:=by
 intro E μ h H x vx Q s r o
 cases x with
 |tup xs=>
  dsimp only[qD]at o
  cases q2:bP gB xs with
  |none=>rw[q2]at o;exact o.elim
  |some ns=>
   rw[q2]at o;dsimp only at o
   split at o
   ·rename_i h0;obtain⟨a,vs,rfl,e1,r1⟩:=r;exact⟨_,ns,rfl,by rw[e1,pT r1 q2],h0,λl hl=>oE s (rE _) hl o⟩
   ·exact o.elim
 |_=>exact o.elim
theorem z01 (hg:Gl X "sorted") (hm:X.mg "sorted" = none) (ha:dX X G E [e] aR)
  (he:aw [e] X.env=[(false,eval e X.env)]:=by rfl):aI X G E (.Call (.Name "sorted" p) [e] [] pos) (aF (f1 qD) aR):=
 tP (Bv.imp z9 λxs H Q ⟨v,h1,h2⟩=>by rw[h1];exact h2) (tQ z00) hg hm K1 ha (by decide) (by decide) he rfl
end
end L2.Mr
namespace L2.Mr.K05
open L2.Mr.Com
def mb_qo:MS:=(bS (cO (bO (aF F_qx (aB (aA 0) aC)))) (xK 0 (aB (mC (.str "this is no order")) aC)) cA)
def F_qo:Bg:=aY 1 1 (mb_qo)
def mb_q2:MS:=(aH (dG (aF F_qo (aB (aA 0) aC))) (aH (aJ (aA 0) (cH 2 (aX (aE 2) (aX (aE 3) cJ)))) (aH (bS (dU (cO (bO (aF F_qm (aB (aA 2) (aB (aA 1) aC))))) (dU (mB (m2 cD (aF (f1 bX) (aB (aA 1) aC)) (aA 2))) (mB (m2 cD (aF (f1 nQ) (aB (aA 1) aC)) (aA 2))))) (aO (mC (.bl false))) cA) (aO (mL iL (bM (bF dY (aA 3)) [none,none,some 1] (cH 2 (aX (aE 0) (aX (aE 1) cJ))) cT (bA (m2 eZ (fZ (aA 2) (aA 0)) (fZ (aA 2) (aA 1))))))))))
def F_q2:Bg:=aY 2 4 (mb_q2)
def yS:MS:=(aO (eK (m1 (aV oR) (aA 0)) (m1 mV (m1 (aV kD) (aA 0)))))
def F_ql:Bg:=aY 1 1 (yS)
def mb_qh:MS:=(aH (bS (dU (cO (bO (m1 (aV eY) (aA 1)))) (mB (m2 cD (bH (bM (bF dY (aA 1)) [none] (aE 0) (cO (bO (aF F_ql (aB (aA 0) aC)))) (bA (aA 0)))) (aQ aC)))) (aO (mC (.bl false))) cA) (aH (bS (mB (m2 cD (aF (f1 qD) (aB (aA 1) aC)) (aF (f1 lT) (aB (m2 aU (aA 0) (mC (.int 0))) aC)))) (aO (mC (.bl false))) cA) (aO (m2 bT (bH (bM (bF dY (m2 aU (aA 0) (mC (.int 1)))) [none,none,some 1] (cH 2 (aX (aE 0) (aX (aE 1) cJ))) (mB (m2 jN (fZ (aA 2) (aA 0)) (fZ (aA 2) (aA 1)))) (bA (mC (.int 1))))) (aQ aC)))))
def F_qh:Bg:=aY 2 2 (mb_qh)
def uQ:MS:=(aH (aJ (aL aC) (aE 2)) (aH (eC (aR cN (aB (m2 aU (aA 1) (mC (.int 0))) aC)) (aE 3) (aH (aJ (bH (bM (aR cN (aB (m2 aU (aA 1) (mC (.int 0))) aC)) [none,some 2] (aE 0) (mB (m2 (dW true) (aA 0) (aA 1))) (bA (aA 0)))) (aE 4)) (aH (aJ (bH (bM (bF cG (aA 4)) [none,some 1,some 2] (aE 0) (mB (m2 bT (bH (bM (bF dY (m2 aU (aA 1) (mC (.int 1)))) [none,none,some 0,some 2] (cH 2 (aX (aE 0) (aX (aE 1) cJ))) (jH (mB (m2 bT (aA 1) (aA 2))) (mB (m2 (dW true) (aA 0) (aA 3)))) (bA (aA 0)))) (aQ aC))) (bA (aA 0)))) (aE 5)) (aJ (m2 bJ (aA 2) (aL (aB (m2 aU (aA 5) (aF F_qr (aB (aA 0) (aB (aF (f1 bX) (aB (aA 5) aC)) aC)))) aC))) (aE 2))))) (aO (aA 2))))
def F_qd:Bg:=aY 2 6 (uQ)
def mb_qc:MS:=(aH (uP 2 3 (aB (aF F_qr (aB (aA 0) (aB (aF (f1 bX) (aB (aA 1) aC)) aC))) (aB (aF F_qr (aB (aA 0) (aB (aF (f1 bX) (aB (aA 1) aC)) aC))) aC))) (aH (aJ (m2 aU (aQ (aB (m2 aU (aA 1) (aA 3)) (aB (aF (f1 bX) (aB (aA 1) aC)) (aB (m1 nB (mC (.int 1))) (aB (mC (.bl true)) (aB (mC .non) (aB (mC (.str "0")) (aB (aL (aB (mC (.int 0)) aC)) (aB (m2 oP (mC (.int 10)) (mC (.int 29))) (aB (mC (.bl false)) aC)))))))))) (aF F_qr (aB (aA 0) (aB (mC (.int 9)) aC)))) (aE 4)) (aH (aJ (aQ (aB (m2 bJ (m2 bJ (gK (aA 1) gI (fS (aA 2))) (aL (aB (aA 4) aC))) (gK (aA 1) (fS (m2 bJ (aA 2) (mC (.int 1)))) gI)) (aB (m2 bJ (gK (aA 1) gI (fS (aA 2))) (gK (aA 1) (fS (m2 bJ (aA 2) (mC (.int 1)))) gI)) (aB (m2 bJ (m2 bJ (gK (aA 1) gI (fS (aA 2))) (aL (aB (aA 4) aC))) (gK (aA 1) (fS (aA 2)) gI)) (aB (aF (f1 gJ) (aB (aA 1) aC)) (aB (mC .non) aC)))))) (aE 5)) (aH (aJ (aF (f1 gJ) (aB (aA 1) aC)) (aE 6)) (aH (yR (aL (aB (m2 aU (aA 1) (aA 3)) (aB (m2 aU (aA 1) (aA 2)) aC))) (aA 6) (aA 2) (aA 6) (aA 3)) (aH (aJ (m2 bJ (aA 5) (aQ (aB (aF (f1 gN) (aB (aA 6) aC)) (aB (aF (f1 gN) (aB (aA 6) aC)) (aB (aF (f1 gN) (aB (aA 6) aC)) (aB (yJ (aA 1) (fS (m1 nB (mC (.int 1))))) (aB (m2 bJ (gK (aA 1) (fS (aA 2)) gI) (gK (aA 1) gI (fS (aA 2)))) (aB (mC .edc) (aB (mC (.int 0)) (aB (aL (aB (aA 1) aC)) (aB (aA 1) aC))))))))))) (aE 5)) (aO (m2 aU (aA 5) (aF F_qr (aB (aA 0) (aB (mC (.int 14)) aC)))))))))))
def F_qc:Bg:=aY 2 7 (mb_qc)
end L2.Mr.K05
namespace L2.Mr
structure Lm where
 Nl:Bf
 par:km
 bod:bj
 scp:gq
 caps:Be
 me:M Dv
def Eb (G:Cf0) (env:Env) (L:Lm) (H:Hp) (a:ai):Prop:=∃c' pm ctv oc,H a=some (.frz (kv "<lambda>" G.lq L.par L.bod L.scp (dC env L.scp.names []) pm c' ctv) (.own 0))/\H c'=some (.frz oc (.own 0))/\wV G.lq oc
theorem Eb.keep {G:Cf0}{env:Env}{L:Lm}{H H':Hp}{a:ai}(h:Eb G env L H a) (k:∀a o,wU o->H a=some o->H' a=some o):Eb G env L H' a:=by obtain⟨c',pm,ctv,oc,h1,h2,h3⟩:=h;exact⟨c',pm,ctv,oc,k _ _ trivial h1,k _ _ trivial h2,h3⟩
def jF (k t:Nat):M Dv:=λ_ h=>if t<=h.length then .ok (.ref h.length) (h++[.clo k t])else .bad
section
variable{X:Cx}{G:Cfg}{E:XK}{c P:ai}{lpos:Pos}{k t:Nat}
theorem z02 (L:Lm) (Ft:defaultsOf L.par X.env=([],[])) (hq:X.env.qual ++ "<lambda>" = G.lq) (hP:G.tab=some P) (Ek:X.env.code=.ref c) (hC:mf X.base c P) (hB:lM X.mg X.base)
  (LS:Cd L.Nl L.scp) (Ej:∀y∈L.Nl,X.env.scope.names.lookup y=some .cell) (hG:∀μ n H a,Eb G X.env L H a->G.clo μ n H k t a):
  aI X G E (.Lambda L.par L.bod L.scp lpos) (jF k t):=λhK=>by
 have hfree:∀y,(y,bz)∈L.scp.names->X.env.kindOf y=some .cell∨X.env.kindOf y=some .free:=λy hy=>.inl (Ej y (LS.all _ hy rfl));refine Gg (XN (G:=G) (lpos:=lpos) (body:=L.bod) Ft hq hP Ek hC hB hfree) λσ H Q ⟨μ,ρ,h,rs,sm,o⟩=>⟨sm.tab,λf c' pm ctv oc H1 hf st tb e1 e2 e3=>?_⟩
 unfold jF at o
 split at o
 ·rename_i ht;have hl:(h++[Gr k t]).length=h.length+1:=by simp
  have hne:=sm.not hf;have x:Ext μ h.length H (λi=>if i=h.length then f else μ i) (h++[Gr k t]).length H1:=⟨by omega,λi hi=>if_neg (ay hi),λa u im z=>st a u (λps w=>by subst w;exact im) z⟩
  refine o _ H1 (.ref f) x ⟨λi j hi hj e=>?_,λi ob q=>?_,tb⟩ ⟨by omega,by show Gx f=Gx (if h.length=h.length then f else μ h.length);rw[if_pos rfl]⟩
  ·rw[hl]at hi hj
   by_cases h1:i=h.length <;> by_cases h2:j=h.length
   ·omega
   ·rw[if_pos h1,if_neg h2]at e;exact absurd e.symm (hne j (by omega))
   ·rw[if_neg h1,if_pos h2]at e;exact absurd e (hne i (by omega))
   ·rw[if_neg h1,if_neg h2]at e;exact sm.inj i j (by omega) (by omega) e
  ·by_cases h1:i<h.length
   ·rw[dw h1]at q;have r1:=sm.ob i ob q;rw[if_neg (ay h1)]
    cases ob with
    |lst xs=>obtain⟨ws,z1,z2⟩:=r1;exact⟨ws,st _ _ (λ_ w=>by cases w) z1,Ga x _ _ z2⟩
    |clo k t=>exact r1.clo x
   ·rw[gg (by omega)]at q;have h2:i=h.length:=by have:=(ax.mp q).1;simp at this;omega
    subst h2;simp at q;subst q;rw[if_pos rfl];exact⟨by omega,⟨_,_,e1⟩,hG _ _ _ _ ⟨c',pm,ctv,oc,e1,e2,e3⟩⟩
 ·exact o.elim
end
def Cfg.wf (G:Cfg) (env:Env) (t0:Nat) (ls:Nat->Option Lm):Cfg:=
 { G with
  clo:=λμ n H k t a=>G.clo μ n H k t a/\∀L,ls k=some L->t=t0->Eb G env L H a
  cloM:=λx ⟨h1,h2⟩=>⟨G.cloM x h1,λL e1 e2=>(h2 L e1 e2).keep x.im⟩ }
section
variable{G:Cfg}{env:Env}{t0:Nat}{ls:Nat->Option Lm}{μ:Nat->ai}{h:Hs}{H:Hp}
theorem Bw.wf (s:Bw G μ h H):Bw (G.wf env h.length ls) μ h H:=⟨s.inj,λi o q=>by
 have r:=s.ob i o q
 cases o with
 |lst xs=>exact r
 |clo k t=>obtain⟨h1,h2,h3⟩:=r;exact⟨h1,h2,h3,λL _ e=>absurd e (ay h1)⟩,s.tab⟩
theorem Bw.unwf (s:Bw (G.wf env t0 ls) μ h H):Bw G μ h H:=⟨s.inj,λi o q=>by
 have r:=s.ob i o q
 cases o with
 |lst xs=>exact r
 |clo k t=>obtain⟨h1,h2,h3,_⟩:=r;exact⟨h1,h2,h3⟩,s.tab⟩
end
def uR (p n:Nat) (mb:Nat->MS):Bg:=λds h=>if ds.length=p then bK (mb h.length (bW n ds) h)else .bad
section
variable{P:bh}{w:cj}{K:ao}{mg:Str->Option af}{base:cy}{N:Bf}{f:ai}{G:Cfg}{k:Nat}{ls:Nat->Option Lm}
theorem z03 {x qual:Str}{st:ie}{fd:bp}{ps:Bf}{mb:Nat->MS}(Fn:Cy K x qual st f fd) (S:Bq N ps (aT st)) (hK:K=G.K)
  (Cm:∀(cdv:af) (A:bw) (outer:List Env) (s:ag) (H:Hp) (E₀ E:XK) (t:Nat),fd.code=cdv->Good (fO (bN P w base) P w K mg base N qual (aT st) f cdv A outer s H E₀) (G.wf (fO (bN P w base) P w K mg base N qual (aT st) f cdv A outer s H E₀).env t ls) E k->
   jJ (fO (bN P w base) P w K mg base N qual (aT st) f cdv A outer s H E₀) (G.wf (fO (bN P w base) P w K mg base N qual (aT st) f cdv A outer s H E₀).env t ls) E (hZ st) (mb t)):
  Bt P w K mg base (bN P w base) (k+1) f fd ps (cU G (uR ps.length N.length mb)):=by
 obtain⟨oc,od,kV,doc,pm,an,cdv,ct,osl,rfl,lk,hcd⟩:=Fn.ex;have hlen:∀vs H Q E,cU G (uR ps.length N.length mb) vs H Q E->vs.length=ps.length:=λvs H Q E ⟨μ,h,ds,r,sm,o⟩=>by
  rw[r.length];unfold uR at o
  by_cases hd:ds.length=ps.length
  ·exact hd
  ·rw[if_neg hd]at o;exact o.elim
 refine A4 lk hcd S hlen λA outer s H vs Q E hr hsp=>?_;have hl:=hlen _ _ _ _ hsp;obtain⟨μ,h,ds,r,sm,o⟩:=hsp;have o':Out G E μ h.length H (bK (mb h.length (bW N.length ds) h)) (Bo G) Q:=by unfold uR at o;rw[if_pos (by rw[<-r.length];exact hl)]at o;exact o
 generalize hX:(fO (bN P w base) P w K mg base N qual (aT st) f cdv A outer s H E).env=env;have hb:=Cm cdv A outer s H E (EB (G.wf env h.length ls) μ h.length H (mb h.length (bW N.length ds) h)) h.length rfl;rw[hX]at hb;refine⟨_,hb (CC hr hK (λu H' ⟨c,h',μ',er,x,s',fl⟩=>?_) CF) hK, ?_⟩
 ·rw[er]at o';exact o' μ' H' u x s'.unwf fl
 ·refine⟨μ,bW N.length ds,h,⟨(CD (G:=G) r N).len,(CD (G:=G) r N).at_⟩,sm.wf, ?_⟩
  cases q:mb h.length (bW N.length ds) h with
  |bad=>rw[q]at o';exact o'.elim
  |bk ρ h'=>rw[q]at o';exact o'.elim
  |ct ρ h'=>rw[q]at o';exact o'.elim
  |rt d h'=>rw[q]at o';exact λμ' H' v x' s' r'=>o' μ' H' v x' s'.unwf r'
  |nx ρ h'=>rw[q]at o';exact λμ' H' σ' x' s' rs'=>o' μ' H' .non x' s'.unwf rfl
  |ex c h'=>exact λμ' H' u x' s' fl=>⟨c,h',μ',rfl,x',s',fl⟩
end
def gC (h:Hs) (j:Nat):Option (Nat×Nat):=match h[j]? with
 |some (.clo k t)=>some (k,t)
 |_=>none
def lA (lc:Nat->Option (Be×M Dv)) (t n ncl:Nat) (mb:MS) (ρ:Ev):M Dv:=λρb h=>match (ρb[0]?:Option Bi )with
 |some (some (Gk j))=>(match gC h j with
  |some (k,t')=>if t'=t then(match lc k with
   |some (caps,me)=>(match oO caps ρ with
    |some ds=>tY n ncl mb (me (ds.map some) h)
    |none=>.bad)
   |none=>.bad)else .bad
  |none=>.bad)
 |_=>.bad
def qE (mi:M Src) (lc:Nat->Option (Be×M Dv)) (t n ncl:Nat) (mb:MS):M Bh :=λρ h=>bM mi [none] (aE 0) cT (bA (lA lc t n ncl mb ρ)) ρ h
def DU (G:Cfg) (ρ:Ev) (σ:St) (me:M Dv):TE:=λσb H Q=>∃μ ρb h,Bs G μ h.length H ρ σ/\Bs G μ h.length H ρb σb/\Bw G μ h H/\Out G L2.E0 μ h.length H (me ρb h) (Bo G) Q
section
variable{G:Cfg}
theorem z04 {src:Src}{st:dE}{me:M Dv}{ti:TC}{J:It}{μ1:Nat->ai}{h1:Hs}{H1:Hp}{ρ:Ev}{σ:St}{ρb ρ':Ev}{σb:St}{xs xs':Bh}{vs:Hf}{h':Hs}{K:St->Hp->Hf->Prop}
  (hti:∀σb H vs K,wN (DU G ρ σ me) σb H vs K->ti σb H vs K)
  (ok:Cv G μ1 h1.length H1 src J) (ro:Bs G μ1 h1.length H1 ρ σ) (rs:Bs G μ1 h1.length H1 ρb σb) (s1:Bw G μ1 h1 H1) (r:RelDL G μ1 h1.length H1 xs vs) (e:eM src st cT (bA me) src.n 0 ρb h1 xs=.ok (ρ',xs') h')
  (k:∀μ' H' σ' Cs,Ext μ1 h1.length H1 μ' h'.length H'->Bw G μ' h' H'->Bs G μ' h'.length H' ρ' σ'->RelDL G μ' h'.length H' xs' Cs->K σ' H' Cs):
  qX J (rJ G st) IF ti K σb H1 vs:=by
 refine⟨λi m σ H vs=>∃μ2 ρ2 h2 xs2,Ext μ1 h1.length H1 μ2 h2.length H/\Bs G μ2 h2.length H ρ2 σ/\Bw G μ2 h2 H/\RelDL G μ2 h2.length H xs2 vs/\i+m=src.n/\eM src st cT (bA me) m i ρ2 h2 xs2=.ok (ρ',xs') h',⟨src.n,μ1,ρb,h1,xs,Gj,rs,s1,r,Ag _,e⟩, ?_⟩
 rintro i m σ2 H2 Fh ⟨μ2,ρ2,h2,xs2,x2,Dl,s2,r2,him,e2⟩
 cases m with
 |zero=>
  unfold eM at e2
  split at e2
  ·rename_i hf;cases e2;exact .inl ⟨(ok i μ2 _ H2 x2 s2).2 (by omega) hf,k μ2 H2 σ2 Fh x2 s2 Dl r2⟩
  ·cases e2
 |succ m=>
  unfold eM at e2
  cases q:src.get i h2 with
  |none=>rw[q]at e2;cases e2
  |some d=>
   rw[q]at e2;dsimp only at e2
   cases q2:st d ρ2 with
   |none=>rw[q2]at e2;cases e2
   |some ρ3=>
    rw[q2]at e2;dsimp only[cT]at e2;obtain⟨go,yl⟩:=(ok i μ2 h2 H2 x2 s2).1 (by omega) d q;refine .inr ⟨go,λσ' H' Cs=>∃μ3 ρ4 h4 xs4,Ext μ1 h1.length H1 μ3 h4.length H'/\Bs G μ3 h4.length H' ρ4 σ'/\Bw G μ3 h4 H'/\RelDL G μ3 h4.length H' xs4 Cs/\(i+1)+m=src.n/\eM src st cT (bA me) m (i+1) ρ4 h4 xs4=.ok (ρ',xs') h',
     λσ' H' Cs z=>⟨m,jy m,z⟩,λx H' hy=>?_⟩
    obtain⟨sm,rx⟩:=yl x H' hy;have xsm:Ext μ2 h2.length H2 μ2 h2.length H':=F' sm;refine⟨μ2,ρ2,h2.length,d,ρ3,Dl.mono xsm,rx,q2,λσ3 Fi=>?_⟩;show ti σ3 H' Fh _;refine hti _ _ _ _ ⟨μ2,ρ3,h2,ro.mono (x2.trans xsm),Fi,s2.same sm, ?_⟩;unfold bA at e2
    cases q4:me ρ3 h2 with
    |bad=>rw[q4]at e2;cases e2
    |ex c h5=>rw[q4]at e2;cases e2
    |ok d' h5=>
     rw[q4]at e2;dsimp only at e2
     by_cases hl:xs2.length<1000000
     ·rw[if_pos hl]at e2;intro μ6 H6 v x6 s6 r6;refine⟨by rw[r2.length];exact au hl (by decide),μ6,ρ3,h5,xs2++[d'],(x2.trans xsm).trans x6,Fi.mono x6,s6,(Ga (xsm.trans x6) _ _ r2).append (Gf r6 Ge),by omega,e2⟩
     ·rw[if_neg hl]at e2;cases e2
end
section
variable{X:Cx}{G:Cfg}{E:XK}{k:Nat}{q x y:Str}{p p2 py pos ps:Pos}{fr:ai}{fdr:bp}{n ncl j t:Nat}{mb:MS}{ls:Nat->Option Lm}{lc:Nat->Option (Be×M Dv)}{sc:gq}{iter:bj}{mi:M Src}
theorem z05 {pins0:List (ai×Obj)}{s0:ag}{σ:St}{H0:Hp}{ex:List ai}{ρ:Ev}(g:Good X G E k) (hj:j<=k) (hfn:∀y,X.fn y=true)
  (F:∀k L,ls k=some L->∀base,X.K.In base->base.Ns di X.mg->Bt X.prog X.w X.K X.mg base (bN X.prog X.w base) j fr fdr [x] (mZ G base L.Nl L.par L.bod L.scp L.me n ncl mb))
  (hg:Gl (bV X sc [y] s0 H0 ex) q) (hv:mP (bV X sc [y] s0 H0 ex).env.scope y) (hm:X.mg q=some (.ref fr)) (hk:kj X.K (.ref fr)=true) (hb:Binds X.K fdr [x] [])
  (hL:∀k L,ls k=some L->Cd L.Nl L.scp/\(∀z∈L.Nl,X.env.scope.names.lookup z=some .cell)/\L.caps.length=L.Nl.length/\∀(i j:Nat) (z:Str),L.caps[i]?=some j->L.Nl[i]?=some z->X.N[j]?=some z)
  (hG:∀μ n H k L a,ls k=some L->G.clo μ n H k t a->Eb G X.env L H a) (hlc:∀k c m,lc k=some (c,m)->∃L,ls k=some L/\L.caps=c/\L.me=m)
  (hd1:(y==He)=false) (hd2:(y==("__classdict__" : Str))=false) (Ed:(q==He)=false)
  (I0:Inv X pins0 σ H0 s0) (hex:∀b∈ex,cZ X pins0 H0 b/\b<s0.heap.objs.size):
  PE (bV X sc [y] s0 H0 ex) (.Call (.Name q p) [.Name y p2] [] pos) (DU G ρ σ (lA lc t n ncl mb ρ)):=by
 intro pins s σb H Q I ⟨μ,ρb,h,ro,rs,sm,o⟩;unfold lA at o
 split at o
 rotate_left
 ·exact o.elim
 rename_i i hρ
 split at o
 rotate_left
 ·exact o.elim
 rename_i kk t' hca
 split at o
 rotate_left
 ·exact o.elim
 rename_i ht;subst ht
 split at o
 rotate_left
 ·exact o.elim
 rename_i caps me hlk;obtain⟨L,hls,rfl,rfl⟩:=hlc _ _ _ hlk
 split at o
 rotate_left
 ·exact o.elim
 rename_i ds hcd;obtain⟨hdl,hdg⟩:=KC hcd;obtain⟨LS,Ej,hcl,hcap⟩:=hL kk L hls;have hob:h[i]?=some (.clo kk t'):=by
  unfold gC at hca
  split at hca
  ·rename_i k2 t2 e;cases hca;exact e
  ·cases hca
 obtain⟨v0,hv0,hi,hv0'⟩:=rs.at_ 0 (.ref i) hρ;subst hv0';obtain⟨_,_,hclo⟩:=sm.ob i _ hob;obtain⟨c',pm,ctv,oc,e1,e2,e3⟩:=hG _ _ _ kk L _ hls hclo;have hfree:∀y,(y,bz)∈L.scp.names->X.env.kindOf y=some .cell∨X.env.kindOf y=some .free:=λy hy=>.inl (Ej y (LS.all _ hy rfl));have hfc:∀y,(y,bz)∈L.scp.names->∃c,X.env.cells.lookup y=some c:=λy hy=>I0.ok.has y (hfree y hy);generalize Fu:dC X.env L.scp.names []=cl at *;have kb:∀b u,X.base.get? b=some u->(iM X.base s0.heap (cl.map (·.2))).get? b=some u:=λb u e=>CJ (I0.bk _ _ e) (.inl ⟨u,e⟩);have memc:∀b,b∈cl.map (·.2)->∃y,X.env.cells.lookup y=some b:=λb hb=>by
  obtain⟨⟨y,cc⟩,hm1,rfl⟩:=cp.mp hb;have:∀(l:List (Str×lh)) (acc:List (Str×ai)),(∀y cc,(y,cc)∈acc->X.env.cells.lookup y=some cc)->(∀y,(y,bz)∈l->∃c,X.env.cells.lookup y=some c)->∀y cc,(y,cc)∈dC X.env l acc->X.env.cells.lookup y=some cc:=by
   intro l
   induction l with
   |nil=>exact λacc h1 _=>h1
   |cons a l ih=>
    obtain⟨y0,k0⟩:=a;intro acc h1 h2;rw[dC];refine ih _ (λy cc hm2=>?_) λy hy=>h2 y (ar _ hy)
    cases hk0:k0==bz with
    |true=>
     rw[hk0,if_pos rfl]at hm2
     rcases az.mp hm2 with z|z
     ·cases z;have ek:k0=.free:=by cases k0 <;> first|rfl|cases hk0
      subst ek;obtain⟨c3,h3⟩:=h2 y0 (bf ..);rw[h3];rfl
     ·exact h1 _ _ z
    |false=>rw[hk0,if_neg (by simp)]at hm2;exact h1 _ _ hm2
  exact⟨y,this L.scp.names [] (λ_ _ z=>by cases z) hfc y cc (by rw[Fu];exact hm1)⟩
 have M0:=I0.ok.mod;have nsk:∀{a:ai}{m:Str->Option af},X.base.Ns a m->(iM X.base s0.heap (cl.map (·.2))).Ns a m:=λhn=>hn.keeps kb;have hM:Mod X.K X.mg (iM X.base s0.heap (cl.map (·.2))):=⟨M0.kin.keeps kb,nsk M0.glob,(let ⟨mb,a,b⟩:=M0.blt;⟨mb,nsk a,b⟩),M0.nolimit.keeps kb⟩
 have hbs:∀b u,(iM X.base s0.heap (cl.map (·.2))).get? b=some u->s0.heap.get? b=some u/\H0 b=none:=λb u e=>by
  obtain⟨g1,g2⟩:=CK e;refine⟨g1, ?_⟩
  rcases g2 with⟨u',g2⟩|g2
  ·exact(I0.bs _ _ g2).2
  ·obtain⟨y,hy⟩:=memc b g2;exact I0.freeC y b hy
 have nbf:∀b∈dN X.stack,(iM X.base s0.heap (cl.map (·.2))).get? b=none:=λb hb=>by
  cases qq:(iM X.base s0.heap (cl.map (·.2))).get? b with
  |none=>rfl
  |some u=>
   exfalso
   obtain⟨g1,g2⟩:=CK qq
   rcases g2 with⟨u',g2⟩|g2
   ·have:=(I0.stack.mem hb).1;rw[this]at g2;cases g2
   ·obtain⟨y,hy⟩:=memc b g2
    rcases az.mp (I0.stkSub b hb)with z|z
    ·exact I0.cne y b hy z
    ·have fm:∀z∈X.fs,z<X.s₀.heap.objs.size:=λz hz=>by obtain⟨_,o2,h2,_⟩:=I0.ok.funs.mem hz;exact aq h2
     exact absurd (au (fm b z) (I0.ok.cab y b (hfn y) hy)) (gz _)
 have hfun:s0.heap.FunFrames (iM X.base s0.heap (cl.map (·.2))) X.stack:=by
  have all:∀(l:List Env),(∀b∈dN l,b∈dN X.stack)->s0.heap.FunFrames X.base l->s0.heap.FunFrames (iM X.base s0.heap (cl.map (·.2))) l:=by
   intro l
   induction l with
   |nil=>intro _ _;trivial
   |cons env r ih=>
    intro hs hl;obtain⟨Dp,⟨L,o',hf',hn',Es,Dj⟩,hr'⟩:=hl;have hL:L∈dN (env::r):=by unfold dN;rw[cf,hf'];exact bf
    exact⟨Dp,⟨L,o',hf',nbf L (hs L hL),Es,Dj⟩,ih (λb hb=>hs b (by unfold dN;rw[cf,hf'];exact ar _ hb)) hr'⟩
  exact all X.stack (λ_ hb=>hb) I0.stack
 have ok:=I.ok;have ok':({ bV X sc [y] s0 H0 ex with base:=iM X.base s0.heap (cl.map (·.2)) }:Cx).Ok:=
  ⟨hM,ok.kind,ok.glob,ok.blt,ok.above,ok.inj,ok.has,ok.cab,ok.hd,ok.frames,ok.stk,ok.exf,hbs,qi (zj _ _),λb u e hb=>by
   obtain⟨g1,g2⟩:=CK e
   rcases g2 with⟨u',g2⟩|g2
   ·exact ok.noex b u' g2 hb
   ·obtain⟨y,hy⟩:=memc b g2;exact(hex b hb).1.2.2.2.2.1 y b hy rfl,ok.exfs,hfun,ok.frf⟩
 have I':Inv { bV X sc [y] s0 H0 ex with base:=iM X.base s0.heap (cl.map (·.2)) } pins σb H s:=⟨ok',I.os,I.bare,I.base,I.loc,I.cell,I.free,I.freeC,I.pin,I.hok,I.len⟩
 have look:∀y cc,cl.lookup y=some cc->(y,bz)∈L.scp.names/\X.env.cells.lookup y=some cc:=λy cc e=>XO hfc (by rw[Fu];exact e);have memL:∀y cc,cl.lookup y=some cc->cc∈cl.map (·.2):=λy cc e=>cp.mpr ⟨(y,cc),fw e,rfl⟩;have LA:Fg G (iM X.base s0.heap (cl.map (·.2))) H μ h.length L.Nl L.par L.bod L.scp (μ i) c' cl ds:=by
  refine⟨⟨pm,ctv,e1⟩,⟨oc,e2,e3⟩,λy z cc a b=>I0.ok.inj y z cc (look y cc a).2 (look z cc b).2,hdl.trans hcl,λi y hy=>?_,λy cc e=>?_,λi y cc d hy hd e=>?_⟩
  ·have hf1:=LS.fr y (cq hy);have:=tH (env:=X.env) (x:=y) L.scp.names [] (.inl (fw hf1));rw[Fu]at this;exact⟨_,this⟩
  ·obtain⟨v0,ob,ho1,hd1⟩:=I0.cell y cc (look y cc e).2;exact⟨ob,v0,CJ ho1 (.inr (memL y cc e)),hd1⟩
  ·obtain⟨jj,hjj,hρ⟩:=hdg i d hd;obtain⟨v,hv,rd⟩:=ro.at_ jj d hρ;have hNj:=hcap i jj y hjj hy;have hyk:=Ej y (cq hy);obtain⟨m,hn,hl⟩:=I0.loc;obtain⟨u,ru,lk⟩:=hl jj y v hNj hv (.inr (.inl hyk))
   rcases lk with⟨kl,_⟩|⟨_,c4,ec4,ob,ho1,hd1⟩
   ·have kl':X.env.scope.names.lookup y=some .local:=kl;rw[hyk]at kl';cases kl'
   ·rw[(look y cc e).2]at ec4;cases ec4;exact⟨ob,u,v,CJ ho1 (.inr (memL y cc e)),hd1,ru,rd⟩
 have Cn:∀y cc,cl.lookup y=some cc->y∈L.Nl:=λy cc e=>LS.all _ (look y cc e).1 rfl;refine kn (G8 (X:={ bV X sc [y] s0 H0 ex with base:=iM X.base s0.heap (cl.map (·.2)) }) (E:=L2.E0) (F kk L hls _ hM.kin hM.glob) (g.room.mono hj) hg hm hk hb .nil (λ_ _ _ _ _ _ _ ⟨_,_,_,_,_,_,_,_,_,z⟩=>z)
  (hY (vY (i:=0) (pos:=p2) rfl hv hd1 hd2) jG rfl) Ed rfl rfl pins s σb H Q I' ⟨.ref (μ i),hv0, ?_⟩) (λu s' ⟨v,H',J,rv,qq⟩=>⟨v,H',⟨ok,J.os,J.bare,J.base,J.loc,J.cell,J.free,J.freeC,J.pin,J.hok,J.len⟩,rv,qq⟩) λ_ _ z=>z
 exact⟨μ i,c',cl,ds,μ,h,rfl,LA,Cn,sm,o⟩
theorem z06 (g:Good X G E k) (hj:j<=k) (hfn:∀y,X.fn y=true) (C:Ci X sc [y] [none]) (hi:iK X G E (.Name y py) iter mi) (hgt:∀s H ex,iX (bV X sc [y] s H ex) G (.Name y py) (aE 0))
  (F:∀k L,ls k=some L->∀base,X.K.In base->base.Ns di X.mg->Bt X.prog X.w X.K X.mg base (bN X.prog X.w base) j fr fdr [x] (mZ G base L.Nl L.par L.bod L.scp L.me n ncl mb))
  (hg:∀s H ex,Gl (bV X sc [y] s H ex) q) (hv:∀s H ex,mP (bV X sc [y] s H ex).env.scope y) (hm:X.mg q=some (.ref fr)) (hk:kj X.K (.ref fr)=true) (hb:Binds X.K fdr [x] [])
  (hL:∀k L,ls k=some L->Cd L.Nl L.scp/\(∀z∈L.Nl,X.env.scope.names.lookup z=some .cell)/\L.caps.length=L.Nl.length/\∀(i j:Nat) (z:Str),L.caps[i]?=some j->L.Nl[i]?=some z->X.N[j]?=some z)
  (hG:∀μ n H k L a,ls k=some L->G.clo μ n H k t a->Eb G X.env L H a) (hlc:∀k c m,lc k=some (c,m)->∃L,ls k=some L/\L.caps=c/\L.me=m)
  (hd1:(y==He)=false:=by decide) (hd2:(y==("__classdict__" : Str))=false:=by decide) (Ed:(q==He)=false:=by decide) (hs:∀x,foldedSetIterable iter X.env x=pure x:=by intro _;rfl):
  mY X G E (.ListComp (.Call (.Name q p) [.Name y p2] [] pos) [⟨.Name y py,iter,[],0⟩] sc ps) (qE mi lc t n ncl mb):=λhK=>
 Gg (UU (ti:=λσ σb H vs K=>∃ρ,wN (DU G ρ σ (lA lc t n ncl mb ρ)) σb H vs K) g.calm C rfl (λit D env=>BF _ _ iter [] sc ps (.ref it) D env) (hi hK) (λs H ex=>hgt s H ex hK) (λs H ex=>IG)
  (λpins s σ H ex D I hex=>λpins' s' σ' H' xs K I' a f ⟨ρ,h⟩=>tJ (z05 (ρ:=ρ) g hj hfn F (hg s H ex) (hv s H ex) hm hk hb hL hG hlc hd1 hd2 Ed I hex) pins' s' σ' H' xs K I' a f h) hs) λσ H Q ⟨μ,ρ,h,rs,s,o⟩=>by
  unfold qE bM at o;refine⟨μ,ρ,h,rs,s,(o.bind (R1:=Cv G)).mono λJ H1 ⟨μ1,src,h1,x1,s1,ok,o1⟩=>?_⟩
  cases q:eM src (aE 0) cT (bA (lA lc t n ncl mb ρ)) src.n 0 (jL [none] ρ) h1 []with
  |bad=>rw[q]at o1;exact o1.elim
  |ex c h2=>rw[q]at o1;exact o1.elim
  |ok r h2=>rw[q]at o1;obtain⟨ρ',xs'⟩:=r;refine z04 (λ_ _ _ _ z=>⟨ρ,z⟩) ok (rs.mono x1) (JK (rs.mono x1) [none]) s1 Ge q λμ2 H2 σ2 Fh x2 s2 Dl r2 p hp=>?_;exact o1 μ2 _ _ (x2.trans (F' (cK hp))) (s2.same (cK hp)) ⟨p,Fh,rfl,cR,s2.not hp,Ga (F' (cK hp)) _ _ r2⟩
end
def DV (K:ao) (t u:ai):It:=
 ⟨λi H=>∃vs ws v w,Cg K H t vs/\Cg K H u ws/\vs[i]?=some v/\ws[i]?=some w,
  λi H x H'=>∃p v w,x=.ref p/\H p=none/\H'=upd H p (.tup [v,w])/\(∀vs,Cg K H t vs->vs[i]?=some v)/\∀ws,Cg K H u ws->ws[i]?=some w,
  λi H=>∃vs ws,Cg K H t vs/\Cg K H u ws/\(vs.length<=i∨ws.length<=i)⟩
structure ZipAtL (z TI TO i j t u:ai) (n:Nat) (h:cy):Prop where
 zp:yk h z TI TO .none
 ti:my h TI (.ref i) (.ref j)
 to:∃a b,my h TO a b
 i1:h.IsListIter i t n
 i2:h.IsListIter j u n
theorem z07 {P:bh}{w:cj}{K:ao}{elts:List bj}{kk:Nat}{tp:Pos}{z TI TO i j t u:ai}(F4:ZipApart z TI TO i j t u):
  Turn P w K (.Tuple elts kk tp) (DV K t u) [z,TI,TO,i,j] z (ZipAtL z TI TO i j t u) where
 mem:=by simp
 obj:=λn h st b hb=>by
  obtain⟨zp,ti,⟨a,b',to⟩,⟨o1,e1,_,d1⟩,⟨o2,e2,_,d2⟩⟩:=st;simp at hb
  rcases hb with rfl|rfl|rfl|rfl|rfl
  ·exact⟨_,zp,λv q=>by cases q⟩
  ·exact⟨_,ti,λv q=>by cases q⟩
  ·exact⟨_,to,λv q=>by cases q⟩
  ·exact⟨_,e1,λv q=>by rw[d1]at q;cases q⟩
  ·exact⟨_,e2,λv q=>by rw[d2]at q;cases q⟩
 keep:=λn h h' st k=>by obtain⟨zp,ti,⟨a,b',to⟩,⟨o1,e1,r1⟩,⟨o2,e2,r2⟩⟩:=st;exact⟨k _ (by simp) _ zp,k _ (by simp) _ ti,⟨a,b',k _ (by simp) _ to⟩,⟨o1,k _ (by simp) _ e1,r1⟩,⟨o2,k _ (by simp) _ e2,r2⟩⟩
 item:=by
  intro X hP hw hK hc n pins s σ H E I hf st hg;subst hP hw hK;obtain⟨vs,ws,v,w',hq,hr,hv,hw'⟩:=hg;obtain⟨its,rv,p1,z1⟩:=I.list hq;obtain⟨jts,rw',p2,z2⟩:=I.list hr;obtain⟨x,hx,rx⟩:=rv.get hv;obtain⟨y,hy,ry⟩:=rw'.get hw';obtain⟨zp,ti,⟨a,b,to⟩,i1,i2⟩:=st;refine wpAny_pyNext_zip_item F4 zp ti to i1 i2 p1.isList p2.isList (x:=x) (y:=y) (by simpa using hx) (by simpa using hy) λh' a1 a3 a4 a5 a6 Cu bt=>⟨_,rfl, ?_⟩
  have a2:my h' TI (.ref i) (.ref j):=bt _ _ F4.TIz F4.TITO F4.TIi1 F4.TIi2 ti;refine Aq a1 λh2 z2' sb=>?_;have kp:∀b o,b∉[z,TI,TO,i,j]->s.heap.get? b=some o->h2.get? b=some o:=λb o hb q=>by simp at hb;obtain⟨n1,n2,n3,n4,n5⟩:=hb;exact sb.extBut _ _ n1 (bt b o n1 n3 n4 n5 q)
  have Tz:s.heap.objs.size≠z:=ji (aq zp);have T2:my h2 s.heap.objs.size x y:=sb.extBut _ _ Tz a6;have th:∀b∈[z,TI,TO,i,j],∃o,h2.get? b=some o:=λb hb=>by
   obtain⟨o1,e1,_⟩:=a4;obtain⟨o2,e2,_⟩:=a5;simp at hb
   rcases hb with rfl|rfl|rfl|rfl|rfl
   ·exact⟨_,z2'⟩
   ·exact⟨_,sb.extBut _ _ F4.TIz a2⟩
   ·exact⟨_,sb.extBut _ _ F4.TOz a3⟩
   ·exact⟨_,sb.extBut _ _ F4.i1z e1⟩
   ·exact⟨_,sb.extBut _ _ F4.i2z e2⟩
  have I2:=Inv.turns (T:=s.heap.objs.size) (vs:=[v,w']) (its:=[x,y]) I hf kp th (ak _) (.cons rx (.cons ry .nil)) (by show 2<=cb;decide) ⟨_,T2,rfl,rfl,_,rfl⟩;have nT:H s.heap.objs.size=none:=I.hok.fresh (ak _);refine⟨.ref s.heap.objs.size,_,I2,rfl,⟨s.heap.objs.size,v,w',rfl,nT,rfl,λCs h'=>by rw[I.list_inj h' hq];exact hv,λws' h'=>by rw[I.list_inj h' hr];exact hw'⟩, ?_,λb hb=>?_⟩
  ·exact⟨z2',sb.extBut _ _ F4.TIz a2,⟨_,_,sb.extBut _ _ F4.TOz a3⟩,a4.at λo e=>sb.extBut _ _ F4.i1z e,a5.at λo e=>sb.extBut _ _ F4.i2z e⟩
  ·obtain⟨o,q,_⟩:∃o,s.heap.get? b=some o/\True:=by
    obtain⟨o1,e1,_⟩:=i1;obtain⟨o2,e2,_⟩:=i2;simp at hb
    rcases hb with rfl|rfl|rfl|rfl|rfl
    ·exact⟨_,zp,trivial⟩
    ·exact⟨_,ti,trivial⟩
    ·exact⟨_,to,trivial⟩
    ·exact⟨_,e1,trivial⟩
    ·exact⟨_,e2,trivial⟩
   rw[bU (ay (aq q))];exact(hf b hb).1
 done:=by
  intro X hP hw hK hc n pins s σ H E I hf st hg;subst hP hw hK;obtain⟨vs,ws,hq,hr,hend⟩:=hg;obtain⟨its,rv,p1,z1⟩:=I.list hq;obtain⟨jts,rw',p2,z2⟩:=I.list hr;have l1:=rv.length;have l2:=rw'.length;obtain⟨zp,ti,⟨a,b,to⟩,i1,i2⟩:=st;refine wpAny_pyNext_zip_end (I.ok.hd hc) F4 zp ti to i1 i2 p1.isList p2.isList (by
    rcases hend with q|q
    ·exact .inl (by simp;omega)
    ·exact .inr (by simp;omega)) λh' bt=>⟨rfl, ?_⟩
  refine Inv.turns0 I hf λb o hb q=>?_;simp at hb;exact bt b o hb.1 hb.2.2.1 hb.2.2.2.1 hb.2.2.2.2 q
 self:=λ_ _ _ _ _ st h=>qe st.zp h
section
variable{X:Cx}{G:Cfg}{E:XK}{a b:bj}{elts:List bj}{kk:Nat}{tp p pos:Pos}{ta:TA}{ms:M Bh }
def z08 (K:ao) (ta:TA):TI:=λσ H R=>ta σ H λvs H1=>∃t u,vs=[.ref t,.ref u]/\((∃xs ys,Ca K H1 t xs/\Ca K H1 u ys/\R (xP K t u) H1)∨∃xs ys,Cg K H1 t xs/\Cg K H1 u ys/\R (DV K t u) H1)
theorem z09 (n t u:Nat) (lt:t<n) (lu:u<n):ZipApart (n+4) (n+2) (n+3) n (n+1) t u:=by
 have ne:∀{a b:Nat},(a<b∨b<a)->a≠b:=λh=>by omega
 exact⟨ne (by omega),ne (by omega),ne (by omega),ne (by omega),ne (by omega),ne (by omega),ne (by omega),ne (by omega),ne (by omega),ne (by omega),ne (by omega),ne (by omega),ne (by omega),ne (by omega),ne (by omega),ne (by omega),ne (by omega),ne (by omega)⟩
theorem z0a (hg:Gl X "zip") (hm:X.mg "zip" = none) (ha:PA X [a,b] ta) (hs:aw [a,b] X.env=[(false,eval a X.env),(false,eval b X.env)]:=by rfl) (hs2:aw [b] X.env=[(false,eval b X.env)]:=by rfl):
  PI X (.Tuple elts kk tp) (.Call (.Name "zip" p) [a,b] [] pos) (z08 X.K ta):=by
 intro pins s σ H R I h;refine Call_ (pE I hg hm J5 (jm (aW (ha pos pins s σ H _ I h) λus s1 ⟨vs,H1,I1,r1,q1⟩=>?_) (by rw[hs,hs2]) (by rw[hs2];rfl)));obtain⟨t,u,e,q⟩:=q1;subst e;obtain⟨u1,u2,rfl,e1,e2⟩:=qU r1;cases e1;cases e2
 rcases q with⟨xs,ys,hq,hr,q⟩|⟨xs,ys,hq,hr,q⟩
 ·obtain⟨its,rv,p1,_⟩:=I1.tuple hq;obtain⟨jts,rw',p2,_⟩:=I1.tuple hr;refine callType_new F.called_zip (by decide) (F.typeCall_zip_2 _ _) (F.newCall_zip_2 _ _) (λobj=>F.args_object_init_3 obj _ _) F.entry_zip_new (J4 its.toArray jts.toArray) ⟨p1,p2,λh' z nz=>?_⟩;obtain⟨TI,TO,i,j,za,f4,fresh,kp⟩:=nz;refine⟨⟨_,za.zp,rfl⟩, ?_⟩;have I2:Inv X pins σ H1 { s1 with heap:=h' }:=I1.kept (t':=s1.toks) kp;refine qe za.zp ⟨z,[z,TI,TO,i,j],_,_,H1,rfl,I2,J2 f4 f4.u3 f4.v4,za,λb hb=>I1.fpOk (fresh b hb) (I1.hok.fresh (fresh b hb)),q⟩
 ·obtain⟨its,rv,p1,_⟩:=I1.list hq;obtain⟨jts,rw',p2,_⟩:=I1.list hr;refine call_zip_2 p1.isList p2.isList λh' hz hTI hTO h1 h2 Cu kp=>?_;have I2:Inv X pins σ H1 { s1 with heap:=h' }:=I1.kept (t':=s1.toks) kp;have lt:t<s1.heap.objs.size:=by obtain⟨o,e,_⟩:=p1.isList;exact aq e
  have lu:u<s1.heap.objs.size:=by obtain⟨o,e,_⟩:=p2.isList;exact aq e
  have fresh:∀b∈[s1.heap.objs.size+4,s1.heap.objs.size+2,s1.heap.objs.size+3,s1.heap.objs.size,s1.heap.objs.size+1],s1.heap.objs.size<=b:=λb hb=>by
   simp at hb
   rcases hb with rfl|rfl|rfl|rfl|rfl <;> first|exact pf _ _|exact ak _
  exact qe hz ⟨_,_,_,_,H1,rfl,I2,z07 (z09 _ t u lt lu),⟨hz,hTI,⟨_,_,hTO⟩,h1,h2⟩,λb hb=>I1.fpOk (fresh b hb) (I1.hok.fresh (fresh b hb)),q⟩
def lW (i j n m:Nat) (h:Hs):Option (List (Dv×Dv)):=match getL h i,getL h j with
 |some xs,some ys=>if xs.length=n/\ys.length=m then some (xs.zip ys)else none
 |_,_=>none
def qF (i j n m:Nat):Src:=⟨min n m,λk h=>match lW i j n m h with
 |some zs=>(zs[k]?).map λq=>.tup [q.1,q.2]
 |none=>none,λh=>(lW i j n m h).isSome⟩
def qG:Bh->Hs->Rs Src
 | [.tup xs,.tup ys],h=>.ok (lL xs ys) h
 | [.ref i,.ref j],h=>match getL h i,getL h j with
  |some xs,some ys=>.ok (qF i j xs.length ys.length) h
  |_,_=>.bad
 |_,_=>.bad
theorem NI {i j n m:Nat}{h:Hs}{zs:List (Dv×Dv)}(e:lW i j n m h=some zs):∃xs ys,getL h i=some xs/\getL h j=some ys/\xs.length=n/\ys.length=m/\zs=xs.zip ys:=by
 unfold lW at e
 split at e
 ·rename_i xs ys e1 e2
  split at e
  ·rename_i hl;cases e;exact⟨xs,ys,e1,e2,hl.1,hl.2,rfl⟩
  ·cases e
 ·cases e
theorem Cv.zipL {μ:Nat->ai}{nn:Nat}{H:Hp}{i j n m:Nat}{K:ao}(hi:i<nn) (hj:j<nn):Cv G μ nn H (qF i j n m) (DV K (μ i) (μ j)):=by
 intro k μ2 h2 H2 x2 s2;have ei:=x2.mu i hi;have ej:=x2.mu j hj;constructor
 ·intro hk d hd;have Dj:(match lW i j n m h2 with|some zs=>(zs[k]?).map λq=>Gy [q.1,q.2]|none=>none)=some d:=hd
  cases qz:lW i j n m h2 with
  |none=>rw[qz]at Dj;cases Dj
  |some zs=>
   rw[qz]at Dj;obtain⟨xs,ys,g1,g2,l1,l2,rfl⟩:=NI qz;obtain⟨vs,f,g⟩:=s2.ob i _ (cW g1);obtain⟨ws,f',g'⟩:=s2.ob j _ (cW g2);rw[ei]at f;rw[ej]at f'
   cases q:(xs.zip ys)[k]? with
   |none=>dsimp only at Dj;rw[q]at Dj;cases Dj
   |some xy=>
    dsimp only at Dj;rw[q]at Dj;cases Dj;obtain⟨qx,qy⟩:=nj.mp q;obtain⟨v,ev,rv⟩:=g.get qx;obtain⟨w',ew,rw'⟩:=g'.get qy;refine⟨⟨vs,ws,v,w',Gn f,Gn f',ev,ew⟩,λx H' hy=>?_⟩;obtain⟨pp,v1,w1,rfl,np,rfl,a1,a2⟩:=hy;have b1:=a1 vs (Gn f);have b2:=a2 ws (Gn f');rw[ev]at b1;rw[ew]at b2
    cases b1;cases b2
    have sm:De H2 (upd H2 pp (.tup [v,w'])):=cK np;exact⟨sm,pp,_,rfl,cR,Gf (Gi (F' sm) _ _ rv) (Gf (Gi (F' sm) _ _ rw') Ge)⟩
 ·intro hk hf;have hf':(lW i j n m h2).isSome=true:=hf
  cases qz:lW i j n m h2 with
  |none=>rw[qz]at hf';cases hf'
  |some zs=>obtain⟨xs,ys,g1,g2,l1,l2,rfl⟩:=NI qz;obtain⟨vs,f,g⟩:=s2.ob i _ (cW g1);obtain⟨ws,f',g'⟩:=s2.ob j _ (cW g2);rw[ei]at f;rw[ej]at f';refine⟨vs,ws,Gn f,Gn f', ?_⟩;have Dp:k=min n m:=hk;rw[g.length,g'.length];omega
theorem z0b (hg:Gl X "zip") (hm:X.mg "zip" = none) (ha:dX X G E [a,b] ms) (hs:aw [a,b] X.env=[(false,eval a X.env),(false,eval b X.env)]:=by rfl) (hs2:aw [b] X.env=[(false,eval b X.env)]:=by rfl):
  iK X G E (.Tuple elts kk tp) (.Call (.Name "zip" p) [a,b] [] pos) (aR qG ms):=λhK=>
 PI.imp (z0a hg hm (ha hK) hs hs2) λσ H R ⟨μ,ρ,h,rs,s,o⟩=>jV rs s o λμ1 ds h1 vs H1 x1 Cb s1 r1 o1=>by
  unfold qG at o1
  split at o1
  ·rename_i xs ys;obtain⟨v,v',rfl,rv,rv'⟩:=rG r1;obtain⟨t,us,rfl,e,r⟩:=rv;obtain⟨u,ws,rfl,e',r'⟩:=rv';exact⟨t,u,rfl,.inl ⟨us,ws,Gb e,Gb e',o1.val s1 (Cv.zip e e' r r')⟩⟩
  ·rename_i i j;obtain⟨v,v',rfl,rv,rv'⟩:=rG r1;obtain⟨hi,rfl⟩:=rv;obtain⟨hj,rfl⟩:=rv'
   split at o1
   ·rename_i xs ys g1 g2;obtain⟨us,f,_⟩:=s1.ob i _ (cW g1);obtain⟨ws,f',_⟩:=s1.ob j _ (cW g2);exact⟨_,_,rfl,.inr ⟨us,ws,Gn f,Gn f',o1.val s1 (Cv.zipL hi hj)⟩⟩
   ·exact o1.elim
  ·exact o1.elim
end
open PySem.Calls
section
variable{X:Cx}{G:Cfg}{E:XK}{o e i:bj}{mo me mi:M Dv}{ml:M Bh }{pos apos cpos:Pos}
end
def noE:bj:=.Constant .none 0 ⟨0,0,0,0⟩
def stE:ie->bj
 | .Assign _ v _=>v
 | .Expr v _=>v
 | .If t _ _ _=>t
 | .Return (some v) _=>v
 |_=>noE
def DW:ie->List ie
 | .For _ _ b _ _=>b
 | .If _ b _ _=>b
 | .While _ b _ _=>b
 |_=>[]
def DX (st:ie):bj:=match stE st with
 | .List (l::_) _=>l
 | .Call _ (l::_) _ _=>l
 |e=>e
def DY:bj->km
 | .Lambda p _ _ _=>p
 |_=>⟨[],[],none,[],[],none,[]⟩
def DZ:bj->bj
 | .Lambda _ b _ _=>b
 |e=>e
def EA (d:gq):bj->gq
 | .Lambda _ _ s _=>s
 |_=>d
structure LmOk (os:gq) (oN:Bf) (L:Lm):Prop where
 ls:Cd L.Nl L.scp
 kind:∀z∈L.Nl,os.names.lookup z=some .cell
 len:L.caps.length=L.Nl.length
 cap:∀z∈L.caps.zip L.Nl,oN[z.1]?=some z.2
section
variable{X:Cx}{G:Cfg}{E:XK}{c P:ai}{lpos:Pos}{k t:Nat}{ls:Nat->Option Lm}{os:gq}{oN:Bf}
theorem EC (L:Lm) (hls:ls k=some L) (hT:∀μ n H k t a,G.clo μ n H k t a) (hq:X.env.qual ++ "<lambda>" = G.lq) (hP:G.tab=some P) (Ek:X.env.code=.ref c) (hC:mf X.base c P) (hB:lM X.mg X.base) (O:LmOk os oN L)
  (hs:X.env.scope.names=os.names:=by rfl) (Ft:defaultsOf L.par X.env=([],[]):=by rfl):aI X (G.wf X.env t ls) E (.Lambda L.par L.bod L.scp lpos) (jF k t):=
 z02 (G:=G.wf X.env t ls) L Ft hq hP Ek hC hB O.ls (λy hy=>by rw[hs];exact O.kind y hy) λμ n H a h=>⟨hT μ n H k t a,λL' e _=>by rw[hls]at e;cases e;exact h⟩
variable{q x y:Str}{p p2 py pos ps:Pos}{fr:ai}{fdr:bp}{n ncl j:Nat}{mb:MS}{lc:Nat->Option (Be×M Dv)}{sc:gq}{iter:bj}{mi:M Src}
theorem z0c (g:Good X (G.wf X.env t ls) E k) (hj:j<=k) (hfn:∀y,X.fn y=true) (C:Ci X sc [y] [none]) (hi:iK X (G.wf X.env t ls) E (.Name y py) iter mi) (hgt:∀s H ex,iX (bV X sc [y] s H ex) (G.wf X.env t ls) (.Name y py) (aE 0))
  (F:∀k L,ls k=some L->∀base,X.K.In base->base.Ns di X.mg->Bt X.prog X.w X.K X.mg base (bN X.prog X.w base) j fr fdr [x] (mZ (G.wf X.env t ls) base L.Nl L.par L.bod L.scp L.me n ncl mb))
  (hm:X.mg q=some (.ref fr)) (hk:kj X.K (.ref fr)=true) (hb:Binds X.K fdr [x] []) (O:∀k L,ls k=some L->LmOk os oN L) (hlc:∀k c m,lc k=some (c,m)->∃L,ls k=some L/\L.caps=c/\L.me=m)
  (hs:X.env.scope.names=os.names:=by rfl) (hN:X.N=oN:=by rfl) (hg:∀s H ex,Gl (bV X sc [y] s H ex) q:=by intro _ _ _;rfl) (hv:∀s H ex,mP (bV X sc [y] s H ex).env.scope y:=by intro _ _ _;exact Or.inl rfl)
  (hd1:(y==He)=false:=by decide) (hd2:(y==("__classdict__" : Str))=false:=by decide) (Ed:(q==He)=false:=by decide) (hf:∀x,foldedSetIterable iter X.env x=pure x:=by intro _;rfl):
  mY X (G.wf X.env t ls) E (.ListComp (.Call (.Name q p) [.Name y p2] [] pos) [⟨.Name y py,iter,[],0⟩] sc ps) (qE mi lc t n ncl mb):=
 z06 (ls:=ls) g hj hfn C hi hgt F hg hv hm hk hb (λk L e=>⟨(O k L e).ls,λz hz=>by rw[hs];exact(O k L e).kind z hz,(O k L e).len,λi j z e1 e2=>by rw[hN];exact(O k L e).cap (j,z) (cq (i:=i) (nj.mpr ⟨e1,e2⟩))⟩) (λ_ _ _ _ L _ e h=>h.2 L e rfl) hlc hd1 hd2 Ed hf
end
end L2.Mr
namespace L2.Mr.Sam
open L2.Mr.Com
def iQ (Fs:Bg):MS:=(aH (bS (bO (m1 (aV oS) (aA 1))) (aH (bS (dU (mB (m2 cD (m1 (aV eY) (aA 0)) (m1 (aV eY) (aA 1)))) (mB (m2 cD (m1 (aV nF) (aA 0)) (m1 (aV nF) (aA 1))))) (aO (mC (.bl false))) cA) (aH (bS (mB (m2 cD (aF (f1 bX) (aB (aA 0) aC)) (aF (f1 bX) (aB (aA 1) aC)))) (aO (mC (.bl false))) cA) (aO (mL iL (bM (aR qG (aB (aA 0) (aB (aA 1) aC))) [none,none] (cH 2 (aX (aE 0) (aX (aE 1) cJ))) cT (bA (aF Fs (aB (aA 0) (aB (aA 1) aC))))))))) cA) (aO (eK (m2 bT (aA 0) (aA 1)) (m2 bT (m1 (aV kD) (aA 0)) (m1 (aV kD) (aA 1))))))
def F_qq:Nat->Bg
 |0=>λ_ _=>.bad
 |n+1=>aY 2 2 (iQ (F_qq n))
end L2.Mr.Sam
namespace L2.Mr
section
variable{X:Cx}{G:Cfg}{E:XK}{a b e o:bj}{ma mb me mo:M Dv}{pos p cpos apos:Pos}
end
section
variable{X:Cx}{G:Cfg}{E:XK}{a b c e o:bj}{ma mb me mo:M Dv}{mt:M Bool}{pos p2:Pos}
end
section
variable{X:Cx}{G:Cfg}{E:XK}{e o:bj}{me mo:M Dv}{cpos apos:Pos}
end
section
variable{X:Cx}{G:Cfg}{E:XK}{e:bj}{es:List bj}{aR:M Bh }{p pos:Pos}
end
section
variable{X:Cx}{G:Cfg}{E:XK}{pos:Pos}
end
end L2.Mr
namespace L2.Mr.K04
open L2.Mr.Com
open L2.Mr.Sam
def tblV:List (Nat×Bool):=[(0,true)]
def tbl0:List (Nat×Bool):=[(0,true)]
def tbl1:List (Nat×Bool):=[(0,false)]
def tbl2:List (Nat×Bool):=[(0,false)]
def tbl3:List (Nat×Bool):=[(0,false)]
def tbl4:List (Nat×Bool):=[(0,false)]
def tbl5:List (Nat×Bool):=[(0,false)]
def tbl6:List (Nat×Bool):=[(0,false)]
def tbl7:List (Nat×Bool):=[(0,false)]
def tbl8:List (Nat×Bool):=[(0,false)]
def tbl9:List (Nat×Bool):=[(0,false)]
def tbl10:List (Nat×Bool):=[(0,false)]
def mb_qo:MS:=L2.Mr.K05.mb_qo
def F_qo:Bg:=aY 1 1 (mb_qo)
def mb_q2:MS:=L2.Mr.K05.mb_q2
def F_q2:Bg:=aY 2 4 (mb_q2)
def ED:MS:=(aH (aJ (aA 0) (cH 2 (aX (aE 2) (aX (aE 3) cJ)))) (aH (aJ (bH (bM (bF dY (aA 3)) [none,none,some 1] (cH 2 (aX (aE 0) (aX (aE 1) cJ))) (mB (m2 (dW true) (aA 0) (aA 2))) (bA (aA 1)))) (aE 4)) (aO (bH (bM (aR cN (aB (aA 2) aC)) [none,some 1,some 4] (aE 0) (jH (mB (m2 (dW true) (aA 0) (aA 1))) (mB (m2 (dW true) (aA 0) (aA 2)))) (bA (aA 0)))))))
def F_q0:Bg:=aY 2 5 (ED)
def yT:MS:=(aH (dG (aF F_qo (aB (aA 0) aC))) (aH (aJ (aQ (aB (aL aC) aC)) (aE 1)) (aH (eC (aR cN (aB (m2 aU (aA 0) (mC (.int 0))) aC)) (aE 2) (aJ (bH (bM (bF cG (aA 1)) [none,none,some 0] (aE 0) cT (jK (bF cG (aF F_q0 (aB (aA 2) (aB (aA 0) aC)))) (aE 1) cT (bA (m2 bJ (aA 0) (aL (aB (aA 1) aC))))))) (aE 1))) (aO (aA 1)))))
def F_qw:Bg:=aY 1 3 (yT)
def NJ:MS:=(aO (aF (f1 bX) (aB (aF F_qw (aB (aA 0) aC)) aC)))
def F_qv:Bg:=aY 1 1 (NJ)
def EE:MS:=(aH (aJ (aQ (aB (aL aC) aC)) (aE 1)) (aH (eC (aR cN (aB (m2 aU (aA 0) (mC (.int 0))) aC)) (aE 2) (aH (aJ (aQ aC) (aE 3)) (aH (eC (bF cG (aA 1)) (aE 4) (aJ (m2 bJ (aA 3) (bH (bM (aR cN (aB (m2 aU (aA 0) (mC (.int 0))) aC)) [none,some 4] (aE 0) (mB (m2 (dW true) (aA 0) (aA 1))) (bA (m2 bJ (aA 1) (aL (aB (aA 0) aC))))))) (aE 3))) (aJ (aA 3) (aE 1))))) (aO (bH (bM (bF cG (aA 1)) [none,some 0] (aE 0) (mB (m2 bT (bH (bM (bF dY (m2 aU (aA 1) (mC (.int 1)))) [none,none,some 0] (cH 2 (aX (aE 0) (aX (aE 1) cJ))) (mB (m2 jN (fZ (aA 2) (aA 0)) (fZ (aA 2) (aA 1)))) (bA (mC (.int 1))))) (aQ aC))) (bA (aA 0)))))))
def F_qp:Bg:=aY 1 5 (EE)
def yS:MS:=(aO (eK (m1 (aV oR) (aA 0)) (m1 mV (m1 (aV kD) (aA 0)))))
def F_ql:Bg:=aY 1 1 (yS)
def mb_qh:MS:=L2.Mr.K05.mb_qh
def F_qh:Bg:=aY 2 2 (mb_qh)
def uQ:MS:=(aH (aJ (aL aC) (aE 2)) (aH (eC (aR cN (aB (m2 aU (aA 1) (mC (.int 0))) aC)) (aE 3) (aH (aJ (bH (bM (aR cN (aB (m2 aU (aA 1) (mC (.int 0))) aC)) [none,some 2] (aE 0) (mB (m2 (dW true) (aA 0) (aA 1))) (bA (aA 0)))) (aE 4)) (aH (aJ (bH (bM (bF cG (aA 4)) [none,some 1,some 2] (aE 0) (mB (m2 bT (bH (bM (bF dY (m2 aU (aA 1) (mC (.int 1)))) [none,none,some 0,some 2] (cH 2 (aX (aE 0) (aX (aE 1) cJ))) (jH (mB (m2 bT (aA 1) (aA 2))) (mB (m2 (dW true) (aA 0) (aA 3)))) (bA (aA 0)))) (aQ aC))) (bA (aA 0)))) (aE 5)) (aJ (m2 bJ (aA 2) (aL (aB (m2 aU (aA 5) (aF F_qr (aB (aA 0) (aB (aF (f1 bX) (aB (aA 5) aC)) aC)))) aC))) (aE 2))))) (aO (aA 2))))
def F_qd:Bg:=aY 2 6 (uQ)
def mb_qc:MS:=L2.Mr.K05.mb_qc
def F_qc:Bg:=aY 2 7 (mb_qc)
def gL:MS:=(aH (aJ (aQ (aB (m1 (aV (eO none tbl0)) (aA 1)) (aB (m1 (aV (eO none tbl1)) (aA 1)) (aB (m1 (aV (eO none tbl2)) (aA 1)) aC)))) (aE 3)) (aH (aJ (m2 bJ (aA 3) (aQ (aB (m1 (aV (eO none tbl3)) (aA 1)) (aB (m1 (aV (eO none tbl4)) (aA 1)) (aB (m1 (aV (eO none tbl5)) (aA 1)) aC))))) (aE 3)) (aH (aJ (m2 bJ (aA 3) (aQ (aB (m1 (aV (eO none tbl6)) (aA 1)) (aB (m1 (aV (eO none tbl7)) (aA 1)) (aB (m1 (aV (eO none tbl8)) (aA 1)) aC))))) (aE 3)) (aH (aJ (m2 bJ (aA 3) (aQ (aB (m1 (aV (eO none tbl9)) (aA 1)) (aB (m1 (aV (eO none tbl10)) (aA 1)) aC)))) (aE 3)) (aH (bS (cO (bO (m1 (aV (eO none tblV)) (aA 1)))) (aO (mC .non)) cA) (aO (bH (bM (aR cN (aB (mC (.int 11)) aC)) [none,some 3] (aE 0) (bO (m2 aU (aA 1) (aA 0))) (bA (aA 0))))))))))
def NK:M Dv:=(aF F_q2 (aB (aA 0) (aB (aL aC) aC)))
def NL:M Dv:=(aF F_qv (aB (aA 0) aC))
def NM:M Dv:=(aF F_qw (aB (aA 0) aC))
def yU:Nat->Option (Be×M Dv)
 |0=>some ([7],NK)
 |1=>some ([7],NL)
 |2=>some ([7],NM)
 |_=>none
def yV (scr:Bd) (tt:Nat):MS:=(aH (aJ (aF (F_qk scr) (aB (aA 0) (aB (aA 1) aC))) (aE 2)) (aH (aJ (aF F_qj (aB (aA 2) (aB (mC (.int 6)) aC))) (aE 3)) (aH (aJ (aF F_qd (aB (aA 2) (aB (aA 3) aC))) (aE 4)) (aH (bS (mB (m2 (pQ true) (aF F_q2 (aB (aA 3) (aB (aA 4) aC))) (mC (.bl true)))) (aO (mC (.bl false))) cA) (aH (eC (aR cN (aB (mC (.int 5)) aC)) (aE 5) (aH (aJ (aF F_qc (aB (aA 2) (aB (aA 4) aC))) (aE 6)) (bS (cO (bO (aF (F_qq 6) (aB (aF F_q2 (aB (aA 3) (aB (aA 6) aC))) (aB (aF F_qh (aB (aA 3) (aB (aA 6) aC))) aC))))) (aO (mC (.bl false))) cA))) (aH (aJ (aF F_qa (aB (aA 2) aC)) (aE 7)) (aH (aJ (aQ (aB (jF 0 tt) aC)) (aE 8)) (aH (dG (hO (aA 8) (jF 1 tt))) (aH (dG (hO (aA 8) (jF 2 tt))) (aH (bS (mB (m2 cD (bH (qE (bF cG (aA 8)) yU tt 4 11 gL)) (m2 pU (aQ (aB (aQ (aB (mC (.int 0)) aC)) aC)) (mC (.int 3))))) (aO (mC (.bl false))) cA) (bS (mB (m2 eZ (aA 1) (mC (.int 2)))) (aH (aJ (aF F_qp (aB (aA 3) aC)) (aE 9)) (aH (aJ (aF F_qw (aB (aA 3) aC)) (aE 10)) (aH (bS (dU (cO (bO (aF (F_qq 6) (aB (aA 10) (aB (aA 9) aC))))) (cO (bO (aF (F_qq 6) (aB (aF F_qv (aB (aA 3) aC)) (aB (aF (f1 bX) (aB (aA 9) aC)) aC)))))) (aO (mC (.bl false))) cA) (aH (dG (hO (aA 10) (aL aC))) (bS (cO (bO (aF (F_qq 6) (aB (aF F_qw (aB (aA 3) aC)) (aB (aA 9) aC))))) (aO (mC (.bl false))) cA))))) cA)))))))))))
def NN (scr:Bd) (tt:Nat):MS:=(eC (aR cN (aB (aF mW (aB (mC (.int 1)) (aB (aF rH (aB (aF (f1 (gH scr)) (aB (aA 0) aC)) (aB (mC (.int 8)) aC))) aC))) aC)) (aE 1) (yV scr tt))
def ml1:MS:=(aO (mC (.bl true)))
def yW (scr:Bd) (tt:Nat):MS:=(aH (NN scr tt) (ml1))
def F_q3 (scr:Bd):Bg:=uR 1 11 (yW scr)
end L2.Mr.K04
namespace L2.Mr
section
variable{X:Cx}{G:Cfg}{E:XK}{e:bj}{me:M Dv}{pos pos':Pos}{i:Nat}{x:Str}
theorem bY (hN:X.N.Nodup) (hi:X.N[i]?=some x:=by rfl) (hx:lF X.env.scope x:=by first|exact .inl rfl|exact .inr rfl) (hf:X.fn x=true∨X.env.scope.names.lookup x=some .local:=by first|exact .inl rfl|exact .inr rfl|assumption):iX X G (.Name x pos) (aE i):=VX hN hi hx hf
theorem cI (hN:X.N.Nodup) (he:aI X G E e me) (hi:X.N[i]?=some x:=by rfl) (hx:lF X.env.scope x:=by first|exact .inl rfl|exact .inr rfl) (hs:swapsWith e (some (.Name x pos')) pos.line X.env=pure false:=by rfl) (hf:X.fn x=true∨X.env.scope.names.lookup x=some .local:=by first|exact .inl rfl|exact .inr rfl|assumption):hJ X G E (.Assign [.Name x pos'] e pos) (aJ me (aE i)):=BV hN hi hx he hs hf
theorem fK {sc os:gq}{oN N:Bf}{cap:List (Option Nat)}(hs:X.env.scope.names=os.names:=by rfl) (hN:X.N=oN:=by rfl) (h1:sc.kind=.function:=by rfl) (h2:∀p∈sc.names,p.2=.local->sc.names.lookup p.1=some .local:=by decide +kernel) (h3:cap.length=N.length:=by rfl)
  (h4:∀p∈sc.names,p.2=.free->os.names.lookup p.1=some .cell∨os.names.lookup p.1=some .free:=by decide +kernel) (h5:∀p∈sc.names,p.2=.free->(p.1,du)∉sc.names:=by decide +kernel) (h6:∀q∈cap.zip N,∀j∈q.1,oN[j]?=some q.2/\sc.names.lookup q.2=some .free:=by decide +kernel):Ci X sc N cap:=X7 hs hN h1 h2 h3 h4 h5 h6
end
theorem dP {N P:Bf}{sc:gq}(h1:sc.kind=.function:=by rfl) (h2:sc.isCoroutine=false:=by rfl) (h3:sc.isGenerator=false:=by rfl) (h4:N.Nodup:=by decide +kernel) (h5:N.take P.length=P:=by rfl) (h6:∀x∈P,sc.names.lookup x=some .local∨sc.names.lookup x=some .cell:=by decide +kernel) (h7:∀y∈sc.names,y.2≠.free:=by decide +kernel):Bq N P sc:=⟨h1,h2,h3,h4,h5,h6,h7⟩
theorem cC {k:Nat}{f:ai}{X:Cx}{G:Cfg}{E:XK}{F:Bg}{ps:Bf}{fd:bp}{x:Str}{p pos:Pos}{e:bj}{es:List bj}{ms:M Bh }{j:Nat}(g:Good X G E k) (Fn:Bt X.prog X.w X.K X.mg X.base (bN X.prog X.w X.base) j f fd ps (cU G F))
  (hm:X.mg x=some (.ref f)) (hk:kj X.K (.ref f)=true) (hb:Binds X.K fd ps []) (ha:dX X G E (e::es) ms) (hj:j<=k:=by decide) (hg:Gl X x:=by exact rfl)
  (Ed:(x==He)=false:=by decide) (he:aw (e::es) X.env=(false,eval e X.env)::aw es X.env:=by rfl) (Dh:(backTo pos (aw es X.env)).any (·.1)=false:=by rfl):
  aI X G E (.Call (.Name x p) (e::es) [] pos) (aF F ms):=JS g Fn hj hg hm hk hb ha Ed he Dh
open PySem.W in
theorem dQ {F:List (Frag->Bool)}{K:Frag}{l m:List (Option bp)}(hf:l=m) (hc:F.all (λf=>f K)=true) (f:ai) (st:ie) (n:Str) (c:ai) (ps:Bf) (i j k:Nat)
  (hb:∀(kV doc pm:af) (an:Option ai) (cdv ct:af) (us:List af),us.length=ps.length->bindArgs (fnOf n n (oD st) (hZ st) (aT st) .none kV doc pm an cdv ct) ⟨us,[]⟩=pure (ps.zip us))
  (h1:l[i]?=some (cY K f):=by rfl) (h2:m[i]?=some (some (fnOf n n (oD st) (hZ st) (aT st) .none .none .none .none none (.ref c) .none)):=by rfl) (h3:F[j]?=some (codeIn · (.ref c) n):=by rfl) (h4:F[k]?=some (keepIn · (.ref f)):=by rfl):
  ∃fd:bp,Cy K n n st f fd/\Binds K fd ps []/\fd.code=.ref c/\∀us:List af,us.length=ps.length->bindArgs fd ⟨us,[]⟩=pure (ps.zip us):=X6 (P5 hf i h1 h2) (qR hc j h3) (qR hc k h4) hb
end L2.Mr
namespace L2.Mr.K04
open L2.Mr.Com
open L2.Mr.Sam
def dR (i:Nat):ie:=ae.main.body.getD i (.Pass ⟨0,0,0,0⟩)
abbrev EF:ie:=dR 14
abbrev EG:ie:=dR 15
abbrev yX:ie:=dR 16
abbrev EH:ie:=dR 19
abbrev yY:ie:=dR 20
abbrev EI:ie:=dR 21
abbrev yZ:ie:=dR 22
abbrev zA:ie:=dR 23
abbrev zB:ie:=dR 24
abbrev EJ:ie:=dR 25
abbrev EK:ie:=dR 26
abbrev zC:ie:=dR 28
abbrev uS:ie:=dR 29
abbrev zD:ie:=dR 30
abbrev EL:ie:=dR 31
abbrev EM:ie:=dR 33
abbrev EN:ie:=dR 34
abbrev EO:ie:=dR 35
abbrev ER:ie:=dR 36
abbrev zE:ie:=dR 37
abbrev uT:ie:=dR 38
abbrev uU:ie:=dR 39
abbrev ES:ie:=dR 40
abbrev uV:ie:=dR 41
abbrev uW:ie:=dR 42
abbrev ET:ie:=dR 43
abbrev EU:ie:=dR 44
abbrev zF:ie:=dR 45
abbrev qH:ie:=dR 46
abbrev gW:ie:=dR 47
set_option genInjectivity false in
structure Ad where
 f_qz:ai
 fd_qz:bp
 f_qn:ai
 fd_qn:bp
 f_qu:ai
 fd_qu:bp
 f_qy:ai
 fd_qy:bp
 f_qm:ai
 fd_qm:bp
 f_q1:ai
 fd_q1:bp
 f_qs:ai
 fd_qs:bp
 f_qt:ai
 fd_qt:bp
 f_qi:ai
 fd_qi:bp
 f_qx:ai
 fd_qx:bp
 f_qo:ai
 fd_qo:bp
 f_q2:ai
 fd_q2:bp
 f_q0:ai
 fd_q0:bp
 f_qw:ai
 fd_qw:bp
 f_qv:ai
 fd_qv:bp
 f_qe:ai
 fd_qe:bp
 f_qk:ai
 fd_qk:bp
 f_qr:ai
 fd_qr:bp
 f_qb:ai
 fd_qb:bp
 f_qg:ai
 fd_qg:bp
 f_qj:ai
 fd_qj:bp
 f_qp:ai
 fd_qp:bp
 f_ql:ai
 fd_ql:bp
 f_qh:ai
 fd_qh:bp
 f_qd:ai
 fd_qd:bp
 f_qc:ai
 fd_qc:bp
 f_qa:ai
 fd_qa:bp
 f_qq:ai
 fd_qq:bp
 f_qf:ai
 fd_qf:bp
 f_q3:ai
 fd_q3:bp
 c_NoOrder:ai
 c_NoNumber:ai
 c_NoPairs:ai
 c_Round:ai
 c_NoThing:ai
 c_NoRow:ai
 c_TooMany:ai
 c_TooFew:ai
 c_NoText:ai
 c_NoLine:ai
 c_NoDeed:ai
 t_MOST_THINGS:Tok
 NE:ai
 cc:ai
 P:ai
structure Tx (K:ao) (mg:Str->Option af) (G:Cf0) (A:Ad):Prop where
 hK:K=G.K
 F_qz:Cy K "is_whole" "is_whole" EF A.f_qz A.fd_qz
 B_qz:Binds K A.fd_qz ["thing"] []
 m_qz:mg "is_whole" = some (.ref A.f_qz)
 F_qn:Cy K "is_between" "is_between" EG A.f_qn A.fd_qn
 B_qn:Binds K A.fd_qn ["thing","low","high"] []
 m_qn:mg "is_between" = some (.ref A.f_qn)
 F_qu:Cy K "is_rising" "is_rising" yX A.f_qu A.fd_qu
 B_qu:Binds K A.fd_qu ["parts"] []
 m_qu:mg "is_rising" = some (.ref A.f_qu)
 F_qy:Cy K "is_thing" "is_thing" EH A.f_qy A.fd_qy
 B_qy:Binds K A.fd_qy ["many","thing"] []
 m_qy:mg "is_thing" = some (.ref A.f_qy)
 F_qm:Cy K "are_things" "are_things" yY A.f_qm A.fd_qm
 B_qm:Binds K A.fd_qm ["many","thing"] []
 m_qm:mg "are_things" = some (.ref A.f_qm)
 F_q1:Cy K "is_pair" "is_pair" EI A.f_q1 A.fd_q1
 B_q1:Binds K A.fd_q1 ["many","thing"] []
 m_q1:mg "is_pair" = some (.ref A.f_q1)
 F_qs:Cy K "are_pairs" "are_pairs" yZ A.f_qs A.fd_qs
 B_qs:Binds K A.fd_qs ["many","things"] []
 m_qs:mg "are_pairs" = some (.ref A.f_qs)
 F_qt:Cy K "has_alike" "has_alike" zA A.f_qt A.fd_qt
 B_qt:Binds K A.fd_qt ["pairs"] []
 m_qt:mg "has_alike" = some (.ref A.f_qt)
 F_qi:Cy K "is_complete" "is_complete" zB A.f_qi A.fd_qi
 B_qi:Binds K A.fd_qi ["pairs"] []
 m_qi:mg "is_complete" = some (.ref A.f_qi)
 F_qx:Cy K "is_order" "is_order" EJ A.f_qx A.fd_qx
 B_qx:Binds K A.fd_qx ["thing"] []
 m_qx:mg "is_order" = some (.ref A.f_qx)
 F_qo:Cy K "need_order" "need_order" EK A.f_qo A.fd_qo
 B_qo:Binds K A.fd_qo ["order"] []
 m_qo:mg "need_order" = some (.ref A.f_qo)
 F_q2:Cy K "is_row" "is_row" zC A.f_q2 A.fd_q2
 B_q2:Binds K A.fd_q2 ["order","thing"] []
 m_q2:mg "is_row" = some (.ref A.f_q2)
 F_q0:Cy K "may_come" "may_come" uS A.f_q0 A.fd_q0
 B_q0:Binds K A.fd_q0 ["order","begun"] []
 m_q0:mg "may_come" = some (.ref A.f_q0)
 F_qw:Cy K "all_rows" "all_rows" zD A.f_qw A.fd_qw
 B_qw:Binds K A.fd_qw ["order"] []
 m_qw:mg "all_rows" = some (.ref A.f_qw)
 F_qv:Cy K "rows_many" "rows_many" EL A.f_qv A.fd_qv
 B_qv:Binds K A.fd_qv ["order"] []
 m_qv:mg "rows_many" = some (.ref A.f_qv)
 F_qe:Cy K "_law_cell_at" "_law_cell_at" EM A.f_qe A.fd_qe
 B_qe:Binds K A.fd_qe ["_law_script","_law_k"] []
 m_qe:mg "_law_cell_at" = some (.ref A.f_qe)
 F_qk:Cy K "_law_state" "_law_state" EN A.f_qk A.fd_qk
 B_qk:Binds K A.fd_qk ["_law_script","_law_k"] []
 m_qk:mg "_law_state" = some (.ref A.f_qk)
 F_qr:Cy K "_law_take" "_law_take" EO A.f_qr A.fd_qr
 B_qr:Binds K A.fd_qr ["_law_state_here","_law_many"] []
 m_qr:mg "_law_take" = some (.ref A.f_qr)
 F_qb:Cy K "_law_mixed_row" "_law_mixed_row" ER A.f_qb A.fd_qb
 B_qb:Binds K A.fd_qb ["_law_state_here","_law_things"] []
 m_qb:mg "_law_mixed_row" = some (.ref A.f_qb)
 F_qg:Cy K "_law_closed" "_law_closed" zE A.f_qg A.fd_qg
 B_qg:Binds K A.fd_qg ["_law_pairs"] []
 m_qg:mg "_law_closed" = some (.ref A.f_qg)
 F_qj:Cy K "_law_order" "_law_order" uT A.f_qj A.fd_qj
 B_qj:Binds K A.fd_qj ["_law_state_here","_law_most"] []
 m_qj:mg "_law_order" = some (.ref A.f_qj)
 F_qp:Cy K "_law_rows" "_law_rows" uU A.f_qp A.fd_qp
 B_qp:Binds K A.fd_qp ["_law_order_here"] []
 m_qp:mg "_law_rows" = some (.ref A.f_qp)
 F_ql:Cy K "_law_whole" "_law_whole" ES A.f_ql A.fd_ql
 B_ql:Binds K A.fd_ql ["_law_thing"] []
 m_ql:mg "_law_whole" = some (.ref A.f_ql)
 F_qh:Cy K "_law_is_row" "_law_is_row" uV A.f_qh A.fd_qh
 B_qh:Binds K A.fd_qh ["_law_order_here","_law_thing"] []
 m_qh:mg "_law_is_row" = some (.ref A.f_qh)
 F_qd:Cy K "_law_some_row" "_law_some_row" uW A.f_qd A.fd_qd
 B_qd:Binds K A.fd_qd ["_law_state_here","_law_order_here"] []
 m_qd:mg "_law_some_row" = some (.ref A.f_qd)
 F_qc:Cy K "_law_bent_row" "_law_bent_row" ET A.f_qc A.fd_qc
 B_qc:Binds K A.fd_qc ["_law_state_here","_law_row"] []
 m_qc:mg "_law_bent_row" = some (.ref A.f_qc)
 F_qa:Cy K "_law_bad_order" "_law_bad_order" EU A.f_qa A.fd_qa
 B_qa:Binds K A.fd_qa ["_law_state_here"] []
 m_qa:mg "_law_bad_order" = some (.ref A.f_qa)
 F_qq:Cy K "_law_same" "_law_same" zF A.f_qq A.fd_qq
 B_qq:Binds K A.fd_qq ["_law_found","_law_due"] []
 m_qq:mg "_law_same" = some (.ref A.f_qq)
 F_qf:Cy K "_law_refused" "_law_refused" qH A.f_qf A.fd_qf
 B_qf:Binds K A.fd_qf ["_law_call"] []
 m_qf:mg "_law_refused" = some (.ref A.f_qf)
 F_q3:Cy K "law" "law" gW A.f_q3 A.fd_q3
 B_q3:Binds K A.fd_q3 ["_law_script"] []
 m_q3:mg "law" = some (.ref A.f_q3)
 z_ValueError:mg "ValueError" = none
 z_all:mg "all" = none
 z_any:mg "any" = none
 z_bool:mg "bool" = none
 z_int:mg "int" = none
 z_isinstance:mg "isinstance" = none
 z_len:mg "len" = none
 z_list:mg "list" = none
 z_max:mg "max" = none
 z_min:mg "min" = none
 z_range:mg "range" = none
 z_set:mg "set" = none
 z_sorted:mg "sorted" = none
 z_tuple:mg "tuple" = none
 z_zip:mg "zip" = none
 c_MOST_THINGS:mg "MOST_THINGS" = some (.int 6 A.t_MOST_THINGS)
 n_NoOrder:mg "NoOrder" = some (.ref A.c_NoOrder)
 n_NoNumber:mg "NoNumber" = some (.ref A.c_NoNumber)
 n_NoPairs:mg "NoPairs" = some (.ref A.c_NoPairs)
 n_Round:mg "Round" = some (.ref A.c_Round)
 n_NoThing:mg "NoThing" = some (.ref A.c_NoThing)
 n_NoRow:mg "NoRow" = some (.ref A.c_NoRow)
 n_TooMany:mg "TooMany" = some (.ref A.c_TooMany)
 n_TooFew:mg "TooFew" = some (.ref A.c_TooFew)
 n_NoText:mg "NoText" = some (.ref A.c_NoText)
 n_NoLine:mg "NoLine" = some (.ref A.c_NoLine)
 n_NoDeed:mg "NoDeed" = some (.ref A.c_NoDeed)
 ns_NoOrder:zb K di "NoOrder" = some (some (.ref A.c_NoOrder))
 x_NoOrder:yj K A.c_NoOrder CG "ValueError.__new__" = true
 ce_NoOrder:A.c_NoOrder=G.cl 0
 ktV:∀c b,tblV.lookup c=some b->dh G.K (.ref (G.cl c)) (.type "ValueError")=some b/\Du G.K (G.cl c)
 kt0:∀c b,tbl0.lookup c=some b->dh G.K (.ref (G.cl c)) (.ref A.c_NoOrder)=some b/\Du G.K (G.cl c)
 kt1:∀c b,tbl1.lookup c=some b->dh G.K (.ref (G.cl c)) (.ref A.c_NoNumber)=some b/\Du G.K (G.cl c)
 kt2:∀c b,tbl2.lookup c=some b->dh G.K (.ref (G.cl c)) (.ref A.c_NoPairs)=some b/\Du G.K (G.cl c)
 kt3:∀c b,tbl3.lookup c=some b->dh G.K (.ref (G.cl c)) (.ref A.c_Round)=some b/\Du G.K (G.cl c)
 kt4:∀c b,tbl4.lookup c=some b->dh G.K (.ref (G.cl c)) (.ref A.c_NoThing)=some b/\Du G.K (G.cl c)
 kt5:∀c b,tbl5.lookup c=some b->dh G.K (.ref (G.cl c)) (.ref A.c_NoRow)=some b/\Du G.K (G.cl c)
 kt6:∀c b,tbl6.lookup c=some b->dh G.K (.ref (G.cl c)) (.ref A.c_TooMany)=some b/\Du G.K (G.cl c)
 kt7:∀c b,tbl7.lookup c=some b->dh G.K (.ref (G.cl c)) (.ref A.c_TooFew)=some b/\Du G.K (G.cl c)
 kt8:∀c b,tbl8.lookup c=some b->dh G.K (.ref (G.cl c)) (.ref A.c_NoText)=some b/\Du G.K (G.cl c)
 kt9:∀c b,tbl9.lookup c=some b->dh G.K (.ref (G.cl c)) (.ref A.c_NoLine)=some b/\Du G.K (G.cl c)
 kt10:∀c b,tbl10.lookup c=some b->dh G.K (.ref (G.cl c)) (.ref A.c_NoDeed)=some b/\Du G.K (G.cl c)
 n_NearError:mg "NearError" = some (.ref A.NE)
 e1:kd K (.ref A.NE) (.type "BaseException")=some true
 e2:kd K (.type "type") (.type "tuple")=some false
 e3:xv K (.ref A.NE) (.ref A.NE)=some true
 e4:∀c,c<11->kd K (.ref (G.cl c)) (.ref A.NE)=some true
 lq:(("law" : Str) ++ ".<locals>.") ++ "<lambda>" = G.lq
 tab:G.tab=some A.P
 code:A.fd_q3.code=.ref A.cc
theorem NO:(["one","other"]:Bf).Nodup:=by decide +kernel
theorem nd5:(["part","many"]:Bf).Nodup:=by decide +kernel
theorem nd7:(["thing","many"]:Bf).Nodup:=by decide +kernel
theorem NP:(["a","b"]:Bf).Nodup:=by decide +kernel
theorem zG:(["a","b","middle","c","pairs"]:Bf).Nodup:=by decide +kernel
theorem NQ:(["thing","many","pairs"]:Bf).Nodup:=by decide +kernel
theorem NR:(["order","thing","many","pairs"]:Bf).Nodup:=by decide +kernel
theorem NS:(["a","b","thing"]:Bf).Nodup:=by decide +kernel
theorem EV:(["order","begun","many","pairs","waiting"]:Bf).Nodup:=by decide +kernel
theorem NT:(["a","b","begun"]:Bf).Nodup:=by decide +kernel
theorem z0d:(["thing","begun","waiting"]:Bf).Nodup:=by decide +kernel
theorem EW:(["order","rows","place"]:Bf).Nodup:=by decide +kernel
theorem NU:(["begun","thing","order"]:Bf).Nodup:=by decide +kernel
theorem z0e:(["_law_script","_law_k","_law_cell"]:Bf).Nodup:=by decide +kernel
theorem EX:(["_law_state_here","_law_many","_law_found","_law_stirred"]:Bf).Nodup:=by decide +kernel
theorem NV:(["_law_state_here","_law_things","_law_left","_law_found"]:Bf).Nodup:=by decide +kernel
abbrev Bn:List PySem.Str:=["_law_pairs","_law_found","_law_later","_law_a","_law_b"]
theorem sC:(Bn:Bf).Nodup:=by decide +kernel
theorem NW:(["_law_c","_law_d","_law_a","_law_b"]:Bf).Nodup:=by decide +kernel
abbrev Bk:List PySem.Str:=["_law_state_here","_law_most","_law_many","_law_row","_law_way","_law_pairs","_law_marks","_law_i","_law_j","_law_near"]
theorem jP:(Bk:Bf).Nodup:=by decide +kernel
theorem z0f:(["_law_thing","_law_state_here"]:Bf).Nodup:=by decide +kernel
theorem z0g:(["_law_j","_law_i","_law_marks"]:Bf).Nodup:=by decide +kernel
abbrev Bm:List PySem.Str:=["_law_order_here","_law_found","_law_turn","_law_longer","_law_row"]
theorem sD:(Bm:Bf).Nodup:=by decide +kernel
theorem z0h:(["_law_thing","_law_row"]:Bf).Nodup:=by decide +kernel
theorem z0i:(["_law_row","_law_order_here"]:Bf).Nodup:=by decide +kernel
theorem NX:(["_law_a","_law_b","_law_row"]:Bf).Nodup:=by decide +kernel
theorem z0j:(["_law_one"]:Bf).Nodup:=by decide +kernel
theorem NY:(["_law_a","_law_b","_law_thing"]:Bf).Nodup:=by decide +kernel
abbrev Bl:List PySem.Str:=["_law_state_here","_law_order_here","_law_found","_law_turn","_law_left","_law_some"]
theorem uX:(Bl:Bf).Nodup:=by decide +kernel
theorem z0k:(["_law_thing","_law_found"]:Bf).Nodup:=by decide +kernel
theorem z0l:(["_law_thing","_law_order_here","_law_found"]:Bf).Nodup:=by decide +kernel
theorem NZ:(["_law_a","_law_b","_law_thing","_law_found"]:Bf).Nodup:=by decide +kernel
theorem uY:(["_law_state_here","_law_row","_law_at","_law_to","_law_odd","_law_some","_law_other"]:Bf).Nodup:=by decide +kernel
theorem EY:(["_law_state_here","_law_some"]:Bf).Nodup:=by decide +kernel
theorem N0:(["_law_one","_law_other"]:Bf).Nodup:=by decide +kernel
theorem zH:(["_law_call","_law_error","e","_law_marks"]:Bf).Nodup:=by decide +kernel
theorem z0m:(["_law_k","_law_marks"]:Bf).Nodup:=by decide +kernel
abbrev Bj:List PySem.Str:=["_law_script","_law_k","_law_state_here","_law_order_here","_law_row","_law_turn","_law_thing","_law_bad","_law_calls","_law_due","_law_found"]
theorem lX:(Bj:Bf).Nodup:=by decide +kernel
theorem z0n:(["_law_call"]:Bf).Nodup:=by decide +kernel
section
variable{P:bh}{w:cj}{K:ao}{mg:Str->Option af}{base:cy}{G:Cfg}{A:Ad}
theorem z0o:Bq ["thing"] ["thing"] (aT EF):=dP
theorem z0p (T:Tx K mg G A):Bt P w K mg base (bN P w base) 1 A.f_qz A.fd_qz ["thing"] (cU G F_qz):=dZ (k:=0) T.F_qz z0o T.hK λ_ _ _ _ _ _ _ g=>(bQ (cE (pJ (KS rfl T.z_isinstance rfl T.z_int (aD 0)) (pI (BO (xV rfl T.z_isinstance rfl T.z_bool (aD 0)))))))
theorem z0q:Bq ["thing","low","high"] ["thing","low","high"] (aT EG):=dP
theorem N1 (T:Tx K mg G A):Bt P w K mg base (bN P w base) 2 A.f_qn A.fd_qn ["thing","low","high"] (cU G F_qn):=dZ (k:=1) T.F_qn z0q T.hK λ_ _ _ _ _ _ _ g=>(bQ (cE (pJ (cC g (z0p T) T.m_qz T.F_qz.kp T.B_qz (aG (aD 0) aN)) (pI (YA (aD 1) (aD 0) (aD 2))))))
theorem z0r:Bq ["parts"] ["parts"] (aT yX):=dP
theorem z0s (T:Tx K mg G A):Bt P w K mg base (bN P w base) 1 A.f_qu A.fd_qu ["parts"] (cU G F_qu):=dZ (k:=0) T.F_qu z0r T.hK λ_ _ _ _ _ _ _ g=>(bQ (cE (rM g.calm rfl T.z_all (gO g.calm (fK (N:=["one","other"]) (cap:=[none,none]) (os:=(aT yX)) (oN:=["parts"])) (W9 rfl T.z_zip (aG (aD 0) (aG (nM (aD 0) (lO bG) nA) aN))) (λ_ _ _=>(iJ (cQ g).calm (dO (bY (i:=0) NO) (dO (bY (i:=1) NO) iI)))) (λ_ _ _=>lJ) (λ_ _ _=>(DJ (cQ g) (aD 0) (aD 1)))))))
theorem z0t:Bq ["many","thing"] ["many","thing"] (aT EH):=dP
theorem z0u (T:Tx K mg G A):Bt P w K mg base (bN P w base) 3 A.f_qy A.fd_qy ["many","thing"] (cU G F_qy):=dZ (k:=2) T.F_qy z0t T.hK λ_ _ _ _ _ _ _ g=>(bQ (cE (cC g (N1 T) T.m_qn T.F_qn.kp T.B_qn (aG (aD 1) (aG bG (aG (CM (aD 0) bG) aN))))))
theorem z0v:Bq ["many","thing"] ["many","thing"] (aT yY):=dP
theorem N2 (T:Tx K mg G A):Bt P w K mg base (bN P w base) 4 A.f_qm A.fd_qm ["many","thing"] (cU G F_qm):=dZ (k:=3) T.F_qm z0v T.hK λ_ _ _ _ _ _ _ g=>(bQ (cE (pJ (rS rfl T.z_isinstance rfl T.z_tuple (aD 1)) (pI (rM g.calm rfl T.z_all (gO g.calm (fK (N:=["part","many"]) (cap:=[none,some 0]) (os:=(aT yY)) (oN:=["many","thing"])) (kR (aD 1)) (λ_ _ _=>(bY (i:=0) nd5)) (λ_ _ _=>lJ) (λ_ _ _=>(cC (cQ g) (z0u T) T.m_qy T.F_qy.kp T.B_qy (aG (aD 1) (aG (aD 0) aN))))))))))
theorem z0w:Bq ["many","thing"] ["many","thing"] (aT EI):=dP
theorem z0x (T:Tx K mg G A):Bt P w K mg base (bN P w base) 5 A.f_q1 A.fd_q1 ["many","thing"] (cU G F_q1):=dZ (k:=4) T.F_q1 z0w T.hK λ_ _ _ _ _ _ _ g=>(bQ (cE (pJ (cC g (N2 T) T.m_qm T.F_qm.kp T.B_qm (aG (aD 0) (aG (aD 1) aN))) (pI (oQ g (kE rfl T.z_len (aG (aD 1) aN)) bG)))))
theorem z0y:Bq ["many","things"] ["many","things"] (aT yZ):=dP
theorem z0z (T:Tx K mg G A):Bt P w K mg base (bN P w base) 6 A.f_qs A.fd_qs ["many","things"] (cU G F_qs):=dZ (k:=5) T.F_qs z0y T.hK λ_ _ _ _ _ _ _ g=>(bQ (cE (rM g.calm rfl T.z_all (gO g.calm (fK (N:=["thing","many"]) (cap:=[none,some 0]) (os:=(aT yZ)) (oN:=["many","things"])) (kR (aD 1)) (λ_ _ _=>(bY (i:=0) nd7)) (λ_ _ _=>lJ) (λ_ _ _=>(cC (cQ g) (z0x T) T.m_q1 T.F_q1.kp T.B_q1 (aG (aD 1) (aG (aD 0) aN))))))))
theorem z10:Bq ["pairs"] ["pairs"] (aT zA):=dP
theorem z11 (T:Tx K mg G A):Bt P w K mg base (bN P w base) 1 A.f_qt A.fd_qt ["pairs"] (cU G F_qt):=dZ (k:=0) T.F_qt z10 T.hK λ_ _ _ _ _ _ _ g=>(bQ (cE (WW g.calm rfl T.z_any (gO g.calm (fK (N:=["a","b"]) (cap:=[none,none]) (os:=(aT zA)) (oN:=["pairs"])) (kR (aD 0)) (λ_ _ _=>(iJ (cQ g).calm (dO (bY (i:=0) NP) (dO (bY (i:=1) NP) iI)))) (λ_ _ _=>lJ) (λ_ _ _=>(oQ (cQ g) (aD 0) (aD 1)))))))
theorem z12:Bq ["pairs"] ["pairs"] (aT zB):=dP
theorem z13 (T:Tx K mg G A):Bt P w K mg base (bN P w base) 1 A.f_qi A.fd_qi ["pairs"] (cU G F_qi):=dZ (k:=0) T.F_qi z12 T.hK λ_ _ _ _ _ _ _ g=>(bQ (cE (rM g.calm rfl T.z_all (V1 g.calm (fK (N:=["a","b","middle","c","pairs"]) (cap:=[none,none,none,none,some 0]) (os:=(aT zB)) (oN:=["pairs"])) (kR (aD 0)) (λ_ _ _=>(iJ (cQ g).calm (dO (bY (i:=0) zG) (dO (bY (i:=1) zG) iI)))) (λ_ _ _=>lJ) (λ_ _ _=>(kR (aD 4))) (λ_ _ _=>(iJ (cQ g).calm (dO (bY (i:=2) zG) (dO (bY (i:=3) zG) iI)))) (λ_ _ _=>(iY (pS (cQ g) (aD 1) (aD 2)))) (λ_ _ _=>(Y4 (cQ g) (iB (aG (aD 0) (aG (aD 3) aN))) (aD 4)))))))
theorem z14:Bq ["thing","many","pairs"] ["thing"] (aT EJ):=dP
theorem z15 (T:Tx K mg G A):Bt P w K mg base (bN P w base) 7 A.f_qx A.fd_qx ["thing"] (cU G F_qx):=dZ (k:=6) T.F_qx z14 T.hK λ_ _ _ _ _ _ _ g=>(aZ (fI (Gz (oF (iV (gF (rS rfl T.z_isinstance rfl T.z_tuple (aD 0)))) (pH (lR g (kE rfl T.z_len (aG (aD 0) aN)) bG)))) (bQ (cE fX)) fH) (aZ (BU (aD 0) (iJ g.calm (dO (bY (i:=1) NQ) (dO (bY (i:=2) NQ) iI)))) (aZ (fI (Gz (oF (iV (gF (cC g (N1 T) T.m_qn T.F_qn.kp T.B_qn (aG (aD 1) (aG bG (aG (X2 rfl T.c_MOST_THINGS) aN)))))) (pH (iV (gF (rS rfl T.z_isinstance rfl T.z_tuple (aD 2))))))) (bQ (cE fX)) fH) (aZ (fI (Gz (oF (iV (gF (cC g (z0z T) T.m_qs T.F_qs.kp T.B_qs (aG (aD 1) (aG (aD 2) aN))))) (pH (iV (gF (cC g (z0s T) T.m_qu T.F_qu.kp T.B_qu (aG (aD 2) aN))))))) (bQ (cE fX)) fH) (bQ (cE (pJ (BO (cC g (z11 T) T.m_qt T.F_qt.kp T.B_qt (aG (aD 2) aN))) (pI (cC g (z13 T) T.m_qi T.F_qi.kp T.B_qi (aG (aD 2) aN))))))))))
theorem z16:Bq ["order"] ["order"] (aT EK):=dP
theorem N3 (T:Tx K mg G A):Bt P w K mg base (bN P w base) 8 A.f_qo A.fd_qo ["order"] (cU G F_qo):=dZ (k:=7) T.F_qo z16 T.hK λ_ _ _ _ _ _ _ g=>(bQ (fI (iV (gF (cC g (z15 T) T.m_qx T.F_qx.kp T.B_qx (aG (aD 0) aN)))) (bQ (WC g rfl T.n_NoOrder T.ns_NoOrder T.x_NoOrder T.ce_NoOrder (aG BN aN))) fH))
theorem z17:Bq ["order","thing","many","pairs"] ["order","thing"] (aT zC):=dP
theorem EZ (T:Tx K mg G A):Bt P w K mg base (bN P w base) 9 A.f_q2 A.fd_q2 ["order","thing"] (cU G F_q2):=dZ (k:=8) T.F_q2 z17 T.hK λ_ _ _ _ _ _ _ g=>(aZ (oG (cC g (N3 T) T.m_qo T.F_qo.kp T.B_qo (aG (aD 0) aN))) (aZ (BU (aD 0) (iJ g.calm (dO (bY (i:=2) NR) (dO (bY (i:=3) NR) iI)))) (aZ (fI (Gz (oF (iV (gF (cC g (N2 T) T.m_qm T.F_qm.kp T.B_qm (aG (aD 2) (aG (aD 1) aN))))) (oF (lR g (kE rfl T.z_len (aG (aD 1) aN)) (aD 2)) (pH (lR g (v7 g.calm rfl T.z_len rfl T.z_set (aG (aD 1) aN)) (aD 2)))))) (bQ (cE fX)) fH) (bQ (cE (rM g.calm rfl T.z_all (gO g.calm (fK (N:=["a","b","thing"]) (cap:=[none,none,some 1]) (os:=(aT zC)) (oN:=["order","thing","many","pairs"])) (kR (aD 3)) (λ_ _ _=>(iJ (cQ g).calm (dO (bY (i:=0) NS) (dO (bY (i:=1) NS) iI)))) (λ_ _ _=>lJ) (λ_ _ _=>(DJ (cQ g) (rT (aD 2) (aD 0)) (rT (aD 2) (aD 1)))))))))))
theorem z18:Bq ["order","begun","many","pairs","waiting"] ["order","begun"] (aT uS):=dP
theorem z19 (T:Tx K mg G A):Bt P w K mg base (bN P w base) 1 A.f_q0 A.fd_q0 ["order","begun"] (cU G F_q0):=dZ (k:=0) T.F_q0 z18 T.hK λ_ _ _ _ _ _ _ g=>(aZ (BU (aD 0) (iJ g.calm (dO (bY (i:=2) EV) (dO (bY (i:=3) EV) iI)))) (aZ (cI (i:=4) EV (jZ (gO g.calm (fK (N:=["a","b","begun"]) (cap:=[none,none,some 1]) (os:=(aT uS)) (oN:=["order","begun","many","pairs","waiting"])) (kR (aD 3)) (λ_ _ _=>(iJ (cQ g).calm (dO (bY (i:=0) NT) (dO (bY (i:=1) NT) iI)))) (λ_ _ _=>(iY (rV (cQ g) (aD 0) (aD 2)))) (λ_ _ _=>(aD 1))))) (bQ (cE (jZ (gO g.calm (fK (N:=["thing","begun","waiting"]) (cap:=[none,some 1,some 4]) (os:=(aT uS)) (oN:=["order","begun","many","pairs","waiting"])) (jY rfl T.z_range (aG (aD 2) aN)) (λ_ _ _=>(bY (i:=0) z0d)) (λ_ _ _=>(iY (Gz (IX (rV (cQ g) (aD 0) (aD 1)) (IW (rV (cQ g) (aD 0) (aD 2))))))) (λ_ _ _=>(aD 0))))))))
theorem z1a:Bq ["order","rows","place"] ["order"] (aT zD):=dP
theorem zI (T:Tx K mg G A):Bt P w K mg base (bN P w base) 9 A.f_qw A.fd_qw ["order"] (cU G F_qw):=dZ (k:=8) T.F_qw z1a T.hK λ_ _ _ _ _ _ _ g=>(aZ (oG (cC g (N3 T) T.m_qo T.F_qo.kp T.B_qo (aG (aD 0) aN))) (aZ (cI (i:=1) EW (qC 3)) (aZ (lI g.own g.calm (jY rfl T.z_range (aG (dD (aD 0) bG) aN)) (bY (i:=2) EW) (bQ (Y7 (i:=1) EW rfl g.calm (fK (N:=["begun","thing","order"]) (cap:=[none,none,some 0]) (os:=(aT zD)) (oN:=["order","rows","place"])) (mX (aD 1)) (λ_ _ _=>(bY (i:=0) NU)) (λ_ _ _=>lJ) (λ_ _ _=>(mX (cC (cQ g) (z19 T) T.m_q0 T.F_q0.kp T.B_q0 (aG (aD 2) (aG (aD 0) aN))))) (λ_ _ _=>(bY (i:=1) NU)) (λ_ _ _=>lJ) (λ_ _ _=>(fG (aD 0) (iB (aG (aD 1) aN))))))) (bQ (cE (aD 1))))))
theorem z1b:Bq ["order"] ["order"] (aT EL):=dP
theorem N4 (T:Tx K mg G A):Bt P w K mg base (bN P w base) 10 A.f_qv A.fd_qv ["order"] (cU G F_qv):=dZ (k:=9) T.F_qv z1b T.hK λ_ _ _ _ _ _ _ g=>(bQ (cE (kE rfl T.z_len (aG (cC g (zI T) T.m_qw T.F_qw.kp T.B_qw (aG (aD 0) aN)) aN))))
theorem z1c:Bq ["_law_script","_law_k"] ["_law_script","_law_k"] (aT EM):=dP
theorem z1d (T:Tx K mg G A):Bt P w K mg base (bN P w base) 1 A.f_qe A.fd_qe ["_law_script","_law_k"] (cU G (F_qe G.scr)):=dZ (k:=0) (N:=["_law_script","_law_k"]) (mb:=(yM G.scr)) T.F_qe z1c T.hK λ_ _ _ _ _ _ _ g=>(aZ (fI (DK g (aD 1) (JG rfl T.z_len (aG (aD 0) aN))) (bQ (cE (VO (aD 0) (aD 1)))) fH) (bQ (cE bG)))
theorem z1e:Bq ["_law_script","_law_k","_law_cell"] ["_law_script","_law_k"] (aT EN):=dP
theorem z1f (T:Tx K mg G A):Bt P w K mg base (bN P w base) 2 A.f_qk A.fd_qk ["_law_script","_law_k"] (cU G (F_qk G.scr)):=dZ (k:=1) (N:=["_law_script","_law_k","_law_cell"]) (mb:=(yN G.scr)) T.F_qk z1e T.hK λ_ _ _ _ _ _ _ g=>(aZ (cI (i:=2) z0e (cC g (z1d T) T.m_qe T.F_qe.kp T.B_qe (aG (aD 0) (aG (aD 1) aN)))) (aZ (fI (X9 (aD 2) (CN bG bG)) (bQ (cE (fP (aG (CM (aD 2) (CN bG bG)) (aG fX aN))))) fH) (bQ (cE (fP (aG (rR (aD 2) bG) (aG fX aN)))))))
theorem z1g:Bq ["_law_state_here","_law_many","_law_found","_law_stirred"] ["_law_state_here","_law_many"] (aT EO):=dP
theorem jQ (T:Tx K mg G A):Bt P w K mg base (bN P w base) 1 A.f_qr A.fd_qr ["_law_state_here","_law_many"] (cU G F_qr):=dZ (k:=0) T.F_qr z1g T.hK λ_ _ _ _ _ _ _ g=>(aZ (fI (gF (dD (aD 0) bG)) (aZ (cI (i:=2) EX (rR (dD (aD 0) bG) (aD 1))) (aZ (J1 (aD 0) bG (K2 (dD (aD 0) bG) (aD 1))) (bQ (cE (aD 2))))) fH) (aZ (J1 (aD 0) bG (rR (fG (uC (dD (aD 0) bG) bG) bG) bG)) (aZ (cI (i:=3) EX (rR (fG (fG (uC (dD (aD 0) bG) (dD (aD 0) bG)) (uC bG (dD (aD 0) bG))) bG) bG)) (aZ (cI (i:=3) EX (rR (fG (uC (aD 3) (aD 3)) (uC bG (aD 3))) bG)) (bQ (cE (rR (K2 (aD 3) bG) (aD 1))))))))
theorem z1h:Bq ["_law_state_here","_law_things","_law_left","_law_found"] ["_law_state_here","_law_things"] (aT ER):=dP
theorem z1i (T:Tx K mg G A):Bt P w K mg base (bN P w base) 2 A.f_qb A.fd_qb ["_law_state_here","_law_things"] (cU G F_qb):=dZ (k:=1) T.F_qb z1h T.hK λ_ _ _ _ _ _ _ g=>(aZ (cI (i:=2) NV (xW rfl T.z_list (aG (aD 1) aN))) (aZ (cI (i:=3) NV (fP aN)) (aZ (KJ 40 g.own (lR g (aD 2) (fP aN)) (bQ (oG (tU (aD 3) (X0 (aD 2) (cC g (jQ T) T.m_qr T.F_qr.kp T.B_qr (aG (aD 0) (aG (kE rfl T.z_len (aG (aD 2) aN)) aN)))))))) (bQ (cE (aD 3))))))
theorem z1j:Bq Bn ["_law_pairs"] (aT zE):=dP
theorem z1k (T:Tx K mg G A):Bt P w K mg base (bN P w base) 1 A.f_qg A.fd_qg ["_law_pairs"] (cU G F_qg):=dZ (k:=0) T.F_qg z1j T.hK λ_ _ _ _ _ _ _ g=>(aZ (cI (i:=1) sC (M8 g rfl T.z_sorted rfl T.z_set (aG (aD 0) aN))) (bQ (KJ 40 g.own (gF fX) (aZ (cI (i:=2) sC (xW rfl T.z_list (aG (aD 1) aN))) (aZ (lI g.own g.calm (mX (aD 1)) (iJ g.calm (dO (bY (i:=3) sC) (dO (bY (i:=4) sC) iI))) (bQ (oG (WY (aD 2) (gO g.calm (fK (N:=["_law_c","_law_d","_law_a","_law_b"]) (cap:=[none,none,some 3,some 4]) (os:=(aT zE)) (oN:=Bn)) (mX (aD 1)) (λ_ _ _=>(iJ (cQ g).calm (dO (bY (i:=0) NW) (dO (bY (i:=1) NW) iI)))) (λ_ _ _=>(iY (pS (cQ g) (aD 3) (aD 0)))) (λ_ _ _=>(iB (aG (aD 2) (aG (aD 1) aN))))))))) (aZ (cI (i:=2) sC (M8 g rfl T.z_sorted rfl T.z_set (aG (aD 2) aN))) (aZ (fI (pS g (aD 2) (aD 1)) (bQ (cE (aD 1))) fH) (bQ (cI (i:=1) sC (aD 2))))))))))
theorem z1l:Bq Bk ["_law_state_here","_law_most"] (aT uT):=dP
theorem z1m (T:Tx K mg G A):Bt P w K mg base (bN P w base) 3 A.f_qj A.fd_qj ["_law_state_here","_law_most"] (cU G F_qj):=dZ (k:=2) T.F_qj z1l T.hK λ_ _ _ _ _ _ _ g=>(aZ (cI (i:=2) jP (CM (aD 1) (dD (qC 2) (cC g (jQ T) T.m_qr T.F_qr.kp T.B_qr (aG (aD 0) (aG bG aN)))))) (aZ (cI (i:=2) jP (JI g.calm rfl T.z_max (aG bG (aG (aD 2) aN)))) (aZ (cI (i:=3) jP (cC g (z1i T) T.m_qb T.F_qb.kp T.B_qb (aG (aD 0) (aG (M6 g rfl T.z_list rfl T.z_range (aG (aD 2) aN)) aN)))) (aZ (cI (i:=4) jP (cC g (jQ T) T.m_qr T.F_qr.kp T.B_qr (aG (aD 0) (aG bG aN)))) (aZ (cI (i:=5) jP (fP aN)) (aZ (cI (i:=6) jP (jZ (gO g.calm (fK (N:=["_law_thing","_law_state_here"]) (cap:=[none,some 0]) (os:=(aT uT)) (oN:=Bk)) (mX (aD 3)) (λ_ _ _=>(bY (i:=0) z0f)) (λ_ _ _=>lJ) (λ_ _ _=>(cC (cQ g) (jQ T) T.m_qr T.F_qr.kp T.B_qr (aG (aD 1) (aG bG aN))))))) (aZ (lI g.own g.calm (jY rfl T.z_range (aG (aD 2) aN)) (bY (i:=7) jP) (bQ (lI g.own g.calm (V0 rfl T.z_range (aG (fG (aD 7) bG) (aG (aD 2) aN))) (bY (i:=8) jP) (aZ (cI (i:=9) jP (fP (aG (oQ g (cC g (jQ T) T.m_qr T.F_qr.kp T.B_qr (aG (aD 0) (aG bG aN))) bG) (aG (oQ g (cC g (jQ T) T.m_qr T.F_qr.kp T.B_qr (aG (aD 0) (aG bG aN))) bG) (aG (X8 (cC g (jQ T) T.m_qr T.F_qr.kp T.B_qr (aG (aD 0) (aG bG aN))) bG) aN))))) (aZ (cI (i:=9) jP (fG (aD 9) (fP (aG (DJ g (dD (aD 6) (aD 7)) (dD (aD 6) (aD 8))) (aG (oQ g (dD (aD 6) (aD 7)) (dD (aD 6) (aD 8))) aN))))) (bQ (fI (gF (dD (aD 9) (aD 4))) (bQ (oG (tU (aD 5) (iB (aG (dD (aD 3) (aD 7)) (aG (dD (aD 3) (aD 8)) aN)))))) fH))))))) (aZ (fI (pS g (aD 4) bG) (aZ (cI (i:=5) jP (fP aN)) (bQ (lI g.own g.calm (jY rfl T.z_range (aG (aD 2) aN)) (bY (i:=7) jP) (bQ (cI (i:=5) jP (fG (aD 5) (jZ (gO g.calm (fK (N:=["_law_j","_law_i","_law_marks"]) (cap:=[none,some 7,some 6]) (os:=(aT uT)) (oN:=Bk)) (jY rfl T.z_range (aG (aD 2) aN)) (λ_ _ _=>(bY (i:=0) z0g)) (λ_ _ _=>(iY (DK (cQ g) (dD (aD 2) (aD 1)) (dD (aD 2) (aD 0))))) (λ_ _ _=>(iB (aG (aD 1) (aG (aD 0) aN)))))))))))) fH) (bQ (cE (iB (aG (aD 2) (aG (xC rfl T.z_tuple (aG (cC g (z1k T) T.m_qg T.F_qg.kp T.B_qg (aG (aD 5) aN)) aN)) aN)))))))))))))
theorem z1n:Bq Bm ["_law_order_here"] (aT uU):=dP
theorem z1o (T:Tx K mg G A):Bt P w K mg base (bN P w base) 1 A.f_qp A.fd_qp ["_law_order_here"] (cU G F_qp):=dZ (k:=0) T.F_qp z1n T.hK λ_ _ _ _ _ _ _ g=>(aZ (cI (i:=1) sD (qC 3)) (aZ (lI g.own g.calm (jY rfl T.z_range (aG (dD (aD 0) bG) aN)) (bY (i:=2) sD) (aZ (cI (i:=3) sD (fP aN)) (aZ (lI g.own g.calm (mX (aD 1)) (bY (i:=4) sD) (bQ (cI (i:=3) sD (fG (aD 3) (jZ (gO g.calm (fK (N:=["_law_thing","_law_row"]) (cap:=[none,some 4]) (os:=(aT uU)) (oN:=Bm)) (jY rfl T.z_range (aG (dD (aD 0) bG) aN)) (λ_ _ _=>(bY (i:=0) z0h)) (λ_ _ _=>(iY (rV (cQ g) (aD 0) (aD 1)))) (λ_ _ _=>(fG (aD 1) (iB (aG (aD 0) aN)))))))))) (bQ (cI (i:=1) sD (aD 3)))))) (bQ (cE (jZ (gO g.calm (fK (N:=["_law_row","_law_order_here"]) (cap:=[none,some 0]) (os:=(aT uU)) (oN:=Bm)) (mX (aD 1)) (λ_ _ _=>(bY (i:=0) z0i)) (λ_ _ _=>(iY (pS (cQ g) (jZ (gO (cQ g).calm (fK (N:=["_law_a","_law_b","_law_row"]) (cap:=[none,none,some 0]) (os:={ kind:=.function,names:=[(".0",.local),("_law_row",.cell),("_law_order_here",.cell)],isGenerator:=false,isCoroutine:=false }) (oN:=["_law_row","_law_order_here"])) (kR (dD (aD 1) bG)) (λ_ _ _=>(iJ (cQ (cQ g)).calm (dO (bY (i:=0) NX) (dO (bY (i:=1) NX) iI)))) (λ_ _ _=>(iY (KR (rT (aD 2) (aD 0)) (rT (aD 2) (aD 1))))) (λ_ _ _=>bG))) (fP aN)))) (λ_ _ _=>(aD 0))))))))
theorem z1p:Bq ["_law_thing"] ["_law_thing"] (aT ES):=dP
theorem z1q (T:Tx K mg G A):Bt P w K mg base (bN P w base) 1 A.f_ql A.fd_ql ["_law_thing"] (cU G F_ql):=dZ (k:=0) T.F_ql z1p T.hK λ_ _ _ _ _ _ _ g=>(bQ (cE (pJ (KS rfl T.z_isinstance rfl T.z_int (aD 0)) (pI (BO (xV rfl T.z_isinstance rfl T.z_bool (aD 0)))))))
theorem z1r:Bq ["_law_order_here","_law_thing"] ["_law_order_here","_law_thing"] (aT uV):=dP
theorem z1s (T:Tx K mg G A):Bt P w K mg base (bN P w base) 2 A.f_qh A.fd_qh ["_law_order_here","_law_thing"] (cU G F_qh):=dZ (k:=1) T.F_qh z1r T.hK λ_ _ _ _ _ _ _ g=>(aZ (fI (Gz (oF (iV (gF (rS rfl T.z_isinstance rfl T.z_tuple (aD 1)))) (pH (lR g (jZ (gO g.calm (fK (N:=["_law_one"]) (cap:=[none]) (os:=(aT uV)) (oN:=["_law_order_here","_law_thing"])) (kR (aD 1)) (λ_ _ _=>(bY (i:=0) z0j)) (λ_ _ _=>(iY (iV (gF (cC (cQ g) (z1q T) T.m_ql T.F_ql.kp T.B_ql (aG (aD 0) aN)))))) (λ_ _ _=>(aD 0)))) (fP aN))))) (bQ (cE fX)) fH) (aZ (fI (lR g (z01 rfl T.z_sorted (aG (aD 1) aN)) (M6 g rfl T.z_list rfl T.z_range (aG (dD (aD 0) bG) aN))) (bQ (cE fX)) fH) (bQ (cE (oQ g (jZ (gO g.calm (fK (N:=["_law_a","_law_b","_law_thing"]) (cap:=[none,none,some 1]) (os:=(aT uV)) (oN:=["_law_order_here","_law_thing"])) (kR (dD (aD 0) bG)) (λ_ _ _=>(iJ (cQ g).calm (dO (bY (i:=0) NY) (dO (bY (i:=1) NY) iI)))) (λ_ _ _=>(iY (KR (rT (aD 2) (aD 0)) (rT (aD 2) (aD 1))))) (λ_ _ _=>bG))) (fP aN))))))
theorem z1t:Bq Bl ["_law_state_here","_law_order_here"] (aT uW):=dP
theorem z1u (T:Tx K mg G A):Bt P w K mg base (bN P w base) 2 A.f_qd A.fd_qd ["_law_state_here","_law_order_here"] (cU G F_qd):=dZ (k:=1) T.F_qd z1t T.hK λ_ _ _ _ _ _ _ g=>(aZ (cI (i:=2) uX (iB aN)) (aZ (lI g.own g.calm (jY rfl T.z_range (aG (dD (aD 1) bG) aN)) (bY (i:=3) uX) (aZ (LD (i:=4) uX rfl g.calm (fK (N:=["_law_thing","_law_found"]) (cap:=[none,some 2]) (os:=(aT uW)) (oN:=Bl)) (jY rfl T.z_range (aG (dD (aD 1) bG) aN)) (λ_ _ _=>(bY (i:=0) z0k)) (λ_ _ _=>(iY (rV (cQ g) (aD 0) (aD 1)))) (λ_ _ _=>(aD 0))) (aZ (LD (i:=5) uX rfl g.calm (fK (N:=["_law_thing","_law_order_here","_law_found"]) (cap:=[none,some 1,some 2]) (os:=(aT uW)) (oN:=Bl)) (mX (aD 4)) (λ_ _ _=>(bY (i:=0) z0l)) (λ_ _ _=>(iY (pS (cQ g) (jZ (gO (cQ g).calm (fK (N:=["_law_a","_law_b","_law_thing","_law_found"]) (cap:=[none,none,some 0,some 2]) (os:={ kind:=.function,names:=[(".0",.local),("_law_thing",.cell),("_law_found",.cell),("_law_order_here",.cell)],isGenerator:=false,isCoroutine:=false }) (oN:=["_law_thing","_law_order_here","_law_found"])) (kR (dD (aD 1) bG)) (λ_ _ _=>(iJ (cQ (cQ g)).calm (dO (bY (i:=0) NZ) (dO (bY (i:=1) NZ) iI)))) (λ_ _ _=>(iY (Gz (IX (pS (cQ (cQ g)) (aD 1) (aD 2)) (IW (rV (cQ (cQ g)) (aD 0) (aD 3))))))) (λ_ _ _=>(aD 0)))) (fP aN)))) (λ_ _ _=>(aD 0))) (bQ (cI (i:=2) uX (fG (aD 2) (iB (aG (dD (aD 5) (cC g (jQ T) T.m_qr T.F_qr.kp T.B_qr (aG (aD 0) (aG (kE rfl T.z_len (aG (aD 5) aN)) aN)))) aN)))))))) (bQ (cE (aD 2)))))
theorem z1v:Bq ["_law_state_here","_law_row","_law_at","_law_to","_law_odd","_law_some","_law_other"] ["_law_state_here","_law_row"] (aT ET):=dP
theorem z1w (T:Tx K mg G A):Bt P w K mg base (bN P w base) 2 A.f_qc A.fd_qc ["_law_state_here","_law_row"] (cU G F_qc):=dZ (k:=1) T.F_qc z1v T.hK λ_ _ _ _ _ _ _ g=>(aZ (p8 (i:=2) (j:=3) g.calm uY rfl rfl (by decide) rfl rfl (aG (cC g (jQ T) T.m_qr T.F_qr.kp T.B_qr (aG (aD 0) (aG (kE rfl T.z_len (aG (aD 1) aN)) aN))) (aG (cC g (jQ T) T.m_qr T.F_qr.kp T.B_qr (aG (aD 0) (aG (kE rfl T.z_len (aG (aD 1) aN)) aN))) aN))) (aZ (cI (i:=4) uY (dD (fP (aG (dD (aD 1) (aD 3)) (aG (kE rfl T.z_len (aG (aD 1) aN)) (aG (CO bG) (aG fX (aG wW (aG BN (aG (qC 2) (aG (CN bG bG) (aG fX aN)))))))))) (cC g (jQ T) T.m_qr T.F_qr.kp T.B_qr (aG (aD 0) (aG bG aN))))) (aZ (cI (i:=5) uY (fP (aG (fG (fG (nM (aD 1) nA (lO (aD 2))) (iB (aG (aD 4) aN))) (nM (aD 1) (lO (fG (aD 2) bG)) nA)) (aG (fG (nM (aD 1) nA (lO (aD 2))) (nM (aD 1) (lO (fG (aD 2) bG)) nA)) (aG (fG (fG (nM (aD 1) nA (lO (aD 2))) (iB (aG (aD 4) aN))) (nM (aD 1) (lO (aD 2)) nA)) (aG (xW rfl T.z_list (aG (aD 1) aN)) (aG wW aN))))))) (aZ (cI (i:=6) uY (xW rfl T.z_list (aG (aD 1) aN))) (aZ (v9 g.calm (aD 6) (aD 2) (aD 6) (aD 3) (iB (aG (dD (aD 1) (aD 3)) (aG (dD (aD 1) (aD 2)) aN)))) (aZ (cI (i:=5) uY (fG (aD 5) (fP (aG (xC rfl T.z_tuple (aG (aD 6) aN)) (aG (xC rfl T.z_tuple (aG (aD 6) aN)) (aG (xC rfl T.z_tuple (aG (aD 6) aN)) (aG (p7 (aD 1) (lO (CO bG))) (aG (fG (nM (aD 1) (lO (aD 2)) nA) (nM (aD 1) nA (lO (aD 2)))) (aG KO (aG bG (aG (iB (aG (aD 1) aN)) (aG (aD 1) aN)))))))))))) (bQ (cE (dD (aD 5) (cC g (jQ T) T.m_qr T.F_qr.kp T.B_qr (aG (aD 0) (aG bG aN))))))))))))
theorem z1x:Bq ["_law_state_here","_law_some"] ["_law_state_here"] (aT EU):=dP
theorem z1y (T:Tx K mg G A):Bt P w K mg base (bN P w base) 2 A.f_qa A.fd_qa ["_law_state_here"] (cU G F_qa):=r9 (k:=1) T.F_qa z1x T.hK λ_ _ _ _ _ _ _ g=>(DT (r8 5 (i:=1) EY rfl (by first|exact .inl rfl|exact .inr rfl)) (DT (ND 5 (i:=1) EY rfl (by first|exact .inl rfl|exact .inr rfl) (aD 1)) (DT (ND 5 (i:=1) EY rfl (by first|exact .inl rfl|exact .inr rfl) (aD 1)) (q5 (SW.mk (cE (dD (aD 1) (cC g (jQ T) T.m_qr T.F_qr.kp T.B_qr (aG (aD 0) (aG bG aN))))))))))
theorem z1z:Bq ["_law_found","_law_due"] ["_law_found","_law_due"] (aT zF):=dP
theorem uZ (T:Tx K mg G A):∀n,Bt P w K mg base (bN P w base) n A.f_qq A.fd_qq ["_law_found","_law_due"] (cU G (F_qq n))
 |0=>YM
 |n+1=>by have okS:=uZ T n;exact dZ (N:=["_law_found","_law_due"]) (mb:=iQ (F_qq n)) T.F_qq z1z T.hK λ_ _ _ _ _ _ _ g=>(aZ (fI (gF (YK rfl T.z_isinstance rfl T.z_tuple rfl T.z_list (aD 1))) (aZ (fI (Gz (oF (lR g (rS rfl T.z_isinstance rfl T.z_tuple (aD 0)) (rS rfl T.z_isinstance rfl T.z_tuple (aD 1))) (pH (lR g (KU rfl T.z_isinstance rfl T.z_list (aD 0)) (KU rfl T.z_isinstance rfl T.z_list (aD 1)))))) (bQ (cE fX)) fH) (aZ (fI (lR g (kE rfl T.z_len (aG (aD 0) aN)) (kE rfl T.z_len (aG (aD 1) aN))) (bQ (cE fX)) fH) (bQ (cE (rM g.calm rfl T.z_all (gO g.calm (fK (N:=["_law_one","_law_other"]) (cap:=[none,none]) (os:=(aT zF)) (oN:=["_law_found","_law_due"])) (z0b rfl T.z_zip (aG (aD 0) (aG (aD 1) aN))) (λ_ _ _=>(iJ (cQ g).calm (dO (bY (i:=0) N0) (dO (bY (i:=1) N0) iI)))) (λ_ _ _=>lJ) (λ_ _ _=>(JS (cQ g) okS (ak _) rfl T.m_qq T.F_qq.kp T.B_qq (aG (aD 0) (aG (aD 1) aN)))))))))) fH) (bQ (cE (pJ (oQ g (aD 0) (aD 1)) (pI (oQ g (xV rfl T.z_isinstance rfl T.z_bool (aD 0)) (xV rfl T.z_isinstance rfl T.z_bool (aD 1))))))))
theorem z20:Bq ["_law_call","_law_error","e","_law_marks"] ["_law_call"] (aT qH):=dP
theorem z21 {k:Nat}(T:Tx K mg G A) (cdv:af) (Ar:bw) (outer:List Env) (s:ag) (H:Hp) (E₀ E:XK) (g:Good (fO (bN P w base) P w K mg base ["_law_call","_law_error","e","_law_marks"] "_law_refused" (aT qH) A.f_qf cdv Ar outer s H E₀) G E k):jJ (fO (bN P w base) P w K mg base ["_law_call","_law_error","e","_law_marks"] "_law_refused" (aT qH) A.f_qf cdv Ar outer s H E₀) G E ((hZ qH).drop 2) gL:=(aZ (cI (i:=3) zH (fP (aG (kU rfl T.z_isinstance rfl T.n_NoOrder (aD 1) (λ_ h=>by cases h) T.kt0) (aG (kU rfl T.z_isinstance rfl T.n_NoNumber (aD 1) (λ_ h=>by cases h) T.kt1) (aG (kU rfl T.z_isinstance rfl T.n_NoPairs (aD 1) (λ_ h=>by cases h) T.kt2) aN))))) (aZ (cI (i:=3) zH (fG (aD 3) (fP (aG (kU rfl T.z_isinstance rfl T.n_Round (aD 1) (λ_ h=>by cases h) T.kt3) (aG (kU rfl T.z_isinstance rfl T.n_NoThing (aD 1) (λ_ h=>by cases h) T.kt4) (aG (kU rfl T.z_isinstance rfl T.n_NoRow (aD 1) (λ_ h=>by cases h) T.kt5) aN)))))) (aZ (cI (i:=3) zH (fG (aD 3) (fP (aG (kU rfl T.z_isinstance rfl T.n_TooMany (aD 1) (λ_ h=>by cases h) T.kt6) (aG (kU rfl T.z_isinstance rfl T.n_TooFew (aD 1) (λ_ h=>by cases h) T.kt7) (aG (kU rfl T.z_isinstance rfl T.n_NoText (aD 1) (λ_ h=>by cases h) T.kt8) aN)))))) (aZ (cI (i:=3) zH (fG (aD 3) (fP (aG (kU rfl T.z_isinstance rfl T.n_NoLine (aD 1) (λ_ h=>by cases h) T.kt9) (aG (kU rfl T.z_isinstance rfl T.n_NoDeed (aD 1) (λ_ h=>by cases h) T.kt10) aN))))) (aZ (fI (iV (gF (YL rfl T.z_isinstance rfl T.z_ValueError (aD 1) (λ_ h=>by cases h) T.ktV))) (bQ (cE wW)) fH) (bQ (cE (jZ (gO g.calm (fK (N:=["_law_k","_law_marks"]) (cap:=[none,some 3]) (os:=(aT qH)) (oN:=["_law_call","_law_error","e","_law_marks"])) (jY rfl T.z_range (aG bG aN)) (λ_ _ _=>(bY (i:=0) z0m)) (λ_ _ _=>(iY (gF (dD (aD 1) (aD 0))))) (λ_ _ _=>(aD 0)))))))))))
theorem E1 {k:Nat}{Nl:Bf}{params:km}{body:bj}{scope:gq}{me:M Dv}(T:Tx K mg G A) (LS:Cd Nl scope) (hb:∀(cl:List (Str×ai)) (pm cdv ct:af),bindArgs (qf "<lambda>" G.lq params body scope cl pm cdv ct) ⟨[],[]⟩=pure [])
  (Cm:∀(f:ai) (cdv:af) (cl:List (Str×ai)) (A:bw) (outer:List Env) (s:ag) (H:Hp) (E₀ E:XK),Good (jM P w K mg base Nl G.lq scope f cdv cl A outer s H E₀) G E k->aI (jM P w K mg base Nl G.lq scope f cdv cl A outer s H E₀) G E body me):
  Bt P w K mg base (bN P w base) (k+2) A.f_qf A.fd_qf ["_law_call"] (mZ G base Nl params body scope me 4 11 gL):=
 XH T.F_qf z20 T.hK rfl rfl rfl rfl rfl rfl rfl (by decide) (by decide) (by decide) (by decide) (by decide) (λ_ _=>rfl) (λ_ _=>rfl) (λ_ _=>rfl) rfl T.n_NearError T.e1 T.e2 T.e3 T.e4 LS hb Cm (z21 T)
def E2:bj:=DX ((DW ((hZ gW).getD 0 (.Pass ⟨0,0,0,0⟩))).getD 6 (.Pass ⟨0,0,0,0⟩))
def lm0:Lm:=⟨["_law_bad"],DY E2,DZ E2,EA (aT gW) E2,[7],NK⟩
theorem ol0:LmOk (aT gW) Bj lm0:=⟨⟨rfl,rfl,rfl,by decide +kernel,by decide +kernel,by decide +kernel⟩,by decide +kernel,rfl,by decide +kernel⟩
def E3:bj:=DX ((DW ((hZ gW).getD 0 (.Pass ⟨0,0,0,0⟩))).getD 7 (.Pass ⟨0,0,0,0⟩))
def lm1:Lm:=⟨["_law_bad"],DY E3,DZ E3,EA (aT gW) E3,[7],NL⟩
theorem ol1:LmOk (aT gW) Bj lm1:=⟨⟨rfl,rfl,rfl,by decide +kernel,by decide +kernel,by decide +kernel⟩,by decide +kernel,rfl,by decide +kernel⟩
def E4:bj:=DX ((DW ((hZ gW).getD 0 (.Pass ⟨0,0,0,0⟩))).getD 8 (.Pass ⟨0,0,0,0⟩))
def lm2:Lm:=⟨["_law_bad"],DY E4,DZ E4,EA (aT gW) E4,[7],NM⟩
theorem ol2:LmOk (aT gW) Bj lm2:=⟨⟨rfl,rfl,rfl,by decide +kernel,by decide +kernel,by decide +kernel⟩,by decide +kernel,rfl,by decide +kernel⟩
def nS:Nat->Option Lm
 |0=>some lm0
 |1=>some lm1
 |2=>some lm2
 |_=>none
theorem olT:∀k L,nS k=some L->LmOk (aT gW) Bj L
 |0,_,h=>by cases h;exact ol0
 |1,_,h=>by cases h;exact ol1
 |2,_,h=>by cases h;exact ol2
 |_+3,_,h=>by cases h
theorem z22:∀k c m,yU k=some (c,m)->∃L,nS k=some L/\L.caps=c/\L.me=m
 |0,_,_,h=>by cases h;exact⟨lm0,rfl,rfl,rfl⟩
 |1,_,_,h=>by cases h;exact⟨lm1,rfl,rfl,rfl⟩
 |2,_,_,h=>by cases h;exact⟨lm2,rfl,rfl,rfl⟩
 |_+3,_,_,h=>by cases h
theorem z23 (T:Tx K mg G A):Bt P w K mg base (bN P w base) (10+2) A.f_qf A.fd_qf ["_law_call"] (mZ G base lm0.Nl lm0.par lm0.bod lm0.scp lm0.me 4 11 gL):=E1 (k:=10) T ol0.ls (λ_ _ _ _=>rfl) (λ_ _ _ _ _ _ _ _ _ g=>(cC g (EZ T) T.m_q2 T.F_q2.kp T.B_q2 (aG (aD 0) (aG (iB aN) aN))))
theorem z24 (T:Tx K mg G A):Bt P w K mg base (bN P w base) (10+2) A.f_qf A.fd_qf ["_law_call"] (mZ G base lm1.Nl lm1.par lm1.bod lm1.scp lm1.me 4 11 gL):=E1 (k:=10) T ol1.ls (λ_ _ _ _=>rfl) (λ_ _ _ _ _ _ _ _ _ g=>(cC g (N4 T) T.m_qv T.F_qv.kp T.B_qv (aG (aD 0) aN)))
theorem z25 (T:Tx K mg G A):Bt P w K mg base (bN P w base) (10+2) A.f_qf A.fd_qf ["_law_call"] (mZ G base lm2.Nl lm2.par lm2.bod lm2.scp lm2.me 4 11 gL):=E1 (k:=10) T ol2.ls (λ_ _ _ _=>rfl) (λ_ _ _ _ _ _ _ _ _ g=>(cC g (zI T) T.m_qw T.F_qw.kp T.B_qw (aG (aD 0) aN)))
theorem okL (T:Tx K mg G A):∀k L,nS k=some L->Bt P w K mg base (bN P w base) (10+2) A.f_qf A.fd_qf ["_law_call"] (mZ G base L.Nl L.par L.bod L.scp L.me 4 11 gL)
 |0,_,h=>by cases h;exact z23 T
 |1,_,h=>by cases h;exact z24 T
 |2,_,h=>by cases h;exact z25 T
 |_+3,_,h=>by cases h
theorem z26:Bq Bj ["_law_script"] (aT gW):=dP
theorem z27 (T:Tx K mg G A) (hT:∀μ n H k t a,G.clo μ n H k t a) (hC:mf base A.cc A.P) (hB:lM mg base):Bt P w K mg base (bN P w base) 14 A.f_q3 A.fd_q3 ["_law_script"] (cU G (F_q3 G.scr)):=z03 (k:=13) (N:=Bj) (ls:=nS) (mb:=yW G.scr) T.F_q3 z26 T.hK λcdv Ar outer s H E₀ E tt hcd g=>(aZ (lI g.own g.calm (jY rfl T.z_range (aG (JI g.calm rfl T.z_max (aG bG (aG (VW g.calm rfl T.z_min (aG (JG rfl T.z_len (aG (aD 0) aN)) (aG bG aN))) aN))) aN)) (bY (i:=1) lX) (aZ (cI (i:=2) lX (cC g (z1f T) T.m_qk T.F_qk.kp T.B_qk (aG (aD 0) (aG (aD 1) aN)))) (aZ (cI (i:=3) lX (cC g (z1m T) T.m_qj T.F_qj.kp T.B_qj (aG (aD 2) (aG bG aN)))) (aZ (cI (i:=4) lX (cC g (z1u T) T.m_qd T.F_qd.kp T.B_qd (aG (aD 2) (aG (aD 3) aN)))) (aZ (fI (Y5 (cC g (EZ T) T.m_q2 T.F_q2.kp T.B_q2 (aG (aD 3) (aG (aD 4) aN))) fX) (bQ (cE fX)) fH) (aZ (lI g.own g.calm (jY rfl T.z_range (aG bG aN)) (bY (i:=5) lX) (aZ (cI (i:=6) lX (cC g (z1w T) T.m_qc T.F_qc.kp T.B_qc (aG (aD 2) (aG (aD 4) aN)))) (bQ (fI (iV (gF (cC g (uZ (G:=G.wf _ tt nS) T 6) T.m_qq T.F_qq.kp T.B_qq (aG (cC g (EZ T) T.m_q2 T.F_q2.kp T.B_q2 (aG (aD 3) (aG (aD 6) aN))) (aG (cC g (z1s T) T.m_qh T.F_qh.kp T.B_qh (aG (aD 3) (aG (aD 6) aN))) aN))))) (bQ (cE fX)) fH)))) (aZ (cI (i:=7) lX (cC g (z1y T) T.m_qa T.F_qa.kp T.B_qa (aG (aD 2) aN))) (aZ (cI (i:=8) lX (fP (aG (EC (os:=aT gW) (oN:=Bj) lm0 rfl hT T.lq T.tab (hcd.symm.trans T.code) hC hB ol0) aN))) (aZ (oG (tU (aD 8) (EC (os:=aT gW) (oN:=Bj) lm1 rfl hT T.lq T.tab (hcd.symm.trans T.code) hC hB ol1))) (aZ (oG (tU (aD 8) (EC (os:=aT gW) (oN:=Bj) lm2 rfl hT T.lq T.tab (hcd.symm.trans T.code) hC hB ol2))) (aZ (fI (lR g (jZ (z0c (os:=aT gW) (oN:=Bj) g (j:=10+2) (by decide) (λ_=>rfl) (fK (N:=["_law_call"]) (cap:=[none]) (os:=(aT gW)) (oN:=Bj)) (mX (aD 8)) (λ_ _ _=>(bY (i:=0) z0n)) (λk L h base _ _=>okL (G:=G.wf _ tt nS) T k L h) T.m_qf T.F_qf.kp T.B_qf olT z22)) (YV (qC 3) bG)) (bQ (cE fX)) fH) (bQ (fI (DK g (aD 1) bG) (aZ (cI (i:=9) lX (cC g (z1o T) T.m_qp T.F_qp.kp T.B_qp (aG (aD 3) aN))) (aZ (cI (i:=10) lX (cC g (zI T) T.m_qw T.F_qw.kp T.B_qw (aG (aD 3) aN))) (aZ (fI (Gz (oF (iV (gF (cC g (uZ (G:=G.wf _ tt nS) T 6) T.m_qq T.F_qq.kp T.B_qq (aG (aD 10) (aG (aD 9) aN))))) (pH (iV (gF (cC g (uZ (G:=G.wf _ tt nS) T 6) T.m_qq T.F_qq.kp T.B_qq (aG (cC g (N4 T) T.m_qv T.F_qv.kp T.B_qv (aG (aD 3) aN)) (aG (kE rfl T.z_len (aG (aD 9) aN)) aN)))))))) (bQ (cE fX)) fH) (aZ (oG (tU (aD 10) (iB aN))) (bQ (fI (iV (gF (cC g (uZ (G:=G.wf _ tt nS) T 6) T.m_qq T.F_qq.kp T.B_qq (aG (cC g (zI T) T.m_qw T.F_qw.kp T.B_qw (aG (aD 3) aN)) (aG (aD 9) aN))))) (bQ (cE fX)) fH)))))) fH))))))))))))) (bQ (cE fX)))
end
end L2.Mr.K04
namespace L2.Mr
section
variable{H:Hs}{j:Nat}{up up1:Bd}{b v:Int}{ρ:Ev}{x:Nat}
end
section
variable{d:Dv}{r:Int}{i j:Nat}{fs:Bd}
end
theorem N5:∀xs ys:Bd,eJ (xs.map Gs) (ys.map Gs)=decide (xs=ys)
 | [],[]=>by simp[eJ]
 | [],y::ys=>by simp[eJ]
 |x::xs,[]=>by simp[eJ]
 |x::xs,y::ys=>by simp only[da,eJ,N5 xs ys,bD];rw[cw];simp
theorem eq_ints {H:Hs}{i j:Nat}{xs ys:Bd}(ei:getL H i=some (xs.map Fx)) (ej:getL H j=some (ys.map Fx)):bT (.ref i) (.ref j) H=.ok (.bl (decide (xs=ys))) H:=by
 have p:∀(i:Nat) (xs:Bd),getL H i=some (xs.map Fx)->bC bZ H (.ref i)=some (.lst (xs.map Gs)):=λi xs e=>by show bC (28+1+1) H (.ref i)=_;rw[bC];simp only[e,pW]
 unfold bT;rw[p i xs ei,p j ys ej];simp only[bD,N5]
section
variable{d:Dv}{n r:Int}{ps qs:y'}{Fl:Bg}
end
theorem vA {α:Type}{src:Src}{sg:dE}{t:M Bool}{m:MC}(xs:List α) (out:α->Bh) (S:Ev->Hs->Prop)
  (fin:∀ρ h,S ρ h->src.fin h=true)
  (step:∀k (hk:k<xs.length) ρ h,S ρ h->∃d ρ1,src.get k h=some d/\sg d ρ=some ρ1 /\
   ((∃h2,t ρ1 h=.ok false h2/\out xs[k]=[]/\S ρ1 h2)∨∃h2,t ρ1 h=.ok true h2/\∀acc:Bh,acc.length+(out xs[k]).length<=900000->∃ρ3 h3,m ρ1 h2 acc=.ok (ρ3,acc++out xs[k]) h3/\S ρ3 h3)):
  ∀(f k:Nat) (ρ:Ev) (h:Hs) (acc:Bh),f+k=xs.length->S ρ h->acc.length+((xs.drop k).flatMap out).length<=900000->∃ρ' h',eM src sg t m f k ρ h acc=.ok (ρ',acc++(xs.drop k).flatMap out) h'/\S ρ' h'
 |0,k,ρ,h,acc,e,s,hl=>by have:xs.drop k=[]:=List.drop_eq_nil_of_le (by omega);exact⟨ρ,h,by simp[eM,fin ρ h s,this],s⟩
 |f+1,k,ρ,h,acc,e,s,hl=>by
  have hk:k<xs.length:=by omega
  obtain⟨d,ρ1,e1,e2,e3⟩:=step k hk ρ h s;rw[List.drop_eq_getElem_cons hk,ij]at hl ⊢;rw[bx]at hl
  rcases e3 with⟨h2,e3,e4,s2⟩|⟨h2,e3,e4⟩
  ·obtain⟨ρ',h',e5,s5⟩:=vA xs out S fin step f (k+1) ρ1 h2 acc (by omega) s2 (by omega);exact⟨ρ',h',by simp[eM,e1,e2,e3,e4,e5],s5⟩
  ·obtain⟨ρ3,h3,e6,s3⟩:=e4 acc (by omega);obtain⟨ρ',h',e5,s5⟩:=vA xs out S fin step f (k+1) ρ3 h3 (acc++out xs[k]) (by omega) s3 (by rw[bx];omega);exact⟨ρ',h',by simp[eM,e1,e2,e3,e6,e5],s5⟩
theorem vB {α:Type}{mi:M Src}{cap:List (Option Nat)}{src:Src}{sg:dE}{t:M Bool}{m:MC}{ρ:Ev}{H H1:Hs}(xs:List α) (out:α->Bh) (S:Ev->Hs->Prop)
  (hi:mi ρ H=.ok src H1) (hn:src.n=xs.length) (s0:S (jL cap ρ) H1) (fin:∀ρ h,S ρ h->src.fin h=true)
  (step:∀k (hk:k<xs.length) ρ h,S ρ h->∃d ρ1,src.get k h=some d/\sg d ρ=some ρ1 /\
   ((∃h2,t ρ1 h=.ok false h2/\out xs[k]=[]/\S ρ1 h2)∨∃h2,t ρ1 h=.ok true h2/\∀acc:Bh,acc.length+(out xs[k]).length<=900000->∃ρ3 h3,m ρ1 h2 acc=.ok (ρ3,acc++out xs[k]) h3/\S ρ3 h3))
  (hl:(xs.flatMap out).length<=900000):∃ρ' H',bM mi cap sg t m ρ H=.ok (xs.flatMap out) H'/\S ρ' H':=by
 obtain⟨ρ',h',e,s⟩:=vA xs out S fin step xs.length 0 (jL cap ρ) H1 [] (by omega) s0 (by simpa using hl);refine⟨ρ',h', ?_,s⟩;unfold bM;rw[hi,Rs.bind_ok,hn,e];simp
theorem vC {e:M Dv}{ρ:Ev}{h h1:Hs}{d:Dv}{acc:Bh}(he:e ρ h=.ok d h1) (hl:acc.length+[d].length<=900000):bA e ρ h acc=.ok (ρ,acc++[d]) h1:=by
 have:acc.length<1000000:=by simp at hl;omega
 simp[bA,he,this]
theorem gX {α:Type}{mi:M Src}{cap:List (Option Nat)}{src:Src}{sg:dE}{t:M Bool}{e:M Dv}{ρ:Ev}{H H1:Hs}(xs:List α) (g:α->Bi) (S:Ev->Prop)
  (hi:mi ρ H=.ok src H1) (hn:src.n=xs.length) (s0:S (jL cap ρ)) (fin:src.fin H1=true)
  (step:∀k (hk:k<xs.length) ρ,S ρ->∃d ρ1,src.get k H1=some d/\sg d ρ=some ρ1/\S ρ1/\match g xs[k]with
   |none=>t ρ1 H1=.ok false H1
   |some v=>t ρ1 H1=.ok true H1/\e ρ1 H1=.ok v H1)
  (hl:xs.length<=900000):bM mi cap sg t (bA e) ρ H=.ok (xs.filterMap g) H1:=by
 have fm:∀l:List α,l.flatMap (λx=>(g x).toList)=l.filterMap g:=λl=>by
  induction l with
  |nil=>rfl
  |cons x l ih=>rw[ij,ih,cf];cases g x <;> rfl
 have len:(xs.filterMap g).length<=xs.length:=nq g xs;obtain⟨ρ',H',h,_,rfl⟩:=vB (mi:=mi) (cap:=cap) (src:=src) (sg:=sg) (t:=t) (m:=bA e) (ρ:=ρ) (H:=H) (H1:=H1) xs (λx=>(g x).toList) (λρ h=>S ρ/\h=H1) hi hn ⟨s0,rfl⟩ (λρ h s=>by rw[s.2];exact fin)
  (λk hk ρ h ⟨s,e1⟩=>by
   subst e1;obtain⟨d,ρ1,e1,e2,s1,e3⟩:=step k hk ρ s;refine⟨d,ρ1,e1,e2, ?_⟩
   cases q:g xs[k]with
   |none=>rw[q]at e3;exact .inl ⟨h,e3,rfl,s1,rfl⟩
   |some v=>rw[q]at e3;exact .inr ⟨h,e3.1,λacc hl=>⟨ρ1,h,vC e3.2 hl,s1,rfl⟩⟩) (by rw[fm];omega)
 rw[h,fm]
theorem z28 {α β:Type}{mi mj:M Src}{cap:List (Option Nat)}{src:Src}{sg sg2:dE}{t2:M Bool}{e:M Dv}{ρ:Ev}{H H1:Hs}(xs:List α) (ys:α->List β) (g:α->β->Bi) (S:Ev->Prop)
  (hi:mi ρ H=.ok src H1) (hn:src.n=xs.length) (s0:S (jL cap ρ)) (fin:src.fin H1=true)
  (step:∀k (hk:k<xs.length) ρ,S ρ->∃(d:Dv) (ρ1:Ev) (src2:Src) (S2:Ev->Prop),src.get k H1=some d/\sg d ρ=some ρ1/\S2 ρ1/\(∀ρ,S2 ρ->S ρ)/\mj ρ1 H1=.ok src2 H1/\src2.n=(ys xs[k]).length/\src2.fin H1=true /\
   ∀j (hj:j<(ys xs[k]).length) ρ,S2 ρ->∃d ρ2,src2.get j H1=some d/\sg2 d ρ=some ρ2/\S2 ρ2/\match g xs[k] (ys xs[k])[j]with
    |none=>t2 ρ2 H1=.ok false H1
    |some v=>t2 ρ2 H1=.ok true H1/\e ρ2 H1=.ok v H1)
  (hl:(xs.flatMap λx=>(ys x).filterMap (g x)).length<=900000):bM mi cap sg cT (jK mj sg2 t2 (bA e)) ρ H=.ok (xs.flatMap λx=>(ys x).filterMap (g x)) H1:=by
 have fm:∀(x:α) (l:List β),l.flatMap (λy=>(g x y).toList)=l.filterMap (g x):=λx l=>by
  induction l with
  |nil=>rfl
  |cons y l ih=>rw[ij,ih,cf];cases g x y <;> rfl
 obtain⟨ρ',H',h,_,rfl⟩:=vB (mi:=mi) (cap:=cap) (src:=src) (sg:=sg) (t:=cT) (m:=jK mj sg2 t2 (bA e)) (ρ:=ρ) (H:=H) (H1:=H1) xs (λx=>(ys x).filterMap (g x)) (λρ h=>S ρ/\h=H1) hi hn ⟨s0,rfl⟩ (λρ h s=>by rw[s.2];exact fin)
  (λk hk ρ h ⟨s,e1⟩=>by
   subst e1;obtain⟨d,ρ1,src2,S2,e1,e2,s1,sS,e3,e4,e5,e6⟩:=step k hk ρ s;refine⟨d,ρ1,e1,e2,.inr ⟨h,rfl,λacc hl=>?_⟩⟩;obtain⟨ρ3,h3,r,s3,rfl⟩:=vA (src:=src2) (sg:=sg2) (t:=t2) (m:=bA e) (ys xs[k]) (λy=>(g xs[k] y).toList) (λρ hh=>S2 ρ/\hh=h) (λρ hh s=>by rw[s.2];exact e5)
    (λj hj ρ hh ⟨s,e1⟩=>by
     subst e1;obtain⟨d,ρ2,z1,z2,z3,z4⟩:=e6 j hj ρ s;refine⟨d,ρ2,z1,z2, ?_⟩
     cases q:g xs[k] (ys xs[k])[j]with
     |none=>rw[q]at z4;exact .inl ⟨hh,z4,rfl,z3,rfl⟩
     |some v=>rw[q]at z4;exact .inr ⟨hh,z4.1,λacc hl=>⟨ρ2,hh,vC z4.2 hl,z3,rfl⟩⟩) (ys xs[k]).length 0 ρ1 h acc (by omega) ⟨s1,rfl⟩ (by rw[uy,fm];exact hl)
   refine⟨ρ3,h3, ?_,sS ρ3 s3,rfl⟩;unfold jK;rw[e3];dsimp only;rw[e4,r,uy,fm]) hl
 exact h
theorem z29 {c:M Bool}{b:MS}{f:Nat}{ρ:Ev}{h h1:Hs}(e:c ρ h=.ok false h1):iN c b (f+1) ρ h=.nx ρ h1:=by show(c ρ h).thenS _=_;rw[e];rfl
theorem N6 {c:M Bool}{b:MS}{f:Nat}{ρ ρ2:Ev}{h h1 h2:Hs}(e:c ρ h=.ok true h1) (q:b ρ h1=.nx ρ2 h2):iN c b (f+1) ρ h=iN c b f ρ2 h2:=by show(c ρ h).thenS _=_;rw[e];simp[Rs.thenS,q]
theorem z2a {c:M Bool}{b:MS}{f:Nat}{ρ:Ev}{d:Dv}{h h1 h2:Hs}(e:c ρ h=.ok true h1) (q:b ρ h1=.rt d h2):iN c b (f+1) ρ h=.rt d h2:=by show(c ρ h).thenS _=_;rw[e];simp[Rs.thenS,q]
theorem zJ:∀bs:List Bool,bP oJ (bs.map Gw)=some bs
 | []=>rfl
 |b::bs=>by rw[da,bP,zJ bs];rfl
end L2.Mr
namespace L2.Mr.Com
def aM (n:Nat) (ps:y'):Dv:=.tup [.int n,.tup (ps.map aK)]
theorem N7 {n:Nat}{ps:y'}(H:Hs):aU (aM n ps) (.int 0) H=.ok (.int n) H:=rfl
theorem qI {α:Type}{ml:M Bh }{ρ:Ev}{H H1:Hs}{xs:List α}{f:α->Bool}(h:ml ρ H=.ok (xs.filterMap λx=>some (.bl (f x))) H1):mL iL ml ρ H=.ok (.bl (xs.all f)) H1:=by
 have e:(xs.filterMap λx=>some (Gw (f x)))=(xs.map f).map Gw:=by simp
 unfold mL;rw[h,Rs.bind_ok,e];unfold iL;rw[zJ];simp[List.all_map]
theorem z2b {α:Type}{ml:M Bh }{ρ:Ev}{H H1:Hs}{xs:List α}{f:α->Bool}(h:ml ρ H=.ok (xs.filterMap λx=>some (.bl (f x))) H1):mL tT ml ρ H=.ok (.bl (xs.any f)) H1:=by
 have e:(xs.filterMap λx=>some (Gw (f x)))=(xs.map f).map Gw:=by simp
 unfold mL;rw[h,Rs.bind_ok,e];unfold tT;rw[zJ];simp[wk]
section
variable{H:Hs}{n x:Int}{ps:y'}
theorem N8:F_qz [.int x] H=.ok (.bl true) H:=by simp[F_qz,DN,aY,bW,aO,eK,m1,aA,aV,fY,oR,kD,mV,bK]
theorem E5 {lo hi:Int}:F_qn [.int x,.int lo,.int hi] H=.ok (.bl (decide (lo<=x)&&decide (x<=hi))) H:=by
 by_cases h:lo<=x
 ·simp[F_qn,yK,aY,bW,aO,eK,aF,aB,aA,aC,N8,qZ,rQ,iH,h,bK]
 ·simp[F_qn,yK,aY,bW,aO,eK,aF,aB,aA,aC,N8,qZ,rQ,iH,h,bK]
def eX (n x:Int):Bool:=decide (0<=x)&&decide (x<=n - 1)
theorem z2c:F_qy [.int n,.int x] H=.ok (.bl (eX n x)) H:=by simp[F_qy,DO,aY,bW,aO,aF,aB,aA,aC,mC,m2,nE,iH,E5,bK,eX]
theorem z2d {xs:Bd}(hl:xs.length<=1000):F_qm [.int n,.tup (xs.map Fx)] H=.ok (.bl (xs.all (eX n))) H:=by have h:bM (bF dY (aA 1)) [none,some 0] (aE 0) cT (bA (aF F_qy (aB (aA 1) (aB (aA 0) aC)))) [some (.int n),some (.tup (xs.map Fx))] H=.ok (xs.filterMap λx=>some (.bl (eX n x))) H:=gX xs (λx=>some (.bl (eX n x))) (λρ=>∃a,ρ=[a,some (.int n)]) rfl (by simp[cV]) ⟨_,rfl⟩ rfl (λk hk ρ ⟨a,e⟩=>by subst e;exact⟨.int xs[k],_,by simp[cV,hk],rfl,⟨_,rfl⟩,rfl,by simp[aF,aB,aA,aC,z2c]⟩) (by omega);simp[F_qm,yL,aY,bW,aO,eK,m1,aV,aA,fY,eY,qI h,bK]
def lY (n:Int) (p:Int×Int):Bool:=eX n p.1&&eX n p.2
theorem z2e (p:Int×Int):F_q1 [.int n,aK p] H=.ok (.bl (lY n p)) H:=by
 have h:F_qm [.int n,aK p] H=.ok (.bl (lY n p)) H:=by have:=z2d (H:=H) (n:=n) (xs:=[p.1,p.2]) (by simp);simpa[aK,lY]using this
 have hlen:f1 bX [aK p] H=.ok (.int 2) H:=rfl
 cases q:lY n p with
 |false=>simp[F_q1,rZ,aY,bW,aO,eK,aF,aB,aA,aC,h,q,bK]
 |true=>simp[F_q1,rZ,aY,bW,aO,eK,aF,aB,aA,aC,h,q,bK,m2,hlen,mC,bT,bZ,bC,bD]
theorem z2f (hl:ps.length<=1000):F_qs [.int n,.tup (ps.map aK)] H=.ok (.bl (ps.all (lY n))) H:=by have h:bM (bF dY (aA 1)) [none,some 0] (aE 0) cT (bA (aF F_q1 (aB (aA 1) (aB (aA 0) aC)))) [some (.int n),some (.tup (ps.map aK))] H=.ok (ps.filterMap λp=>some (.bl (lY n p))) H:=gX ps (λp=>some (.bl (lY n p))) (λρ=>∃a,ρ=[a,some (.int n)]) rfl (by simp[cV]) ⟨_,rfl⟩ rfl (λk hk ρ ⟨a,e⟩=>by subst e;exact⟨aK ps[k],_,by simp[cV,hk],rfl,⟨_,rfl⟩,rfl,by simp[aF,aB,aA,aC,z2e]⟩) (by omega);simp[F_qs,DP,aY,bW,aO,qI h,bK]
theorem z2g (hl:ps.length<=1000):F_qt [.tup (ps.map aK)] H=.ok (.bl (ps.any λp=>decide (p.1=p.2))) H:=by have h:bM (bF dY (aA 0)) [none,none] (cH 2 (aX (aE 0) (aX (aE 1) cJ))) cT (bA (m2 bT (aA 0) (aA 1))) [some (.tup (ps.map aK))] H=.ok (ps.filterMap λp=>some (.bl (decide (p.1=p.2)))) H:=gX ps (λp=>some (.bl (decide (p.1=p.2)))) (λρ=>∃a b,ρ=[a,b]) rfl (by simp[cV]) ⟨_,_,rfl⟩ rfl (λk hk ρ ⟨a,b,e⟩=>by subst e;refine⟨aK ps[k],[some (.int ps[k].1),some (.int ps[k].2)],by simp[cV,hk],rfl,⟨_,_,rfl⟩,rfl, ?_⟩;simp[m2,aA,bT,bZ,bC,bD];rw[cw];simp) (by omega);simp[F_qt,NA,aY,bW,aO,z2b h,bK]
theorem z2h (p q:Int×Int):eZ (aK p) (aK q) H=.ok (.bl (eR p q)) H:=by simp only[eZ,aK,bP,gB,M4];rw[<-uL];rfl
def lZ (ps:y'):Bool:=(ps.zip (ps.drop 1)).all λq=>eR q.1 q.2
theorem Ei:∀{ps:y'},lZ ps=true↔fT eR ps
 | []=>by simp[lZ,fT]
 | [p]=>by simp[lZ,fT]
 |p::q::r=>by
  have ih:=Ei (ps:=q::r);have e:lZ (p::q::r)=(eR p q&&lZ (q::r)):=by simp[lZ]
  rw[e,cx,ih];constructor
  ·rintro ⟨h1,h2⟩
   refine dv.mpr ⟨λz hz=>?_,h2⟩
   rcases az.mp hz with rfl|hz
   ·exact h1
   ·exact Dw.tr _ _ _ h1 ((dv.mp h2).1 z hz)
  ·intro h;have:=dv.mp h;exact⟨this.1 q (by simp),this.2⟩
theorem z2i (ds:Bh):kA ds (some 1) none=ds.drop 1:=by
 unfold kA;rw[show HT.sIx ds.length 0 (some 1)=min 1 ds.length from HT.sIx_nat ds.length 0 1,HT.sIx_none]
 cases ds with
 |nil=>rfl
 |cons a r=>simp
theorem z2j (hl:ps.length<=1000):F_qu [.tup (ps.map aK)] H=.ok (.bl (lZ ps)) H:=by
 have hi:aR rN (aB (aA 0) (aB (gK (aA 0) (fS (mC (.int 1))) gI) aC)) [some (.tup (ps.map aK))] H=.ok (lL (ps.map aK) ((ps.drop 1).map aK)) H:=by simp[aR,aB,aA,gK,fS,mC,rP,gI,pZ,aC,rN,z2i,vp]
 have hz:((ps.map aK).zip ((ps.drop 1).map aK)).map (λq=>Gy [q.1,q.2])=(ps.zip (ps.drop 1)).map λq=>Gy [aK q.1,aK q.2]:=by rw[List.zip_map,kh];rfl
 have h:bM (aR rN (aB (aA 0) (aB (gK (aA 0) (fS (mC (.int 1))) gI) aC))) [none,none] (cH 2 (aX (aE 0) (aX (aE 1) cJ))) cT (bA (m2 eZ (aA 0) (aA 1))) [some (.tup (ps.map aK))] H=.ok ((ps.zip (ps.drop 1)).filterMap λq=>some (.bl (eR q.1 q.2))) H:=
  gX (ps.zip (ps.drop 1)) (λq=>some (.bl (eR q.1 q.2))) (λρ=>∃a b,ρ=[a,b]) hi (by simp[lL,cV]) ⟨_,_,rfl⟩ rfl (λk hk ρ ⟨a,b,e⟩=>by
   subst e;refine⟨.tup [aK (ps.zip (ps.drop 1))[k].1,aK (ps.zip (ps.drop 1))[k].2],[some (aK (ps.zip (ps.drop 1))[k].1),some (aK (ps.zip (ps.drop 1))[k].2)], ?_,rfl,⟨_,_,rfl⟩,rfl, ?_⟩
   ·show(((ps.map aK).zip ((ps.drop 1).map aK)).map (λq=>Gy [q.1,q.2]))[k]?=_;rw[hz,dj,ba hk];rfl
   ·simp only[m2,aA];exact z2h _ _) (by rw[List.length_zip];omega)
 simp[F_qu,M9,aY,bW,aO,qI h,bK,lZ]
def vD (ps:y'):Bool:=ps.all λp=>ps.all λq=>!decide (p.2=q.1)||decide ((p.1,q.2)∈ps)
theorem z2k (hl:ps.length<=900):F_qi [.tup (ps.map aK)] H=.ok (.bl (vD ps)) H:=by
 let g:Int×Int->Int×Int->Bi:=λp q=>if p.2=q.1 then some (.bl (decide ((p.1,q.2)∈ps)))else none
 have h:bM (bF dY (aA 0)) [none,none,none,none,some 0] (cH 2 (aX (aE 0) (aX (aE 1) cJ))) cT (jK (bF dY (aA 4)) (cH 2 (aX (aE 2) (aX (aE 3) cJ))) (mB (m2 bT (aA 1) (aA 2))) (bA (m2 (dW false) (aL (aB (aA 0) (aB (aA 3) aC))) (aA 4)))) [some (.tup (ps.map aK))] H=.ok (ps.flatMap λp=>ps.filterMap (g p)) H:=
  z28 ps (λ_=>ps) g (λρ=>∃a b c d,ρ=[a,b,c,d,some (.tup (ps.map aK))]) rfl (by simp[cV]) ⟨_,_,_,_,rfl⟩ rfl (λk hk ρ ⟨a,b,c,d,e⟩=>by
   subst e;refine⟨aK ps[k],[some (.int ps[k].1),some (.int ps[k].2),c,d,some (.tup (ps.map aK))],cV (ps.map aK),λρ=>∃c d,ρ=[some (.int ps[k].1),some (.int ps[k].2),c,d,some (.tup (ps.map aK))],by simp[cV,hk],rfl,⟨_,_,rfl⟩,λρ ⟨c,d,e⟩=>⟨_,_,_,_,e⟩,rfl,by simp[cV],rfl,λj hj ρ ⟨c,d,e⟩=>?_⟩;subst e;refine⟨aK ps[j],[some (.int ps[k].1),some (.int ps[k].2),some (.int ps[j].1),some (.int ps[j].2),some (.tup (ps.map aK))],by simp[cV,hj],rfl,⟨_,_,rfl⟩, ?_⟩;have te:mB (m2 bT (aA 1) (aA 2)) [some (.int ps[k].1),some (.int ps[k].2),some (.int ps[j].1),some (.int ps[j].2),some (.tup (ps.map aK))] H=.ok (decide (ps[k].2=ps[j].1)) H:=by simp[mB,m2,aA,bT,bZ,bC,bD,dF];rw[cw];simp
   by_cases c1:ps[k].2=ps[j].1
   ·rw[decide_eq_true c1]at te;have hg:g ps[k] ps[j]=some (.bl (decide ((ps[k].1,ps[j].2)∈ps))):=if_pos c1;rw[hg];refine⟨te, ?_⟩;have hx:aL (aB (aA 0) (aB (aA 3) aC)) [some (.int ps[k].1),some (.int ps[k].2),some (.int ps[j].1),some (.int ps[j].2),some (.tup (ps.map aK))] H=.ok (aK (ps[k].1,ps[j].2)) H:=rfl;unfold m2;rw[hx,Rs.bind_ok];show(Gp (Gy (ps.map aK)) H).bind _=_;rw[Rs.bind_ok,Y6];rfl
   ·rw[decide_eq_false c1]at te;have hg:g ps[k] ps[j]=none:=if_neg c1;rw[hg];exact te) (by
   have:∀l:y',(l.flatMap λp=>ps.filterMap (g p)).length<=l.length*ps.length:=λl=>by
    induction l with
    |nil=>simp
    |cons p l ih=>rw[ij,bx,dg,wy];have:=nq (g p) ps;omega
   have h2:=this ps;have h3:ps.length*ps.length<=900*900:=ou hl hl;omega)
 have hb:(ps.flatMap λp=>ps.filterMap (g p))=(ps.flatMap λp=>ps.filterMap λq=>if p.2=q.1 then some (decide ((p.1,q.2)∈ps))else none).map Gw:=by
  rw[List.map_flatMap]
  congr 1
  funext p
  rw[List.map_filterMap]
  congr 1
  funext q
  show(if p.2=q.1 then some (Gw (decide ((p.1,q.2)∈ps)))else none)=_
  split <;> rfl
 have Cn:mL iL (bM (bF dY (aA 0)) [none,none,none,none,some 0] (cH 2 (aX (aE 0) (aX (aE 1) cJ))) cT (jK (bF dY (aA 4)) (cH 2 (aX (aE 2) (aX (aE 3) cJ))) (mB (m2 bT (aA 1) (aA 2))) (bA (m2 (dW false) (aL (aB (aA 0) (aB (aA 3) aC))) (aA 4))))) [some (.tup (ps.map aK))] H=.ok (.bl (vD ps)) H:=by
  unfold mL;rw[h,Rs.bind_ok,hb];unfold iL;rw[zJ];dsimp only
  congr 2
  rw[cw];unfold vD;simp only[ey,tq,jz,id];constructor
  ·intro h p hp q hq
   by_cases c:p.2=q.1
   ·have:=h (decide ((p.1,q.2)∈ps)) ⟨p,hp,q,hq,if_pos c⟩;simp[c,this]
   ·simp[c]
  ·rintro h b ⟨p,hp,q,hq,e⟩
   have:=h p hp q hq
   by_cases c:p.2=q.1
   ·rw[if_pos c]at e;cases e;simpa[c]using this
   ·rw[if_neg c]at e;cases e
 simp[F_qi,NB,aY,bW,aO,Cn,bK]
def sE (n:Int) (ps:y'):Bool:=decide (1<=n)&&decide (n<=6)&&ps.all (lY n)&&lZ ps&&!(ps.any λp=>decide (p.1=p.2))&&vD ps
theorem N9 {n:Int}(hl:ps.length<=900):F_qx [.tup [.int n,.tup (ps.map aK)]] H=.ok (.bl (sE n ps)) H:=by
 have b:=E5 (H:=H) (x:=n) (lo:=1) (hi:=6);have p1:=z2f (H:=H) (n:=n) (ps:=ps) (by omega);have p2:=z2j (H:=H) (ps:=ps) (by omega);have p3:=z2g (H:=H) (ps:=ps) (by omega);have p4:=z2k (H:=H) (ps:=ps) hl;have hlen:f1 bX [.tup [.int n,.tup (ps.map aK)]] H=.ok (.int 2) H:=rfl;unfold sE;generalize (decide (1<=n)&&decide (n<=6))=c0 at b ⊢;generalize ps.all (lY n)=c1 at p1 ⊢;generalize lZ ps=c2 at p2 ⊢;generalize (ps.any λp=>decide (p.1=p.2))=c3 at p3 ⊢;generalize vD ps=c4 at p4 ⊢
 cases c0 <;> cases c1 <;> cases c2 <;> cases c3 <;> cases c4 <;>
  simp[F_qx,qB,aY,bW,aH,bS,dU,cO,bO,m1,aV,aA,fY,eY,fF,mB,m2,aF,aB,aC,hlen,mC,cD,bZ,bC,bD,dF,cA,aJ,cH,aX,aE,cJ,b,p1,p2,p3,p4,aO,eK,mV,bK]
end
structure By (n:Nat) (ps:y'):Prop where
 n1:1<=n
 n6:n<=6
 rng:∀p∈ps,0<=p.1/\p.1<n/\0<=p.2/\p.2<n
 rise:fT eR ps
 irr:∀p∈ps,p.1≠p.2
 tr:∀p∈ps,∀q∈ps,p.2=q.1->(p.1,q.2)∈ps
section
variable{n:Nat}{ps:y'}{H:Hs}
def E6 (n:Nat):y':=(bo n).flatMap λa:Nat=>(bo n).map λb:Nat=>((a:Int),(b:Int))
theorem z2l (n:Nat):(E6 n).length=n*n:=by
 unfold E6;have:∀l:Be,(l.flatMap λa:Nat=>(bo n).map λb:Nat=>((a:Int),(b:Int))).length=l.length*n:=λl=>by
  induction l with
  |nil=>simp
  |cons a l ih=>rw[ij,bx,ih,dg,wy];simp;omega
 rw[this];simp
theorem z2m {p:Int×Int}(h:0<=p.1/\p.1<n/\0<=p.2/\p.2<n):p∈E6 n:=by obtain⟨a,b⟩:=p;simp only at h;refine tq.mpr ⟨a.toNat,bu.mpr (by omega),cp.mpr ⟨b.toNat,bu.mpr (by omega), ?_⟩⟩;simp;omega
theorem vE (hr:fT eR ps) (hp:∀p∈ps,0<=p.1/\p.1<n/\0<=p.2/\p.2<n):ps.length<=n*n:=by rw[<-z2l n];exact(uK Dw hr).length_le_of_subset λp h=>z2m (hp p h)
theorem By.len (o:By n ps):ps.length<=36:=by have h1:=vE o.rise o.rng;have h2:n*n<=6*6:=ou o.n6 o.n6;omega
theorem By.b (o:By n ps):sE n ps=true:=by
 have h1:=o.n1;have h6:=o.n6;unfold sE;simp only[cx,decide_eq_true_eq,rz];refine⟨⟨⟨⟨⟨by omega,by omega⟩, ?_⟩,Ei.mpr o.rise⟩, ?_⟩, ?_⟩
 ·refine ey.mpr λp hp=>?_;have:=o.rng p hp;simp[lY,eX];omega
 ·refine List.any_eq_false.mpr λp hp=>?_;simpa using o.irr p hp
 ·refine ey.mpr λp hp=>ey.mpr λq hq=>?_
  by_cases c:p.2=q.1
  ·simp[c,o.tr p hp q hq c]
  ·simp[c]
theorem z2n (o:By n ps):F_qx [aM n ps] H=.ok (.bl true) H:=by have:=N9 (H:=H) (n:=(n:Int)) (ps:=ps) (by have:=o.len;omega);rw[o.b]at this;exact this
end
theorem z2o (H:Hs) (n:Nat) (a:Int) (b:Bool) (m:Int) (h0:0<m) (h1:m<18446744073709551616) (e:getL H n=some [.int a,.bl b]):
  ∃r a',0<=r/\r<m/\F_qr [.ref n,.int m] H=.ok (.int r) (H.set n (.lst [.int a',.bl b])):=by
 cases b with
 |true=>refine⟨a % m,a / m,Int.emod_nonneg _ (by omega),Int.emod_lt_of_pos _ h0, ?_⟩;simp[F_qr,DQ,aY,bW,aH,bS,bO,m2,aA,mC,aU,eQ,gG,e,jX,gD,eI,fF,aJ,lQ,lG,rD,h0,aE,tV,uE,uD,h1,jA,aO,bK]
 |false=>
  have q1:∀ys,getL (H.set n (.lst ys)) n=some ys:=λys=>kW e;generalize hs:(a*48271+29) % 2147483647=s;have s0:0<=s:=by omega
  have s1:s<2147483647:=by omega
  generalize ht:(s*s+39373*s+7) % 2147483629=t;have t0:0<=t:=by omega
  have t1:t<2147483629:=by omega
  generalize hu:(t*t+16807*t) % 2147483587=u;refine⟨u / 8 % m,s,Int.emod_nonneg _ (by omega),Int.emod_lt_of_pos _ h0, ?_⟩;have w1:jI s=true:=by simp[jI];omega
  have w2:jI t=true:=by simp[jI];omega
  have w3:jI 48271=true:=by decide
  have w4:jI 39373=true:=by decide
  have w5:jI 16807=true:=by decide
  simp[F_qr,DQ,aY,bW,aH,bS,bO,m2,aA,mC,aU,eQ,gG,e,jX,gD,eI,fF,aJ,lQ,lG,rD,h0,aE,tV,uE,uD,h1,jA,aO,bK,cA,bJ,kQ,pR,xA,w1,w2,w3,w4,w5,q1,hs,ht,hu]
def St (n:Nat) (H:Hs):Prop:=∃a b,getL H n=some [.int a,.bl b]
theorem St.fr {n:Nat}{S:Be}{H H':Hs}(s:St n H) (f:Fr S H H') (h:n∉S):St n H':=let ⟨a,b,e⟩:=s;⟨a,b,f.getL e h⟩
theorem jR {H:Hs}{n:Nat}(m:Int) (s:St n H) (h0:0<m:=by decide) (h1:m<18446744073709551616:=by decide):
  ∃r H',0<=r/\r<m/\F_qr [.ref n,.int m] H=.ok (.int r) H'/\Fr [n] H H'/\St n H':=by
 obtain⟨a,b,e⟩:=s;obtain⟨r,a',r0,r1,ht⟩:=z2o H n a b m h0 h1 e;exact⟨r,_,r0,r1,ht,Gq,a',b,kW e⟩
theorem z2p (scr:Bd) (k:Nat) (h:Hs):∃H',F_qk scr [.scr,.int k] h=.ok (.ref h.length) H'/\Fr [] h H'/\St h.length H':=by
 have cell:∃c,F_qe scr [.scr,.int k] h=.ok (.int c) h:=by
  by_cases hk:k<scr.length
  ·refine⟨scr[k], ?_⟩;have Dp:(k:Int)<scr.length:=by omega
   simp[F_qe,yM,aY,bW,aH,bS,mB,m2,aA,mC,eZ,aF,f1,gH,eW,aB,aC,dF,Dp,hk,gG,jX,gD,eI,aO,bK]
  ·refine⟨0, ?_⟩;have Dp:¬ (k:Int)<scr.length:=by omega
   simp[F_qe,yM,aY,bW,aH,bS,mB,m2,aA,mC,eZ,aF,f1,gH,eW,aB,aC,dF,Dp,hk,gG,jX,gD,eI,aO,bK,cA]
 obtain⟨c,hc⟩:=cell;have fin:∀a b,Fr [] h (h++[Fy [.int a,.bl b]])/\St h.length (h++[Fy [.int a,.bl b]]):=λa b=>⟨Fz,a,b,by rw[YS];rfl⟩
 by_cases hg:c>=1000000000000000000
 ·refine⟨_, ?_,fin (c - 1000000000000000000) true⟩;simp[F_qk,yN,aY,bW,aH,aJ,aF,aB,aA,aC,hc,aE,bS,mB,m2,xU,iH,oP,lG,tO,mC,dF,hg,aO,aQ,nE,lim,bK]
 ·refine⟨_, ?_,fin (c % 2147483647) false⟩;simp[F_qk,yN,aY,bW,aH,aJ,aF,aB,aA,aC,hc,aE,bS,mB,m2,xU,iH,oP,lG,tO,mC,dF,hg,aO,aQ,nE,lim,bK,cA,lQ,rD]
theorem St.lt {st:Nat}{H:Hs}(s:St st H):st<H.length:=let ⟨_,_,e⟩:=s;nG e
theorem z2q {H:Hs}{q:Nat}{ks:Bd}(e:getL H q=some (ks.map Fx)):cD (.ref q) (.ref H.length) (H++[.lst []])=.ok (.bl (!ks.isEmpty)) (H++[.lst []]):=by
 have p1:bC bZ (H++[.lst []]) (.ref q)=some (.lst (ks.map Gs)):=by show bC (28+1+1) (H++[.lst []]) (.ref q)=_;rw[bC];simp only[gQ (l:=[.lst []]) e,pW]
 have p2:bC bZ (H++[.lst []]) (.ref H.length)=some (.lst []):=by
  show bC (28+1+1) (H++[.lst []]) (.ref H.length)=_;rw[bC];have:getL (H++[.lst []]) H.length=some []:=by simp[getL]
  simp only[this];rfl
 unfold cD;rw[p1,p2]
 cases ks <;> simp[bD,eJ]
def zK:M Bool:=mB (m2 cD (aA 2) (aQ aC))
def zL:MS:=dG (hO (aA 3) (uA (aA 2) (aF F_qr (aB (aA 0) (aB (aF (f1 bX) (aB (aA 2) aC)) aC)))))
theorem z2r:DR=aH (aJ (aF (f1 gJ) (aB (aA 1) aC)) (aE 2)) (aH (aJ (aQ aC) (aE 3)) (aH (iN zK zL 40) (aO (aA 3)))):=rfl
section
variable{st a b:Nat}{d:Dv}
theorem OA (Ef:a≠b) (has:a≠st) (hbs:b≠st):∀(f:Nat) (ls fs:Bd) (H:Hs),ls.length<f->ls.length+fs.length<=100->getL H a=some (ls.map Fx)->getL H b=some (fs.map Fx)->St st H->
  ∃(H':Hs) (ys:Bd),iN zK zL f [some (.ref st),some d,some (.ref a),some (.ref b)] H=.nx [some (.ref st),some d,some (.ref a),some (.ref b)] H'/\getL H' b=some (ys.map Fx)/\ys.Perm (fs++ls)/\St st H'/\Fr [st,a,b] H H'
 |0,ls,fs,H,h,_,_,_,_=>by omega
 |f+1,ls,fs,H,h,hl,ea,eb,s=>by
  have tc:zK [some (.ref st),some d,some (.ref a),some (.ref b)] H=.ok (!ls.isEmpty) (H++[.lst []]):=by simp[zK,mB,m2,aA,aQ,aC,lim,z2q ea,dF]
  have ea1:=gQ (l:=[Fy []]) ea;have eb1:=gQ (l:=[Fy []]) eb;have g1:Fr [st,a,b] H (H++[Fy []]):=Fz;have s1:=s.fr (Fz (S:=[]) (l:=[Fy []])) (by simp);generalize H++[Fy []]=H1 at tc ea1 eb1 g1 s1
  cases hls:ls with
  |nil=>subst hls;refine⟨H1,fs, ?_,eb1,by simp,s1,g1⟩;exact z29 tc
  |cons x r=>
   have hne:ls.isEmpty=false:=by rw[hls];rfl
   have hpos:(0:Int)<ls.length:=by rw[hls];simp
   obtain⟨k,H2,k0,k1,ht,f2,s2⟩:=jR (ls.length:Int) s1 hpos (by omega);have ea2:=f2.getL ea1 (by simpa using has);have eb2:=f2.getL eb1 (by simpa using hbs);have hk:k.toNat<ls.length:=by omega
   have ixk:eI (ls.map Fx).length k=some k.toNat:=by unfold eI;rw[if_pos k0,bg,if_pos k1]
   have getk:(ls.map Fx)[k.toNat]?=some (.int ls[k.toNat]):=by simp[hk]
   have hlen:f1 bX [.ref a] H1=.ok (.int ls.length) H1:=by show(if eQ (.ref a)=true then gH [] (.ref a) H1 else .bad)=_;simp[eQ,gH,eW,ea1]
   have hz:(ls.map Fx).length<=1000000:=by rw[bg];omega
   have pop:xT (.ref a) (.int k) H2=.ok (.int ls[k.toNat]) (H2.set a (.lst ((ls.eraseIdx k.toNat).map Fx))):=by
    simp only[xT,ea2,ixk,getk,hz,if_true];have em:(ls.map Fx).eraseIdx k.toNat=(ls.eraseIdx k.toNat).map Fx:=by rw[xg,xg,iu,zi,vp]
    rw[em]
   have eb3:getL (H2.set a (.lst ((ls.eraseIdx k.toNat).map Fx))) b=some (fs.map Fx):=by rw[rW Ef];exact eb2
   have ea3:getL (H2.set a (.lst ((ls.eraseIdx k.toNat).map Fx))) a=some ((ls.eraseIdx k.toNat).map Fx):=kW ea2;have f3:Fr [st,a,b] H2 (H2.set a (.lst ((ls.eraseIdx k.toNat).map Fx))):=Gq.mono (by simp);have s3:St st (H2.set a (.lst ((ls.eraseIdx k.toNat).map Fx))):=s2.fr Gq (by simpa using de has);generalize hH3:H2.set a (.lst ((ls.eraseIdx k.toNat).map Fx))=H3 at pop eb3 ea3 f3 s3;have hfl:(fs.map Fx).length<1000000:=by rw[bg];omega
   have body:zL [some (.ref st),some d,some (.ref a),some (.ref b)] H1=.nx [some (.ref st),some d,some (.ref a),some (.ref b)] (H3.set b (.lst ((fs++[ls[k.toNat]]).map Fx))):=by
    have isA:iZ (.ref a) H1=true:=by simp[iZ,ea1]
    have isB:iZ (.ref b) H1=true:=by simp[iZ,eb1]
    have hpop:uA (aA 2) (aF F_qr (aB (aA 0) (aB (aF (f1 bX) (aB (aA 2) aC)) aC))) [some (.ref st),some d,some (.ref a),some (.ref b)] H1=.ok (.int ls[k.toNat]) H3:=by simp[uA,aA,isA,aF,aB,aC,hlen,ht,pop]
    have happ:oK (.ref b) (.int ls[k.toNat]) H3=.ok .non (H3.set b (.lst ((fs++[ls[k.toNat]]).map Fx))):=by simp only[oK,eb3,hfl,if_true,iu];rfl
    simp[zL,dG,hO,aA,isB,hpop,happ]
   have Ey:(ls.eraseIdx k.toNat).length=ls.length - 1:=yt hk;obtain⟨H',ys,w,e',pm,s',f'⟩:=OA Ef has hbs f (ls.eraseIdx k.toNat) (fs++[ls[k.toNat]]) (H3.set b (.lst ((fs++[ls[k.toNat]]).map Fx))) (by omega) (by rw[bx];simp;omega) (by rw[rW (de Ef)];exact ea3) (kW eb3) (s3.fr Gq (by simpa using de hbs));refine⟨H',ys, ?_,e', ?_,s', ?_⟩
   ·rw[hne]at tc;rw[N6 tc body];exact w
   ·rw[<-hls];refine pm.trans ?_;rw[qw];refine yu fs ?_;have:=SR.erase_perm ls k.toNat hk;simpa using this
   ·exact(((g1.trans f2 (by simp)).trans f3 (by simp)).trans (T:=[b]) Gq (by simp)).trans f' (by simp)
theorem z2s {H:Hs}{j:Nat}{xs:Bd}(s:St st H) (e:getL H j=some (xs.map Fx)) (hl:xs.length<=20):∃(i:Nat) (ys:Bd) (H':Hs),F_qb [.ref st,.ref j] H=.ok (.ref i) H'/\getL H' i=some (ys.map Fx)/\ys.Perm xs/\H.length<=i/\St st H'/\Fr [st] H H':=by
 have lt:=s.lt;have w0:aJ (aF (f1 gJ) (aB (aA 1) aC)) (aE 2) [some (.ref st),some (.ref j),none,none] H=.nx [some (.ref st),some (.ref j),some (.ref H.length),none] (H++[.lst (xs.map Fx)]):=by simp[aJ,aF,f1,gJ,eQ,pM,eW,aB,aA,aC,e,aE]
 have w1:aJ (aQ aC) (aE 3) [some (.ref st),some (.ref j),some (.ref H.length),none] (H++[.lst (xs.map Fx)])=.nx [some (.ref st),some (.ref j),some (.ref H.length),some (.ref (H.length+1))] (H++[.lst (xs.map Fx)]++[.lst []]):=by simp[aJ,aQ,aC,lim,aE]
 have ea:getL (H++[.lst (xs.map Fx)]++[.lst []]) H.length=some (xs.map Fx):=gQ (by simp[getL]);have eb:getL (H++[.lst (xs.map Fx)]++[.lst []]) (H.length+1)=some (([]:Bd).map Fx):=by simp[getL]
 have f0:Fr [st] H (H++[.lst (xs.map Fx)]++[.lst []]):=Gu (T:=[]) Fz Fz (by simp);have s0:St st (H++[.lst (xs.map Fx)]++[.lst []]):=(s.fr (Fz (S:=[]) (l:=[.lst (xs.map Fx)])) (by simp)).fr (Fz (S:=[])) (by simp);obtain⟨H',ys,w2,e2,pm,s2,f2⟩:=OA (st:=st) (a:=H.length) (b:=H.length+1) (d:=.ref j) (by omega) (by omega) (by omega) 40 xs [] _ (by omega) (by simp;omega) ea eb s0;refine⟨H.length+1,ys,H', ?_,e2,by simpa using pm,by omega,s2,f0.trans f2 (by simp)⟩;show bK (DR [some (.ref st),some (.ref j),none,none] H)=_;rw[z2r,bE w0,bE w1,bE w2];rfl
end
def eS (ps:y') (p:Int×Int):y':=(ps.filter λq=>decide (p.2=q.1)).map λq=>(p.1,q.2)
def eG (ps:y'):y':=eF eR (ps++ps.flatMap (eS ps))
def vF:Nat->y'->Option y' 
 |0,_=>none
 |f+1,ps=>if eG ps=ps then some ps else vF f (eG ps)
def nU (n:Nat) (ps:y'):Prop:=∀p∈ps,0<=p.1/\p.1<n/\0<=p.2/\p.2<n
def Tr (ps:y'):Prop:=∀p∈ps,∀q∈ps,p.2=q.1->(p.1,q.2)∈ps
theorem z2t {ps:y'}{p r:Int×Int}:r∈eS ps p↔∃q∈ps,p.2=q.1/\r=(p.1,q.2):=by
 simp only[eS,cp,fg,decide_eq_true_eq];constructor
 ·rintro ⟨q,⟨h1,h2⟩,h3⟩;exact⟨q,h1,h2,h3.symm⟩
 ·rintro ⟨q,h1,h2,h3⟩;exact⟨q,⟨h1,h2⟩,h3.symm⟩
theorem step_mem {ps:y'}{r:Int×Int}:r∈eG ps↔r∈ps∨∃p∈ps,∃q∈ps,p.2=q.1/\r=(p.1,q.2):=by unfold eG;rw[nK Dw,br,tq];simp only[z2t]
theorem E7 {n:Nat}{ps:y'}(h:nU n ps):nU n (eG ps):=λr hr=>by
 rcases step_mem.mp hr with hr|⟨p,hp,q,hq,_,rfl⟩
 ·exact h r hr
 ·exact⟨(h p hp).1,(h p hp).2.1,(h q hq).2.2.1,(h q hq).2.2.2⟩
theorem vG (ps:y'):fT eR (eG ps):=uJ Dw _
theorem z2u {ps:y'}(hr:fT eR ps):eG ps=ps↔Tr ps:=by
 constructor
 ·intro h p hp q hq e;rw[<-h];exact step_mem.mpr (.inr ⟨p,hp,q,hq,e,rfl⟩)
 ·intro h;refine CZ Dw (vG ps) hr λr=>?_;rw[step_mem];constructor
  ·rintro (hr|⟨p,hp,q,hq,e,rfl⟩)
   ·exact hr
   ·exact h p hp q hq e
  ·exact λh=>.inl h
theorem z2v {ps:y'}(hr:fT eR ps) (hne:eG ps≠ps):ps.length<(eG ps).length:=by
 have nd:=uK Dw hr;have sub:∀r∈ps,r∈eG ps:=λr h=>step_mem.mpr (.inl h);have h1:=nd.length_le_of_subset sub
 rcases jk ps.length (eG ps).length with h|h
 ·exact h
 ·exfalso
  apply hne
  have sub2:∀r∈eG ps,r∈ps:=λr hr'=>by
   by_cases hm:r∈ps
   ·exact hm
   ·exfalso
    have nd2:(r::ps).Nodup:=jq.mpr ⟨hm,nd⟩;have:=nd2.length_le_of_subset (l₂:=eG ps) λx hx=>by
     rcases az.mp hx with rfl|hx
     ·exact hr'
     ·exact sub x hx
    simp at this;omega
  exact CZ Dw (vG ps) hr λr=>⟨sub2 r,sub r⟩
theorem OB {n:Nat}(hn:n<=6):∀(f:Nat) (ps:y'),fT eR ps->nU n ps->36<f+ps.length->∃cs,vF f ps=some cs/\fT eR cs/\nU n cs/\Tr cs/\(∀p∈ps,p∈cs)/\∀R:Int->Int->Prop,(∀a b c,R a b->R b c->R a c)->(∀p∈ps,R p.1 p.2)->∀p∈cs,R p.1 p.2
 |0,ps,hr,hi,h=>by have h1:=vE hr hi;have h2:n*n<=6*6:=ou hn hn;omega
 |f+1,ps,hr,hi,h=>by
  unfold vF
  split
  ·rename_i e;exact⟨ps,rfl,hr,hi,(z2u hr).mp e,λp hp=>hp,λR _ h=>h⟩
  ·rename_i e;have:=z2v hr e;obtain⟨cs,h1,h2,h3,h4,h5,h6⟩:=OB hn f (eG ps) (vG ps) (E7 hi) (by omega);refine⟨cs,h1,h2,h3,h4,λp hp=>h5 p (step_mem.mpr (.inl hp)),λR ht hR=>h6 R ht λr hr'=>?_⟩
   rcases step_mem.mp hr' with hr'|⟨p,hp,q,hq,e,rfl⟩
   ·exact hR r hr'
   ·refine ht _ p.2 _ (hR p hp) ?_;rw[e];exact hR q hq
theorem zM {α:Type}{f:α->Dv}{H:Hs}{i k:Nat}{xs:List α}(e:getL H i=some (xs.map f)) (hk:k<xs.length):(cP i xs.length).get k H=some (f xs[k]):=by simp[cP,e,hk]
theorem zN {α:Type}{f:α->Dv}{H:Hs}{i:Nat}{xs:List α}(e:getL H i=some (xs.map f)):(cP i xs.length).fin H=true:=by simp[cP,e]
theorem OC:∀ps:y',bP rY (ps.map aK)=some (ps.map jO)
 | []=>rfl
 |p::ps=>by rw[da,bP,OC ps];rfl
theorem z2w (ps:y'):yI (ps.map jO)=true:=by simp[yI,jO]
theorem z2x (ps:y'):(ps.map jO).map yH=ps.map aK:=by rw[kh];rfl
section
variable{H:Hs}{ps:y'}{d:Dv}
theorem OD (h:qA d H=some (ps.map jO)) (hl:(eF eR ps).length<64):lU d H=.ok (.ref H.length) (H++[.lst ((eF eR ps).map aK)]):=by unfold lU;rw[h];dsimp only;rw[LQ uL,bg,if_pos (by rw[z2w];simpa using hl),z2x]
theorem z2y {i j:Nat}{ps qs:y'}(ei:getL H i=some (ps.map aK)) (ej:getL H j=some (qs.map aK)):bT (.ref i) (.ref j) H=.ok (.bl (decide (ps=qs))) H:=by
 have p:∀(i:Nat) (ps:y'),getL H i=some (ps.map aK)->bC bZ H (.ref i)=some (.lst (ps.map kG)):=λi ps e=>by show bC (27+2+1) H (.ref i)=_;rw[bC];simp only[e,CU]
 have dq:∀ps qs:y',eJ (ps.map kG) (qs.map kG)=decide (ps=qs):=λps=>by
  induction ps with
  |nil=>intro qs;cases qs <;> simp[eJ]
  |cons p ps ih=>
   intro qs
   cases qs with
   |nil=>simp[eJ]
   |cons q qs=>simp only[da,eJ,LC,ih];rw[cw];simp
 unfold bT;rw[p i ps ei,p j qs ej];simp only[bD,dq]
def sF:M Bh :=bM (bF cG (aA 1)) [none,none,some 3,some 4] (cH 2 (aX (aE 0) (aX (aE 1) cJ))) (mB (m2 bT (aA 3) (aA 0))) (bA (aL (aB (aA 2) (aB (aA 1) aC))))
def sG:MS:=aH (aJ (aF (f1 gJ) (aB (aA 1) aC)) (aE 2)) (aH (eC (bF cG (aA 1)) (cH 2 (aX (aE 3) (aX (aE 4) cJ))) (dG (pP (aA 2) sF))) (aH (aJ (aF (f1 lU) (aB (aA 2) aC)) (aE 2)) (aH (bS (mB (m2 bT (aA 2) (aA 1))) (aO (aA 1)) cA) (aJ (aA 2) (aE 1)))))
theorem z2z:jC=aH (aJ (aF (f1 lU) (aB (aA 0) aC)) (aE 1)) (iN (bO (mC (.bl true))) sG 40):=rfl
theorem z30 {x0 x2:Bi}{i:Nat}{p:Int×Int}(hl:ps.length<=1000) (e:getL H i=some (ps.map aK)):sF [x0,some (.ref i),x2,some (.int p.1),some (.int p.2)] H=.ok ((eS ps p).map aK) H:=by
 have hi:bF cG (aA 1) [x0,some (.ref i),x2,some (.int p.1),some (.int p.2)] H=.ok (cP i ps.length) H:=by simp[bF,aA,cG,e]
 have h:sF [x0,some (.ref i),x2,some (.int p.1),some (.int p.2)] H=.ok (ps.filterMap λq=>if p.2=q.1 then some (aK (p.1,q.2))else none) H:=
  gX ps (λq=>if p.2=q.1 then some (aK (p.1,q.2))else none) (λρ=>∃a b,ρ=[a,b,some (.int p.1),some (.int p.2)]) hi rfl ⟨_,_,rfl⟩ (by simp[cP,e]) (λk hk ρ ⟨a,b,er⟩=>by
   subst er;refine⟨aK ps[k],[some (.int ps[k].1),some (.int ps[k].2),some (.int p.1),some (.int p.2)],by simp[cP,e,hk],rfl,⟨_,_,rfl⟩, ?_⟩;have te:mB (m2 bT (aA 3) (aA 0)) [some (.int ps[k].1),some (.int ps[k].2),some (.int p.1),some (.int p.2)] H=.ok (decide (p.2=ps[k].1)) H:=by simp[mB,m2,aA,bT,bZ,bC,bD,dF];rw[cw];simp
   by_cases c:p.2=ps[k].1
   ·rw[if_pos c];rw[decide_eq_true c]at te;exact⟨te,rfl⟩
   ·rw[if_neg c];rw[decide_eq_false c]at te;exact te) (by omega)
 rw[h]
 congr 1
 unfold eS;rw[kh];have:∀l:y',l.filterMap (λq=>if p.2=q.1 then some (aK (p.1,q.2))else none)=(l.filter λq=>decide (p.2=q.1)).map (aK∘λq=>(p.1,q.2)):=λl=>by
  induction l with
  |nil=>rfl
  |cons q l ih=>
   rw[cf,jh,ih]
   by_cases c:p.2=q.1 <;> simp[c]
 exact this ps
theorem OE (ps:y') (p:Int×Int):(eS ps p).length<=ps.length:=by unfold eS;rw[bg];exact jd _ _
theorem OF (ps:y'):∀l:y',(l.flatMap (eS ps)).length<=l.length*ps.length
 | []=>by simp
 |p::l=>by have h1:=OE ps p;have h2:=OF ps l;rw[ij,bx,dg,wy];omega
theorem z31 {x0 x3 x4:Bi}{i j:Nat}(C':i≠j) (hl:ps.length<=40) (ei:getL H i=some (ps.map aK)) (ej:getL H j=some (ps.map aK)):
  ∃y3 y4,eC (bF cG (aA 1)) (cH 2 (aX (aE 3) (aX (aE 4) cJ))) (dG (pP (aA 2) sF)) [x0,some (.ref i),some (.ref j),x3,x4] H=.nx [x0,some (.ref i),some (.ref j),y3,y4] (H.set j (.lst ((ps++ps.flatMap (eS ps)).map aK))):=by
 have hi:bF cG (aA 1) [x0,some (.ref i),some (.ref j),x3,x4] H=.ok (cP i ps.length) H:=by simp[bF,aA,cG,ei]
 have self:H.set j (.lst (ps.map aK))=H:=by
  apply wo
  intro k
  by_cases hk:j=k
  ·subst hk;rw[dz (nG ej),cW ej]
  ·rw[fi hk]
 obtain⟨ρ',H',h1,y3,y4,h2,h3⟩:=nI (b:=dG (pP (aA 2) sF)) (sg:=cH 2 (aX (aE 3) (aX (aE 4) cJ))) hi (λk ρ H'=>∃(y3 y4:Bi),ρ=[x0,some (.ref i),some (.ref j),y3,y4]/\H'=H.set j (.lst ((ps++(ps.take k).flatMap (eS ps)).map aK)))
  (λk ρ H' hk ⟨y3,y4,e1,e2⟩=>by
   subst e1;subst e2;have Dp:k<ps.length:=hk;have ei':getL (H.set j (.lst ((ps++(ps.take k).flatMap (eS ps)).map aK))) i=some (ps.map aK):=by rw[rW (de C')];exact ei
   have ej':getL (H.set j (.lst ((ps++(ps.take k).flatMap (eS ps)).map aK))) j=some ((ps++(ps.take k).flatMap (eS ps)).map aK):=kW ej;have hlen:(ps++(ps.take k).flatMap (eS ps)).length<=40+40*40:=by have h1:=OF ps (ps.take k);have h2:(ps.take k).length*ps.length<=40*40:=ou (by rw[jf];omega) hl;rw[bx];omega
   have hf:=OE ps ps[k];refine⟨aK ps[k],[x0,some (.ref i),some (.ref j),some (.int ps[k].1),some (.int ps[k].2)],[x0,some (.ref i),some (.ref j),some (.int ps[k].1),some (.int ps[k].2)],_,zM ei' Dp,rfl, ?_,_,_,rfl,rfl⟩;have hc:=z30 (x0:=x0) (x2:=some (.ref j)) (p:=ps[k]) (by omega) ei';generalize hG:H.set j (.lst ((ps++(ps.take k).flatMap (eS ps)).map aK))=G at ei' ej' hc;have isJ:iZ (.ref j) G=true:=by simp[iZ,ej']
   have hz:((ps++(ps.take k).flatMap (eS ps)).map aK).length+((eS ps ps[k]).map aK).length<=1000000:=by rw[bg,bg];omega
   have hx:xM (.ref j) ((eS ps ps[k]).map aK) G=.ok .non (G.set j (.lst ((ps++(ps.take (k+1)).flatMap (eS ps)).map aK))):=by unfold xM;simp only[ej',lim,hz,if_true];rw[jb Dp,List.flatMap_append,<-iu];simp[qw]
   have:pP (aA 2) sF [x0,some (.ref i),some (.ref j),some (.int ps[k].1),some (.int ps[k].2)] G=.ok .non (G.set j (.lst ((ps++(ps.take (k+1)).flatMap (eS ps)).map aK))):=by unfold pP;show(Gp (Gk j) G).bind _=_;rw[Rs.bind_ok,if_pos isJ,hc,Rs.bind_ok,hx]
   unfold dG;rw[this,<-hG,List.set_set];rfl)
  (λρ H' ⟨_,_,_,e2⟩=>by
   subst e2;have ei':getL (H.set j (.lst ((ps++(ps.take (cP i ps.length).n).flatMap (eS ps)).map aK))) i=some (ps.map aK):=by rw[rW (de C')];exact ei
   exact zN ei') ⟨x3,x4,rfl,by simp[self]⟩
 refine⟨y3,y4, ?_⟩;rw[h1,h2,h3];simp[cP]
end
section
variable{H:Hs}{ps:y'}
theorem OG {i:Nat}(e:getL H i=some (ps.map aK)):qA (.ref i) H=some (ps.map jO):=by simp only[qA,e,OC]
theorem E8 {x0 x2 x3 x4:Bi}{i:Nat}(hl:ps.length<=40) (hs:(eG ps).length<64) (e:getL H i=some (ps.map aK)):
  ∃H',Fr [] H H'/\getL H' i=some (ps.map aK)/\if eG ps=ps then sG [x0,some (.ref i),x2,x3,x4] H=.rt (.ref i) H' else ∃(j:Nat) (y2 y3 y4:Bi),sG [x0,some (.ref i),x2,x3,x4] H=.nx [x0,some (.ref j),y2,y3,y4] H'/\getL H' j=some ((eG ps).map aK):=by
 have li:=nG e;have w0:aJ (aF (f1 gJ) (aB (aA 1) aC)) (aE 2) [x0,some (.ref i),x2,x3,x4] H=.nx [x0,some (.ref i),some (.ref H.length),x3,x4] (H++[.lst (ps.map aK)]):=by simp[aJ,aF,f1,gJ,eQ,pM,eW,aB,aA,aC,e,aE]
 have ei:=gQ (l:=[Fy (ps.map aK)]) e;have ej:getL (H++[Fy (ps.map aK)]) H.length=some (ps.map aK):=by simp[getL]
 have f0:Fr [] H (H++[Fy (ps.map aK)]):=Fz;generalize H++[Fy (ps.map aK)]=H0 at w0 ei ej f0;obtain⟨y3,y4,w1⟩:=z31 (x0:=x0) (x3:=x3) (x4:=x4) (i:=i) (j:=H.length) (by omega) hl ei ej;have ei1:getL (H0.set H.length (.lst ((ps++ps.flatMap (eS ps)).map aK))) i=some (ps.map aK):=by rw[rW (by omega)];exact ei
 have ej1:getL (H0.set H.length (.lst ((ps++ps.flatMap (eS ps)).map aK))) H.length=some ((ps++ps.flatMap (eS ps)).map aK):=kW ej;have f1':Fr [] H (H0.set H.length (.lst ((ps++ps.flatMap (eS ps)).map aK))):=f0.trans (T:=[H.length]) Gq (by simp);generalize H0.set H.length (.lst ((ps++ps.flatMap (eS ps)).map aK))=H1 at w1 ei1 ej1 f1';have w2:aJ (aF (f1 lU) (aB (aA 2) aC)) (aE 2) [x0,some (.ref i),some (.ref H.length),y3,y4] H1=.nx [x0,some (.ref i),some (.ref H1.length),y3,y4] (H1++[.lst ((eG ps).map aK)]):=by have hq:=OD (OG ej1) hs;simp[aJ,aF,f1,aB,aA,aC,hq,aE,eG]
 have ei2:=gQ (l:=[Fy ((eG ps).map aK)]) ei1;have ej2:getL (H1++[Fy ((eG ps).map aK)]) H1.length=some ((eG ps).map aK):=by simp[getL]
 have f2:Fr [] H (H1++[Fy ((eG ps).map aK)]):=f1'.trans (T:=[]) Fz (by simp);generalize hH2:H1++[Fy ((eG ps).map aK)]=H2 at w2 ei2 ej2 f2;have t:mB (m2 bT (aA 2) (aA 1)) [x0,some (.ref i),some (.ref H1.length),y3,y4] H2=.ok (decide (eG ps=ps)) H2:=by simp[mB,m2,aA,z2y ej2 ei2,dF]
 refine⟨H2,f2,ei2, ?_⟩
 by_cases c:eG ps=ps
 ·rw[if_pos c];unfold sG;rw[bE w0,bE w1,bE w2];unfold aH;rw[oV (t.trans (by rw[decide_eq_true c]))];rfl
 ·rw[if_neg c];refine⟨H1.length,some (.ref H1.length),y3,y4, ?_,ej2⟩;unfold sG;rw[bE w0,bE w1,bE w2,bE (ρ1:=[x0,some (.ref i),some (.ref H1.length),y3,y4]) (h1:=H2) (by rw[kF (t.trans (by rw[decide_eq_false c]))];rfl)];rfl
theorem OH {n:Nat}(hn:n<=6) {cs:y'}:∀(f:Nat) (ps:y') (H:Hs) (i:Nat) (x0 x2 x3 x4:Bi),fT eR ps->nU n ps->vF f ps=some cs->getL H i=some (ps.map aK)->
  ∃(j:Nat) (H':Hs),iN (bO (mC (.bl true))) sG f [x0,some (.ref i),x2,x3,x4] H=.rt (.ref j) H'/\getL H' j=some (cs.map aK)/\Fr [] H H'
 |0,ps,H,i,x0,x2,x3,x4,hr,hi,h,e=>by cases h
 |f+1,ps,H,i,x0,x2,x3,x4,hr,hi,h,e=>by
  have sq:n*n<=6*6:=ou hn hn;have l1:=vE hr hi;have l2:=vE (vG ps) (E7 hi);obtain⟨H1,f1,e1,c1⟩:=E8 (x0:=x0) (x2:=x2) (x3:=x3) (x4:=x4) (by omega) (by omega) e;have tt:bO (mC (.bl true)) [x0,some (.ref i),x2,x3,x4] H=.ok true H:=rfl;unfold vF at h
  split at h
  ·rename_i c;cases h;rw[if_pos c]at c1;exact⟨i,H1,z2a tt c1,e1,f1⟩
  ·rename_i c;rw[if_neg c]at c1;obtain⟨j,y2,y3,y4,c2,ej⟩:=c1;obtain⟨k,H2,w,ek,f2⟩:=OH hn f (eG ps) H1 j x0 y2 y3 y4 (vG ps) (E7 hi) h ej;exact⟨k,H2,by rw[N6 tt c2];exact w,ek,f1.trans f2 (by simp)⟩
def OI (n:Nat) (ps cs:y'):Prop:=fT eR cs/\nU n cs/\Tr cs/\(∀p∈ps,p∈cs)/\∀R:Int->Int->Prop,(∀a b c,R a b->R b c->R a c)->(∀p∈ps,R p.1 p.2)->∀p∈cs,R p.1 p.2
theorem z32 {n:Nat}{d:Dv}(hn:n<=6) (hi:nU n ps) (h:qA d H=some (ps.map jO)):∃(cs:y') (j:Nat) (H':Hs),OI n ps cs/\F_qg [d] H=.ok (.ref j) H'/\getL H' j=some (cs.map aK)/\Fr [] H H':=by
 have hs:nU n (eF eR ps):=λp hp=>hi p ((nK Dw p ps).mp hp);have hr:=uJ Dw ps;have sq:n*n<=6*6:=ou hn hn;have l1:=vE hr hs;obtain⟨cs,c1,c2,c3,c4,c5,c6⟩:=OB hn 40 _ hr hs (by omega);have w0:aJ (aF (f1 lU) (aB (aA 0) aC)) (aE 1) [some d,none,none,none,none] H=.nx [some d,some (.ref H.length),none,none,none] (H++[.lst ((eF eR ps).map aK)]):=by have hq:=OD h (by omega);simp[aJ,aF,f1,aB,aA,aC,hq,aE]
 obtain⟨j,H',w1,ej,f1'⟩:=OH hn 40 (eF eR ps) (H++[.lst ((eF eR ps).map aK)]) H.length (some d) none none none hr hs c1 (by simp[getL]);refine⟨cs,j,H',⟨c2,c3,c4,λp hp=>c5 p ((nK Dw p ps).mpr hp),λR ht hR=>c6 R ht λp hp=>hR p ((nK Dw p ps).mp hp)⟩, ?_,ej,(Fz (S:=[]) (l:=[.lst ((eF eR ps).map aK)])).trans f1' (by simp)⟩;show bK (jC [some d,none,none,none,none] H)=_;rw[z2z,bE w0,w1];rfl
end
theorem qJ {H:Hs}{i k:Nat}{xs:Bd}(e:getL H i=some (xs.map Fx)) (hk:k<xs.length):aU (.ref i) (.int (k:Int)) H=.ok (.int xs[k]) H:=by
 have h1:eI (xs.map Fx).length (k:Int)=some k:=by unfold eI;rw[bg,if_pos (by omega),if_pos (by omega)];simp
 have h2:gD (xs.map Fx) (k:Int)=some (.int xs[k]):=by unfold gD;rw[h1];simp[hk]
 simp only[aU,eQ,gG,e,jX,h2,if_true]
theorem sH (x y:Int) (H:Hs):bT (.int x) (.int y) H=.ok (.bl (x==y)) H:=by simp[bT,bZ,bC,bD]
theorem E9:∀{ys:Bd},ys.Nodup->∀i (h:i<ys.length),fJ ys[i] ys=some i
 | [],_,i,h=>by simp at h
 |y::ys,nd,0,h=>by simp[fJ]
 |y::ys,nd,i+1,h=>by
  have h1:=jq.mp nd;have hi:i<ys.length:=by simpa using h
  have ne:y≠ys[i]:=λz=>h1.1 (by rw[z];exact cm hi);simp[fJ,ne,E9 h1.2 i hi]
def zO (n:Nat) (ps:y'):Prop:=nU n ps/\∃f:Int->Int,∀p∈ps,f p.1<f p.2
theorem z33 {n:Nat}{ps cs:y'}(n1:1<=n) (n6:n<=6) (g:zO n ps) (c:OI n ps cs):By n cs:=by obtain⟨h1,h2,h3,h4,h5⟩:=c;obtain⟨_,f,hf⟩:=g;refine⟨n1,n6,h2,h1,λp hp e=>?_,h3⟩;have:=h5 (λa b=>f a<f b) (λa b c x y=>by omega) hf p hp;rw[e]at this;omega
section
variable{st ir ip im n:Nat}{ys ms:Bd}{w:Int}{d1:Dv}
def FA:MS:=aJ (aQ (aB (m2 bT (aF F_qr (aB (aA 0) (aB (mC (.int 6)) aC))) (mC (.int 0))) (aB (m2 bT (aF F_qr (aB (aA 0) (aB (mC (.int 2)) aC))) (mC (.int 0))) (aB (m2 jN (aF F_qr (aB (aA 0) (aB (mC (.int 4)) aC))) (mC (.int 0))) aC)))) (aE 9)
def FC:MS:=aJ (m2 bJ (aA 9) (aQ (aB (m2 eZ (m2 aU (aA 6) (aA 7)) (m2 aU (aA 6) (aA 8))) (aB (m2 bT (m2 aU (aA 6) (aA 7)) (m2 aU (aA 6) (aA 8))) aC)))) (aE 9)
def oB:MS:=aH FA (aH FC (bS (bO (m2 aU (aA 9) (aA 4))) (dG (hO (aA 5) (aL (aB (m2 aU (aA 3) (aA 7)) (aB (m2 aU (aA 3) (aA 8)) aC))))) cA))
structure Std (st ir im:Nat) (ys ms:Bd) (H:Hs):Prop where
 s:St st H
 r:getL H ir=some (ys.map Fx)
 m:getL H im=some (ms.map Fx)
theorem Std.fr {H H':Hs}{S:Be}(h:Std st ir im ys ms H) (f:Fr S H H') (s':St st H') (h1:ir∉S) (h2:im∉S):Std st ir im ys ms H':=⟨s',f.getL h.r h1,f.getL h.m h2⟩
theorem mD {H:Hs}{x9:Bi}{ps:y'}{i j:Nat}(D:Std st ir im ys ms H) (ep:getL H ip=some (ps.map aK)) (hw:0<=w/\w<5) (hi:i<n) (hj:j<n) (hy:ys.length=n) (hm:ms.length=n) (hl:ps.length<=1000)
  (h1:ir≠st) (h2:im≠st) (h3:ip≠st) (h4:ir≠ip) (h5:im≠ip):
  ∃(Em:Bi) (H':Hs) (Ck:y'),oB [some (.ref st),some d1,some (.int n),some (.ref ir),some (.int w),some (.ref ip),some (.ref im),some (.int i),some (.int j),x9] H=.nx [some (.ref st),some d1,some (.int n),some (.ref ir),some (.int w),some (.ref ip),some (.ref im),some (.int i),some (.int j),Em] H'/\getL H' ip=some (Ck.map aK)/\(Ck=ps∨Ck=ps++[(ys.getD i 0,ys.getD j 0)])/\Std st ir im ys ms H'/\Fr [st,ip] H H':=by
 obtain⟨r0,H0,_,_,t0,f0,s0⟩:=jR 6 D.s;obtain⟨r1,H1,_,_,t1,f1,s1⟩:=jR 2 s0;obtain⟨r2,H2,_,_,t2,f2,s2⟩:=jR 4 s1;have f02:Fr [st] H H2:=(f0.trans f1 (by simp)).trans f2 (by simp);have D2:=D.fr f02 s2 (by simpa using h1) (by simpa using h2);have ep2:=f02.getL ep (by simpa using h3);have w1:FA [some (.ref st),some d1,some (.int n),some (.ref ir),some (.int w),some (.ref ip),some (.ref im),some (.int i),some (.int j),x9] H=.nx [some (.ref st),some d1,some (.int n),some (.ref ir),some (.int w),some (.ref ip),some (.ref im),some (.int i),some (.int j),some (.ref H2.length)] (H2++[.lst [.bl (r0==0),.bl (r1==0),.bl (decide (r2>0))]]):=by simp[FA,aJ,aQ,aB,m2,aF,aA,mC,aC,t0,t1,t2,sH,jN,iH,lim,aE]
 have fA:Fr [] H2 (H2++[.lst [.bl (r0==0),.bl (r1==0),.bl (decide (r2>0))]]):=Fz;have eA:getL (H2++[.lst [.bl (r0==0),.bl (r1==0),.bl (decide (r2>0))]]) H2.length=some [.bl (r0==0),.bl (r1==0),.bl (decide (r2>0))]:=by simp[getL]
 have DA:=D2.fr fA (s2.fr fA (by simp)) (by simp) (by simp);have epA:=fA.getL ep2 (by simp);have fHA:Fr [st] H (H2++[.lst [.bl (r0==0),.bl (r1==0),.bl (decide (r2>0))]]):=f02.trans fA (by simp);generalize H2++[Fy [.bl (r0==0),.bl (r1==0),.bl (decide (r2>0))]]=HA at w1 fA eA DA epA fHA;have hmi:=qJ DA.m (k:=i) (by omega);have hmj:=qJ DA.m (k:=j) (by omega);have eA':=gQ (l:=[Fy [.bl (decide (ms[i]<ms[j])),.bl (ms[i]==ms[j])]]) eA;have eB:getL (HA++[Fy [.bl (decide (ms[i]<ms[j])),.bl (ms[i]==ms[j])]]) HA.length=some [.bl (decide (ms[i]<ms[j])),.bl (ms[i]==ms[j])]:=by simp[getL]
 have w2:FC [some (.ref st),some d1,some (.int n),some (.ref ir),some (.int w),some (.ref ip),some (.ref im),some (.int i),some (.int j),some (.ref H2.length)] HA=.nx [some (.ref st),some d1,some (.int n),some (.ref ir),some (.int w),some (.ref ip),some (.ref im),some (.int i),some (.int j),some (.ref (HA.length+1))] (HA++[.lst [.bl (decide (ms[i]<ms[j])),.bl (ms[i]==ms[j])]]++[.lst [.bl (r0==0),.bl (r1==0),.bl (decide (r2>0)),.bl (decide (ms[i]<ms[j])),.bl (ms[i]==ms[j])]]):=by simp[FC,aJ,m2,aQ,aB,aA,hmi,hmj,eZ,sH,aC,lim,bJ,kQ,eA',eB,aE]
 have fB:Fr [] HA (HA++[.lst [.bl (decide (ms[i]<ms[j])),.bl (ms[i]==ms[j])]]++[.lst [.bl (r0==0),.bl (r1==0),.bl (decide (r2>0)),.bl (decide (ms[i]<ms[j])),.bl (ms[i]==ms[j])]]):=Gu (T:=[]) Fz Fz (by simp);have eN:getL (HA++[.lst [.bl (decide (ms[i]<ms[j])),.bl (ms[i]==ms[j])]]++[.lst [.bl (r0==0),.bl (r1==0),.bl (decide (r2>0)),.bl (decide (ms[i]<ms[j])),.bl (ms[i]==ms[j])]]) (HA.length+1)=some [.bl (r0==0),.bl (r1==0),.bl (decide (r2>0)),.bl (decide (ms[i]<ms[j])),.bl (ms[i]==ms[j])]:=by simp[getL]
 have DB:=DA.fr fB (DA.s.fr fB (by simp)) (by simp) (by simp);have epB:=fB.getL epA (by simp);have fHB:=fHA.trans fB (by simp);generalize HA++[Fy [.bl (decide (ms[i]<ms[j])),.bl (ms[i]==ms[j])]]++[Fy [.bl (r0==0),.bl (r1==0),.bl (decide (r2>0)),.bl (decide (ms[i]<ms[j])),.bl (ms[i]==ms[j])]]=HB at w2 fB eN DB epB fHB;have near:∃b,aU (.ref (HA.length+1)) (.int w) HB=.ok (.bl b) HB:=by
  have hw':w=0∨w=1∨w=2∨w=3∨w=4:=by omega
  rcases hw' with rfl|rfl|rfl|rfl|rfl
  ·exact⟨_,by simp only[aU,eQ,gG,eN];rfl⟩
  ·exact⟨_,by simp only[aU,eQ,gG,eN];rfl⟩
  ·exact⟨_,by simp only[aU,eQ,gG,eN];rfl⟩
  ·exact⟨_,by simp only[aU,eQ,gG,eN];rfl⟩
  ·exact⟨_,by simp only[aU,eQ,gG,eN];rfl⟩
 obtain⟨b,hb⟩:=near;have t:bO (m2 aU (aA 9) (aA 4)) [some (.ref st),some d1,some (.int n),some (.ref ir),some (.int w),some (.ref ip),some (.ref im),some (.int i),some (.int j),some (.ref (HA.length+1))] HB=.ok b HB:=by simp[bO,m2,aA,hb,fF]
 cases b with
 |false=>refine⟨some (.ref (HA.length+1)),HB,ps, ?_,epB,.inl rfl,DB,fHB.mono (by simp)⟩;unfold oB;rw[bE w1,bE w2,kF t];rfl
 |true=>
  have hyi:=qJ DB.r (k:=i) (by omega);have hyj:=qJ DB.r (k:=j) (by omega);have gi:ys[i]=ys.getD i 0:=by simp[show i<ys.length by omega]
  have gj:ys[j]=ys.getD j 0:=by simp[show j<ys.length by omega]
  rw[gi]at hyi;rw[gj]at hyj;generalize ys.getD i 0=va at hyi ⊢;generalize ys.getD j 0=vb at hyj ⊢;have hz:(ps.map aK).length<1000000:=by rw[bg];omega
  have fC:Fr [ip] HB (HB.set ip (.lst ((ps++[(va,vb)]).map aK))):=Gq;refine⟨some (.ref (HA.length+1)),HB.set ip (.lst ((ps++[(va,vb)]).map aK)),ps++[(va,vb)], ?_,kW epB,.inr rfl,DB.fr fC (DB.s.fr fC (by simpa using de h3)) (by simpa using h4) (by simpa using h5),(fHB.mono (T:=[st,ip]) (by simp)).trans fC (by simp)⟩;unfold oB;rw[bE w1,bE w2,oV t];have isP':iZ (.ref ip) HB=true:=by simp[iZ,epB]
  have happ:oK (.ref ip) (.tup [.int (va),.int (vb)]) HB=.ok .non (HB.set ip (.lst ((ps++[(va,vb)]).map aK))):=by simp only[oK,epB,hz,if_true,iu];rfl
  simp[dG,hO,aA,isP',aL,aB,m2,hyi,hyj,aC,lim,happ]
end
theorem FD {m:Int}(h0:0<=m) (h:m<=100):kS m=true:=by
 have h1:(-4611686018427387904:Int)<=m:=by omega
 have h2:m<4611686018427387904:=by omega
 unfold kS;rw[decide_eq_true h1,decide_eq_true h2];rfl
theorem FE {H:Hs}{j:Int}(h0:0<=j) (h1:j<=100):cN [.int j] H=.ok (cS 0 j) H:=by simp only[cN,FD h0 h1,if_true]
theorem z34 {H:Hs}{i j:Int}(h0:0<=i) (h1:i<=100) (h2:0<=j) (h3:j<=100):pN [.int i,.int j] H=.ok (cS i j) H:=by simp only[pN,FD h0 h1,FD h2 h3,and_self,if_true]
def sJ (ys:Bd) (n:Nat) (ps:y'):Prop:=∀p∈ps,∃i j,i<j/\j<n/\p=(ys.getD i 0,ys.getD j 0)
section
variable{st ir ip im n:Nat}{ys ms:Bd}{w:Int}{d1:Dv}
abbrev cF (st ir ip im n:Nat) (w:Int) (d1:Dv) (x7 x8 x9:Bi):Ev:=[some (.ref st),some d1,some (.int n),some (.ref ir),some (.int w),some (.ref ip),some (.ref im),x7,x8,x9]
def jS:MS:=eC (aR pN (aB (m2 bJ (aA 7) (mC (.int 1))) (aB (aA 2) aC))) (aE 8) oB
theorem mE {H:Hs}{x8 x9:Bi}{ps:y'}{i:Nat}(D:Std st ir im ys ms H) (ep:getL H ip=some (ps.map aK)) (hw:0<=w/\w<5) (hi:i<n) (hn:n<=6) (hy:ys.length=n) (hm:ms.length=n) (hl:ps.length<=500) (hb:sJ ys n ps)
  (h1:ir≠st) (h2:im≠st) (h3:ip≠st) (h4:ir≠ip) (h5:im≠ip):
  ∃(Fm Em:Bi) (H':Hs) (Ck:y'),jS (cF st ir ip im n w d1 (some (.int i)) x8 x9) H=.nx (cF st ir ip im n w d1 (some (.int i)) Fm Em) H'/\getL H' ip=some (Ck.map aK)/\sJ ys n Ck/\Ck.length<=ps.length+6/\Std st ir im ys ms H'/\Fr [st,ip] H H':=by
 have hi0:aR pN (aB (m2 bJ (aA 7) (mC (.int 1))) (aB (aA 2) aC)) (cF st ir ip im n w d1 (some (.int i)) x8 x9) H=.ok (cS ((i:Int)+1) n) H:=by have q:aB (m2 bJ (aA 7) (mC (.int 1))) (aB (aA 2) aC) (cF st ir ip im n w d1 (some (.int i)) x8 x9) H=.ok [.int ((i:Int)+1),.int n] H:=rfl;unfold aR;rw[q,Rs.bind_ok];exact z34 (by omega) (by omega) (by omega) (by omega)
 have hN:(cS ((i:Int)+1) (n:Int)).n=n - (i+1):=by show((n:Int) - ((i:Int)+1)).toNat=_;omega
 obtain⟨ρ',H',r1,Fm,Em,Ck,e1,e2,e3,e4,e5,e6⟩:=nI (b:=oB) (sg:=aE 8) hi0 (λk ρ H'=>∃(Fm Em:Bi) (Ck:y'),ρ=cF st ir ip im n w d1 (some (.int i)) Fm Em/\getL H' ip=some (Ck.map aK)/\sJ ys n Ck/\Ck.length<=ps.length+k/\Std st ir im ys ms H'/\Fr [st,ip] H H')
  (λk ρ H' hk ⟨Fm,Em,Ck,e1,e2,e3,e4,e5,e6⟩=>by
   subst e1;rw[hN]at hk;have hj:i+1+k<n:=by omega
   obtain⟨x9n,H2,ps2,b1,b2,b3,b4,b5⟩:=mD (x9:=Em) (w:=w) (d1:=d1) (ip:=ip) (n:=n) (i:=i) (j:=i+1+k) e5 e2 hw hi hj hy hm (by omega) h1 h2 h3 h4 h5;have ej:(((i+1+k:Nat)):Int)=(i:Int)+1+(k:Int):=by omega
   rw[ej]at b1;refine⟨.int ((i:Int)+1+(k:Int)),cF st ir ip im n w d1 (some (.int i)) (some (.int ((i:Int)+1+(k:Int)))) Em,_,H2,rfl,rfl,b1,_,_,ps2,rfl,b2, ?_, ?_,b4,e6.trans b5 λj hj=>.inl hj⟩
   ·rcases b3 with rfl|rfl
    ·exact e3
    ·intro p hp
     rcases br.mp hp with hp|hp
     ·exact e3 p hp
     ·rw[cg.mp hp];exact⟨i,i+1+k,by omega,hj,rfl⟩
   ·rcases b3 with rfl|rfl
    ·omega
    ·rw[bx];simp;omega) (λ_ _ _=>rfl) ⟨x8,x9,ps,rfl,ep,hb,by omega,D,Gm⟩
 rw[hN]at e4;exact⟨Fm,Em,H',Ck,by unfold jS;rw[r1,e1],e2,e3,by omega,e5,e6⟩
def kJ:MS:=eC (aR cN (aB (aA 2) aC)) (aE 7) jS
theorem mF {H:Hs}{x7 x8 x9:Bi}(D:Std st ir im ys ms H) (ep:getL H ip=some (([]:y').map aK)) (hw:0<=w/\w<5) (hn:n<=6) (hy:ys.length=n) (hm:ms.length=n)
  (h1:ir≠st) (h2:im≠st) (h3:ip≠st) (h4:ir≠ip) (h5:im≠ip):
  ∃(x7' Fm Em:Bi) (H':Hs) (Ck:y'),kJ (cF st ir ip im n w d1 x7 x8 x9) H=.nx (cF st ir ip im n w d1 x7' Fm Em) H'/\getL H' ip=some (Ck.map aK)/\sJ ys n Ck/\Std st ir im ys ms H'/\Fr [st,ip] H H':=by
 have hi0:aR cN (aB (aA 2) aC) (cF st ir ip im n w d1 x7 x8 x9) H=.ok (cS 0 n) H:=by have q:aB (aA 2) aC (cF st ir ip im n w d1 x7 x8 x9) H=.ok [.int n] H:=rfl;unfold aR;rw[q,Rs.bind_ok];exact FE (by omega) (by omega)
 have hN:(cS 0 (n:Int)).n=n:=by simp[cS]
 obtain⟨ρ',H',r1,x7',Fm,Em,Ck,e1,e2,e3,e4,e5,e6⟩:=nI (b:=jS) (sg:=aE 7) hi0 (λk ρ H'=>∃(x7' Fm Em:Bi) (Ck:y'),ρ=cF st ir ip im n w d1 x7' Fm Em/\getL H' ip=some (Ck.map aK)/\sJ ys n Ck/\Ck.length<=6*k/\Std st ir im ys ms H'/\Fr [st,ip] H H')
  (λk ρ H' hk ⟨x7',Fm,Em,Ck,e1,e2,e3,e4,e5,e6⟩=>by
   subst e1;rw[hN]at hk;obtain⟨x8n,x9n,H2,ps2,b1,b2,b3,b4,b5,b6⟩:=mE (x8:=Fm) (x9:=Em) (w:=w) (d1:=d1) (ip:=ip) (n:=n) (i:=k) e5 e2 hw hk hn hy hm (by omega) e3 h1 h2 h3 h4 h5;have ek:(0:Int)+(k:Int)=(k:Int):=by omega
   refine⟨.int (0+(k:Int)),cF st ir ip im n w d1 (some (.int k)) Fm Em,_,H2,rfl,by rw[ek];rfl,b1,_,_,_,ps2,rfl,b2,b3,by omega,b5,e6.trans b6 λj hj=>.inl hj⟩) (λ_ _ _=>rfl) ⟨x7,x8,x9,[],rfl,ep,λp hp=>by simp at hp,by simp,D,Gm⟩
 exact⟨x7',Fm,Em,H',Ck,by unfold kJ;rw[r1,e1],e2,e3,e5,e6⟩
theorem z35 (pm:ys.Perm (bR n)) {ps:y'}(h:sJ ys n ps):zO n ps:=by
 have hl:ys.length=n:=by rw[pm.length_eq];simp[bR]
 have nd:ys.Nodup:=by refine pm.nodup_iff.mpr ?_;unfold bR;simp only[fj];refine List.Pairwise.map _ ?_ (tm (n:=n));intro a b h e;exact h (by omega)
 have mem:∀i,i<n->0<=ys.getD i 0/\ys.getD i 0<n:=λi hi=>by have hm:ys.getD i 0∈bR n:=pm.mem_iff.mp (by simp[show i<ys.length by omega]);simp only[bR,cp,bu,fj]at hm;obtain⟨k,hk,e⟩:=hm;omega
 refine⟨λp hp=>?_,λa=>((fJ a ys).getD 0:Nat),λp hp=>?_⟩
 ·obtain⟨i,j,C',hj,rfl⟩:=h p hp;exact⟨(mem i (by omega)).1,(mem i (by omega)).2,(mem j hj).1,(mem j hj).2⟩
 ·obtain⟨i,j,C',hj,rfl⟩:=h p hp;have hi':i<ys.length:=by omega
  have hj':j<ys.length:=by omega
  have e1:ys.getD i 0=ys[i]:=by simp[hi']
  have e2:ys.getD j 0=ys[j]:=by simp[hj']
  simp only[e1,e2,E9 nd i hi',E9 nd j hj',Option.getD_some];omega
def FF (ms:Bd) (n:Nat) (ps:y'):Prop:=∀p∈ps,∃i j:Nat,i<n/\j<n/\ms.getD i 0<ms.getD j 0/\p=((i:Int),(j:Int))
theorem z36 {ps:y'}(h:FF ms n ps):zO n ps:=by
 refine⟨λp hp=>?_,λa=>ms.getD a.toNat 0,λp hp=>?_⟩
 ·obtain⟨i,j,hi,hj,_,rfl⟩:=h p hp;exact⟨by simp,by simpa using hi,by simp,by simpa using hj⟩
 ·obtain⟨i,j,hi,hj,hlt,rfl⟩:=h p hp;simpa using hlt
def zP:M Bh :=bM (aR cN (aB (aA 2) aC)) [none,some 7,some 6] (aE 0) (mB (m2 eZ (m2 aU (aA 2) (aA 1)) (m2 aU (aA 2) (aA 0)))) (bA (aL (aB (aA 1) (aB (aA 0) aC))))
def vH:MS:=aJ (m2 bJ (aA 5) (bH zP)) (aE 5)
def gY (ms:Bd) (n i:Nat):y':=(bo n).filterMap λj=>if ms.getD i 0<ms.getD j 0 then some ((i:Int),(j:Int))else none
theorem z37 {H:Hs}{x8 x9:Bi}{i:Nat}(em:getL H im=some (ms.map Fx)) (hi:i<n) (hn:n<=6) (hm:ms.length=n):
  zP (cF st ir ip im n w d1 (some (.int i)) x8 x9) H=.ok ((gY ms n i).map aK) H:=by
 have hi0:aR cN (aB (aA 2) aC) (cF st ir ip im n w d1 (some (.int i)) x8 x9) H=.ok (cS 0 n) H:=by have q:aB (aA 2) aC (cF st ir ip im n w d1 (some (.int i)) x8 x9) H=.ok [.int n] H:=rfl;unfold aR;rw[q,Rs.bind_ok];exact FE (by omega) (by omega)
 have h:zP (cF st ir ip im n w d1 (some (.int i)) x8 x9) H=.ok ((bo n).filterMap λj=>if ms.getD i 0<ms.getD j 0 then some (aK ((i:Int),(j:Int)))else none) H:=
  gX (bo n) (λj=>if ms.getD i 0<ms.getD j 0 then some (aK ((i:Int),(j:Int)))else none) (λρ=>∃a,ρ=[a,some (.int i),some (.ref im)]) hi0 (by simp[cS]) ⟨_,rfl⟩ rfl (λk hk ρ ⟨a,er⟩=>by
   subst er;have Dp:k<n:=by simpa using hk
   have gk:(bo n)[k]=k:=by simp
   rw[gk];have ek:(0:Int)+(k:Int)=(k:Int):=by omega
   refine⟨.int (0+(k:Int)),[some (.int k),some (.int i),some (.ref im)],rfl,by rw[ek];rfl,⟨_,rfl⟩, ?_⟩;have x1:=qJ em (k:=i) (by omega);have x2:=qJ em (k:=k) (by omega);have g1:ms[i]=ms.getD i 0:=by simp[show i<ms.length by omega]
   have g2:ms[k]=ms.getD k 0:=by simp[show k<ms.length by omega]
   rw[g1]at x1;rw[g2]at x2;generalize ms.getD i 0=va at x1 ⊢;generalize ms.getD k 0=vb at x2 ⊢;have te:mB (m2 eZ (m2 aU (aA 2) (aA 1)) (m2 aU (aA 2) (aA 0))) [some (.int k),some (.int i),some (.ref im)] H=.ok (decide (va<vb)) H:=by simp[mB,m2,aA,x1,x2,eZ,dF]
   by_cases c:va<vb
   ·rw[if_pos c];rw[decide_eq_true c]at te;exact⟨te,rfl⟩
   ·rw[if_neg c];rw[decide_eq_false c]at te;exact te) (by simp;omega)
 have e:((bo n).filterMap λj=>if ms.getD i 0<ms.getD j 0 then some (aK ((i:Int),(j:Int)))else none)=(gY ms n i).map aK:=by
  unfold gY;rw[List.map_filterMap];refine DL _ λj _=>?_
  split <;> rfl
 rw[h,e]
theorem z38 {H:Hs}{ip0:Nat}{x7 x8 x9:Bi}(D:Std st ir im ys ms H) (ep:getL H ip0=some (([]:y').map aK)) (hn:n<=6) (hm:ms.length=n):
  ∃(Fo:Nat) (x7':Bi) (H':Hs) (Ck:y'),eC (aR cN (aB (aA 2) aC)) (aE 7) vH (cF st ir ip0 im n w d1 x7 x8 x9) H=.nx (cF st ir Fo im n w d1 x7' x8 x9) H'/\getL H' Fo=some (Ck.map aK)/\FF ms n Ck/\Fr [] H H':=by
 have hi0:aR cN (aB (aA 2) aC) (cF st ir ip0 im n w d1 x7 x8 x9) H=.ok (cS 0 n) H:=by have q:aB (aA 2) aC (cF st ir ip0 im n w d1 x7 x8 x9) H=.ok [.int n] H:=rfl;unfold aR;rw[q,Rs.bind_ok];exact FE (by omega) (by omega)
 have hN:(cS 0 (n:Int)).n=n:=by simp[cS]
 obtain⟨ρ',H',r1,Fo,x7',Ck,e1,e2,e3,e4,e5⟩:=nI (b:=vH) (sg:=aE 7) hi0 (λk ρ H'=>∃(Fo:Nat) (x7':Bi) (Ck:y'),ρ=cF st ir Fo im n w d1 x7' x8 x9/\getL H' Fo=some (Ck.map aK)/\FF ms n Ck/\Ck.length<=6*k/\Fr [] H H')
  (λk ρ H' hk ⟨Fo,x7',Ck,e1,e2,e3,e4,e5⟩=>by
   subst e1;rw[hN]at hk;have em:=e5.getL D.m (by simp);have hc:=z37 (st:=st) (ir:=ir) (ip:=Fo) (w:=w) (d1:=d1) (x8:=x8) (x9:=x9) em hk hn hm;have hrl:(gY ms n k).length<=6:=by have:=nq (λj=>if ms.getD k 0<ms.getD j 0 then some ((k:Int),(j:Int))else none) (bo n);unfold gY;rw[mm]at this;omega
   have ek:(0:Int)+(k:Int)=(k:Int):=by omega
   have ep1:=gQ (l:=[Fy ((gY ms n k).map aK)]) e2;have eq1:getL (H'++[Fy ((gY ms n k).map aK)]) H'.length=some ((gY ms n k).map aK):=by simp[getL]
   have hz:(Ck.map aK).length+((gY ms n k).map aK).length<=1000000:=by rw[bg,bg];omega
   have hb:vH (cF st ir Fo im n w d1 (some (.int k)) x8 x9) H'=.nx (cF st ir (H'.length+1) im n w d1 (some (.int k)) x8 x9) (H'++[Fy ((gY ms n k).map aK)]++[Fy ((Ck++gY ms n k).map aK)]):=by
    have ha:bJ (.ref Fo) (.ref H'.length) (H'++[Fy ((gY ms n k).map aK)])=.ok (.ref (H'.length+1)) (H'++[Fy ((gY ms n k).map aK)]++[Fy ((Ck++gY ms n k).map aK)]):=by show kQ (.ref Fo) (.ref H'.length) (H'++[Fy ((gY ms n k).map aK)])=_;simp only[kQ,ep1,eq1,lim,hz,if_true];simp
    have hal:bH zP (cF st ir Fo im n w d1 (some (.int k)) x8 x9) H'=.ok (.ref H'.length) (H'++[Fy ((gY ms n k).map aK)]):=by unfold bH;rw[hc];rfl
    unfold vH aJ m2;show((Gp (Gk Fo) H').bind _).thenS _=_;rw[Rs.bind_ok,hal,Rs.bind_ok,ha];rfl
   refine⟨.int (0+(k:Int)),cF st ir Fo im n w d1 (some (.int k)) x8 x9,_,_,rfl,by rw[ek];rfl,hb,H'.length+1,_,Ck++gY ms n k,rfl,by simp[getL], ?_,by rw[bx];omega,e5.trans (Gu (T:=[]) (Fz (S:=[])) Fz (by simp)) (by simp)⟩;intro p hp
   rcases br.mp hp with hp|hp
   ·exact e3 p hp
   ·unfold gY at hp;obtain⟨j,hj,e⟩:=jz.mp hp
    split at e
    ·rename_i c;cases e;exact⟨k,j,hk,bu.mp hj,c,rfl⟩
    ·cases e) (λ_ _ _=>rfl) ⟨ip0,x7,[],rfl,ep,λp hp=>by simp at hp,by simp,Gm⟩
 exact⟨Fo,x7',H',Ck,by rw[r1,e1],e2,e3,e5⟩
end
def o1:MS:=aJ (m2 nE (aA 1) (m2 aU (aQ (aB (mC (.int 0)) (aB (mC (.int 0)) (aB (mC (.int 1)) (aB (mC (.int 2)) (aB (mC (.int 0)) (aB (mC (.int 3)) (aB (mC (.int 1)) (aB (mC (.int 4)) aC))))))))) (aF F_qr (aB (aA 0) (aB (mC (.int 8)) aC))))) (aE 2)
def o2:MS:=aJ (aF mW (aB (mC (.int 1)) (aB (aA 2) aC))) (aE 2)
def o3:MS:=aJ (aF F_qb (aB (aA 0) (aB (aF (f1 lT) (aB (aA 2) aC)) aC))) (aE 3)
def o4:MS:=aJ (aF F_qr (aB (aA 0) (aB (mC (.int 5)) aC))) (aE 4)
def o5:MS:=aJ (aQ aC) (aE 5)
def kK:M Bh :=bM (bF cG (aA 3)) [none,some 0] (aE 0) cT (bA (aF F_qr (aB (aA 1) (aB (mC (.int 3)) aC))))
def o6:MS:=aJ (bH kK) (aE 6)
def o8:MS:=bS (mB (m2 bT (aA 4) (mC (.int 3)))) (aH (aJ (aQ aC) (aE 5)) (eC (aR cN (aB (aA 2) aC)) (aE 7) vH)) cA
def o9:MS:=aO (aL (aB (aA 2) (aB (aF (f1 gN) (aB (aF F_qg (aB (aA 5) aC)) aC)) aC)))
theorem mG:jD=aH o1 (aH o2 (aH o3 (aH o4 (aH o5 (aH o6 (aH kJ (aH o8 o9))))))):=rfl
section
variable{st:Nat}
theorem mH {H:Hs}{m:Int}{x2 x3 x4 x5 x6 x7 x8 x9:Bi}(s:St st H):∃(v:Int) (H':Hs),0<=v/\v<=4/\o1 [some (.ref st),some (.int m),x2,x3,x4,x5,x6,x7,x8,x9] H=.nx [some (.ref st),some (.int m),some (.int (m - v)),x3,x4,x5,x6,x7,x8,x9] H'/\St st H'/\Fr [st] H H':=by
 have fA:Fr [] H (H++[Fy [.int 0,.int 0,.int 1,.int 2,.int 0,.int 3,.int 1,.int 4]]):=Fz;have eA:getL (H++[Fy [.int 0,.int 0,.int 1,.int 2,.int 0,.int 3,.int 1,.int 4]]) H.length=some (([0,0,1,2,0,3,1,4]:Bd).map Fx):=by simp[getL]
 have sA:=s.fr fA (by simp);have lt:=s.lt;have hd:aQ (aB (mC (.int 0)) (aB (mC (.int 0)) (aB (mC (.int 1)) (aB (mC (.int 2)) (aB (mC (.int 0)) (aB (mC (.int 3)) (aB (mC (.int 1)) (aB (mC (.int 4)) aC)))))))) [some (.ref st),some (.int m),x2,x3,x4,x5,x6,x7,x8,x9] H=.ok (.ref H.length) (H++[Fy [.int 0,.int 0,.int 1,.int 2,.int 0,.int 3,.int 1,.int 4]]):=rfl;generalize H++[Fy [.int 0,.int 0,.int 1,.int 2,.int 0,.int 3,.int 1,.int 4]]=HA at fA eA sA hd;obtain⟨r,H1,r0,r1,t1,f1,s1⟩:=jR 8 sA;have e1:=f1.getL eA (by simp;omega);obtain⟨k,rfl⟩:∃k:Nat,r=k:=⟨r.toNat,by omega⟩
 have hk:k<8:=by omega
 have hx:=qJ e1 (k:=k) (by simpa using hk);have hv:0<=([0,0,1,2,0,3,1,4]:Bd)[k]/\([0,0,1,2,0,3,1,4]:Bd)[k]<=4:=by
  match k,hk with
  |0,_=>simp
  |1,_=>simp
  |2,_=>simp
  |3,_=>simp
  |4,_=>simp
  |5,_=>simp
  |6,_=>simp
  |7,_=>simp
 generalize ([0,0,1,2,0,3,1,4]:Bd)[k]=v at hx hv;refine⟨v,H1,hv.1,hv.2, ?_,s1,fA.mono (T:=[st]) (by simp) |>.trans f1 (by simp)⟩;have ht:aF F_qr (aB (aA 0) (aB (mC (.int 8)) aC)) [some (.ref st),some (.int m),x2,x3,x4,x5,x6,x7,x8,x9] HA=.ok (.int k) H1:=by simp[aF,aB,aA,mC,aC,t1]
 unfold o1 aJ m2;show((Gp (Fx m) H).bind _).thenS _=_;rw[Rs.bind_ok,hd,Rs.bind_ok,ht,Rs.bind_ok,hx,Rs.bind_ok];rfl
theorem mI {H:Hs}{ir:Nat}{ys:Bd}{x1 x2 x4 x5 x6 x7 x8 x9:Bi}(s:St st H) (er:getL H ir=some (ys.map Fx)) (hrs:ir≠st) (hl:ys.length<=100):∃(ms:Bd) (H':Hs),ms.length=ys.length/\o6 [some (.ref st),x1,x2,some (.ref ir),x4,x5,x6,x7,x8,x9] H=.nx [some (.ref st),x1,x2,some (.ref ir),x4,x5,some (.ref H'.length),x7,x8,x9] (H'++[.lst (ms.map Fx)])/\St st H'/\Fr [st] H H':=by
 have hi:bF cG (aA 3) [some (.ref st),x1,x2,some (.ref ir),x4,x5,x6,x7,x8,x9] H=.ok (cP ir ys.length) H:=by simp[bF,aA,cG,er]
 obtain⟨ρ',H',Fd,h1,a,ms,h2,h3,h4,h5,h6⟩:=xY (src:=cP ir ys.length) (sg:=aE 0) (t:=cT) (m:=bA (aF F_qr (aB (aA 1) (aB (mC (.int 3)) aC))))
  (λk ρ H' acc=>∃(a:Bi) (ms:Bd),ρ=[a,some (.ref st)]/\acc=ms.map Fx/\ms.length=k/\St st H'/\Fr [st] H H')
  (λk ρ H' acc hk ⟨a,ms,e1,e2,e3,e4,e5⟩=>by
   subst e1;subst e2;have Dp:k<ys.length:=hk;obtain⟨r,H1,r0,r1,t1,f1,s1⟩:=jR 3 e4;have er':=e5.getL er (by simpa using hrs);refine⟨.int ys[k],[some (.int ys[k]),some (.ref st)],zM er' Dp,rfl,.inr ⟨H',[some (.int ys[k]),some (.ref st)],(ms++[r]).map Fx,H1,rfl, ?_,_,ms++[r],rfl,rfl,by simp[e3],s1,e5.trans f1 (by simp)⟩⟩;have hz:ms.length<1000000:=by omega
   simp[bA,aF,aB,aA,mC,aC,t1,hz]) (λρ H' acc ⟨_,_,_,_,_,_,e5⟩=>zN (e5.getL er (by simpa using hrs))) ys.length 0 [none,some (.ref st)] H [] (by simp[cP]) ⟨none,[],rfl,rfl,rfl,s,Gm⟩
 refine⟨ms,H',h4, ?_,h5,h6⟩;have hc:kK [some (.ref st),x1,x2,some (.ref ir),x4,x5,x6,x7,x8,x9] H=.ok (ms.map Fx) H':=by unfold kK bM;rw[hi,Rs.bind_ok];have hcap:jL [none,some 0] [some (.ref st),x1,x2,some (.ref ir),x4,x5,x6,x7,x8,x9]=[none,some (.ref st)]:=rfl;rw[hcap,show(cP ir ys.length).n=ys.length from rfl,h1];dsimp only;rw[h3]
 unfold o6 aJ bH;rw[hc];rfl
theorem mJ {H:Hs}(s:St st H):∃(n:Nat) (cs:y') (H':Hs),F_qj [.ref st,.int 6] H=.ok (aM n cs) H'/\By n cs/\St st H'/\Fr [st] H H':=by
 have lt:=s.lt;obtain⟨v,H1,v0,v1,w1,s1,f1'⟩:=mH (m:=6) (x2:=none) (x3:=none) (x4:=none) (x5:=none) (x6:=none) (x7:=none) (x8:=none) (x9:=none) s;obtain⟨n,hn⟩:∃n:Nat,(6:Int) - v=n:=⟨(6 - v).toNat,by omega⟩
 have n1:1<=n:=by omega
 have n6:n<=6:=by omega
 rw[hn]at w1;have w2:o2 [some (.ref st),some (.int 6),some (.int n),none,none,none,none,none,none,none] H1=.nx [some (.ref st),some (.int 6),some (.int n),none,none,none,none,none,none,none] H1:=by
  have hm:mW [.int 1,.int (n:Int)] H1=.ok (.int n) H1:=by
   show Gp (Fx (if(n:Int)>1 then(n:Int)else 1)) H1=_
   split
   ·rfl
   ·rw[show(1:Int)=n by omega]
  simp[o2,aJ,aF,aB,mC,aA,aC,hm,aE]
 have hL:lT (.int n) H1=.ok (.ref H1.length) (H1++[.lst ((bR n).map Fx)]):=by
  have c:(decide (0<=(n:Int))&&decide ((n:Int)<=1000))=true:=by simp;omega
  simp only[lT,c,if_true]
 have fL:Fr [] H1 (H1++[Fy ((bR n).map Fx)]):=Fz;obtain⟨ir,ys,H2,t2,er,pm,hir,s2,f2⟩:=z2s (s1.fr fL (by simp)) (j:=H1.length) (xs:=bR n) (by simp[getL]) (by simp[bR];omega);have l1:=s1.lt;have hir':H1.length+1<=ir:=by simpa using hir
 have w3:o3 [some (.ref st),some (.int 6),some (.int n),none,none,none,none,none,none,none] H1=.nx [some (.ref st),some (.int 6),some (.int n),some (.ref ir),none,none,none,none,none,none] H2:=by simp[o3,aJ,aF,aB,aA,aC,f1,hL,t2,aE]
 have hy:ys.length=n:=by rw[pm.length_eq];simp[bR]
 obtain⟨w,H3,w0,w5,t3,f3,s3⟩:=jR 5 s2;have er3:=f3.getL er (by simp;omega);have w4:o4 [some (.ref st),some (.int 6),some (.int n),some (.ref ir),none,none,none,none,none,none] H2=.nx [some (.ref st),some (.int 6),some (.int n),some (.ref ir),some (.int w),none,none,none,none,none] H3:=by simp[o4,aJ,aF,aB,aA,mC,aC,t3,aE]
 have w5':o5 [some (.ref st),some (.int 6),some (.int n),some (.ref ir),some (.int w),none,none,none,none,none] H3=.nx [some (.ref st),some (.int 6),some (.int n),some (.ref ir),some (.int w),some (.ref H3.length),none,none,none,none] (H3++[.lst []]):=rfl;have fM:Fr [] H3 (H3++[Fy []]):=Fz;have eP:getL (H3++[Fy []]) H3.length=some (([]:y').map aK):=by simp[getL]
 have l2:=nG er;have l3:=nG er3;have l4:=s3.lt;obtain⟨ms,H4,hm,w6,s4,f4⟩:=mI (x1:=some (.int 6)) (x2:=some (.int n)) (x4:=some (.int w)) (x5:=some (.ref H3.length)) (x6:=none) (x7:=none) (x8:=none) (x9:=none) (s3.fr fM (by simp)) (fM.getL er3 (by simp)) (by omega) (by omega);have eP4:=f4.getL eP (by simp;omega);have er4:=f4.getL (fM.getL er3 (by simp)) (by simp;omega);have hle:H3.length+1<=H4.length:=by have:=f4.le;simpa using this
 have fN:Fr [] H4 (H4++[Fy (ms.map Fx)]):=Fz;have D:Std st ir H4.length ys ms (H4++[Fy (ms.map Fx)]):=⟨s4.fr fN (by simp),fN.getL er4 (by simp),by simp[getL]⟩
 obtain⟨x7,x8,x9,H5,ps,w7,eP5,hb,D5,f5⟩:=mF (d1:=.int 6) (w:=w) (ip:=H3.length) (n:=n) (x7:=none) (x8:=none) (x9:=none) D (fN.getL eP4 (by simp)) ⟨w0,w5⟩ n6 hy (by omega) (by omega) (by omega) (by omega) (by omega) (by omega);have fall:Fr [st] H H5:=by
  have g1:Fr [st] H H2:=(f1'.trans fL (by simp)).trans f2 (by simp);have g2:Fr [st] H (H3++[Fy []]):=(g1.trans f3 (by simp)).trans fM (by simp);have g3:Fr [st] H (H4++[Fy (ms.map Fx)]):=(g2.trans f4 (by simp)).trans fN (by simp);refine g3.trans f5 λj hj=>?_
  rcases az.mp hj with rfl|hj
  ·exact .inl (by simp)
  ·rw[cg.mp hj];have:=f1'.le;have:=f2.le;have:=f3.le;right;omega
 have fin:∀(q:Nat) (y7:Bi) (H6:Hs) (qs:y'),getL H6 q=some (qs.map aK)->zO n qs->Fr [] H5 H6->o8 (cF st ir H3.length H4.length n w (.int 6) x7 x8 x9) H5=.nx (cF st ir q H4.length n w (.int 6) y7 x8 x9) H6->
   ∃(cs:y') (H':Hs),F_qj [.ref st,.int 6] H=.ok (aM n cs) H'/\By n cs/\St st H'/\Fr [st] H H':=λq y7 H6 qs eq6 g6 f6 w8=>by
  obtain⟨cs,j,H7,hc,tc,ec,f7⟩:=z32 n6 g6.1 (OG eq6);refine⟨cs,H7, ?_,z33 n1 n6 g6 hc,(D5.s.fr f6 (by simp)).fr f7 (by simp),(fall.trans f6 (by simp)).trans f7 (by simp)⟩;have w9:o9 (cF st ir q H4.length n w (.int 6) y7 x8 x9) H6=.rt (aM n cs) H7:=by
   have h1:aF F_qg (aB (aA 5) aC) (cF st ir q H4.length n w (.int 6) y7 x8 x9) H6=.ok (.ref j) H7:=by simp[aF,aB,aA,aC,tc]
   have h2:aF (f1 gN) (aB (aF F_qg (aB (aA 5) aC)) aC) (cF st ir q H4.length n w (.int 6) y7 x8 x9) H6=.ok (.tup (cs.map aK)) H7:=by
    have h0:aB (aF F_qg (aB (aA 5) aC)) aC (cF st ir q H4.length n w (.int 6) y7 x8 x9) H6=.ok [.ref j] H7:=by show(aF F_qg (aB (aA 5) aC) (cF st ir q H4.length n w (.int 6) y7 x8 x9) H6).bind _=_;rw[h1];rfl
    show(aB (aF F_qg (aB (aA 5) aC)) aC (cF st ir q H4.length n w (.int 6) y7 x8 x9) H6).bind _=_;rw[h0];simp[f1,gN,ec]
   unfold o9 aO aL;rw[show aB (aA 2) (aB (aF (f1 gN) (aB (aF F_qg (aB (aA 5) aC)) aC)) aC) (cF st ir q H4.length n w (.int 6) y7 x8 x9) H6=.ok [.int n,.tup (cs.map aK)] H7 by unfold aB;show((Gp (Fx n) H6).bind _)=_;rw[Rs.bind_ok];show((aF (f1 gN) (aB (aF F_qg (aB (aA 5) aC)) aC) (cF st ir q H4.length n w (.int 6) y7 x8 x9) H6).bind _).bind _=_;rw[h2];rfl];rfl
  show bK (jD [some (.ref st),some (.int 6),none,none,none,none,none,none,none,none] H)=_;rw[mG,bE w1,bE w2,bE w3,bE w4,bE w5',bE w6,bE w7,bE w8,w9];rfl
 have t8:mB (m2 bT (aA 4) (mC (.int 3))) (cF st ir H3.length H4.length n w (.int 6) x7 x8 x9) H5=.ok (w==3) H5:=by simp[mB,m2,aA,mC,sH,dF]
 by_cases h3:w=3
 ·have fQ:Fr [] H5 (H5++[Fy []]):=Fz;obtain⟨q,y7,H6,qs,k1,k2,k3,k4⟩:=z38 (st:=st) (ir:=ir) (im:=H4.length) (n:=n) (w:=w) (d1:=.int 6) (ip0:=H5.length) (x7:=x7) (x8:=x8) (x9:=x9) (D5.fr fQ (D5.s.fr fQ (by simp)) (by simp) (by simp)) (by simp[getL]) n6 (by omega);obtain⟨cs,H',r⟩:=fin q y7 H6 qs k2 (z36 k3) (fQ.trans k4 (by simp)) (by unfold o8;have wA:aJ (aQ aC) (aE 5) (cF st ir H3.length H4.length n w (.int 6) x7 x8 x9) H5=.nx (cF st ir H5.length H4.length n w (.int 6) x7 x8 x9) (H5++[Fy []]):=rfl;rw[oV (t8.trans (by rw[h3];rfl)),bE wA,k1]);exact⟨n,cs,H',r⟩
 ·obtain⟨cs,H',r⟩:=fin H3.length x7 H5 ps eP5 (z35 pm hb) Gm (by
   unfold o8;have:(w==3)=false:=by simpa using h3
   rw[kF (t8.trans (by rw[this]))];rfl)
  exact⟨n,cs,H',r⟩
end
end L2.Mr.Com
namespace L2
section
variable{X:Cx}{D:ai}
end
section
variable{X:Cx}
end
end L2
namespace L2.Mr
section
variable{M:yf}{A:bw}{E:af->ag->Prop}{s:ag}{base:cy}{env:Env}{outer:List Env}{L e T:ai}{C a0:af}{Q:Unit->ag->Prop}
end
section
variable{P:bh}{w:cj}{M:yf}{A:bw}{E:af->ag->Prop}{s:ag}{H H0:Hp}{base:cy}{env:Env}{outer:List Env}{L e:ai}{C:af}{Q:Unit->ag->Prop}
end
section
variable{P:bh}{w:cj}{K:ao}{mg:Str->Option af}{base:cy}{N:Bf}{qual:Str}{scope:gq}{f:ai}{cdv:af}{A:bw}{outer:List Env}{s0:ag}{H0:Hp}{E0:XK}{G:Cfg}{E:XK}{k:Nat}
end
section
variable{G:Cfg}
end
section
variable{X:Cx}{G:Cfg}{E:XK}{elt tg iter:bj}{ifs:List bj}{sc:gq}{ps pos:Pos}{mi:M Src}{st:dE}{test:M Bool}{me:M Dv}{N:Bf}{cap:List (Option Nat)}
end
section
variable{P:bh}{w:cj}{K:ao}{mg:Str->Option af}{base:cy}{N:Bf}{qual:Str}{f:ai}{G:Cfg}{k:Nat}
end
end L2.Mr
namespace L2.Mr.Cod
open L2.Mr.Com
def mb_qo:MS:=(bS (cO (bO (aF F_qx (aB (aA 0) aC)))) (xK 0 (aB (mC (.str "this is no order")) aC)) cA)
def F_qo:Bg:=aY 1 1 (mb_qo)
open L2.Mr.Com hiding jC F_qg jD F_qj jE F_qa
section
variable{st n:Nat}
end
section
variable{n i:Nat}{H:Hs}{S:y'}{m a b:Int}{x0 x1 x3 x4 x5:Bi}
end
open L2.Mr.Com hiding jC F_qg jD F_qj jE F_qa oB mD mE mF jS kJ o1 o2 o3 o4 o5 o6 kK o8 o9 mG mH mI mJ cF
section
variable{st ip im n:Nat}{ys ms:Bd}{w:Int}{d1:Dv}
end
section
variable{st:Nat}
end
end L2.Mr.Cod
namespace L2.Mr.K01
open L2.Mr.Com
end L2.Mr.K01
namespace L2.Mr.Com
def T0 (H:Hs):Dv->Prop
 | .ref i=>∃xs,getL H i=some xs
 | .exc _=>False
 | .scr=>False
 |_=>True
def TK:Nat->Hs->Dv->Prop
 |0,H,d=>T0 H d
 |k+1,H,d=>T0 H d/\∀ds,d=.tup ds->ds.length<=500/\∀x∈ds,TK k H x
theorem TK.t0:∀{k:Nat}{H:Hs}{d:Dv},TK k H d->T0 H d
 |0,_,_,h=>h
 |_+1,_,_,h=>h.1
theorem TK.tup {k:Nat}{H:Hs}{ds:Bh}(hl:ds.length<=500) (h:∀x∈ds,TK k H x):TK (k+1) H (.tup ds):=⟨trivial,λ_ e=>by cases e;exact⟨hl,h⟩⟩
theorem TK.of {k:Nat}{H:Hs}{d:Dv}(h0:T0 H d) (h:∀ds,d≠.tup ds):TK k H d:=by
 cases k with
 |zero=>exact h0
 |succ k=>exact⟨h0,λds e=>absurd e (h ds)⟩
theorem T0.fr {st:Nat}{H H':Hs}{d:Dv}(h:T0 H d) (f:Fr [st] H H') (s:St st H'):T0 H' d:=by
 cases d with
 |ref i=>
  obtain⟨xs,e⟩:=h
  by_cases c:i=st
  ·subst c;obtain⟨a,b,e⟩:=s;exact⟨_,e⟩
  ·exact⟨xs,f.getL e (by simpa using c)⟩
 |_=>exact h
theorem TK.fr {st:Nat}{H H':Hs}(f:Fr [st] H H') (s:St st H'):∀{k:Nat}{d:Dv},TK k H d->TK k H' d
 |0,_,h=>T0.fr h f s
 |k+1,_,h=>⟨h.1.fr f s,λds e=>⟨(h.2 ds e).1,λx hx=>TK.fr f s ((h.2 ds e).2 x hx)⟩⟩
def nV:Dv->Bool
 | .tup _=>true
 |_=>false
def isInt:Dv->Bool
 | .int _=>true
 |_=>false
section
variable{H:Hs}{d:Dv}{n:Int}
theorem zQ (h:T0 H d):aV eY d H=.ok (.bl (nV d)) H:=by
 cases d with
 |ref i=>obtain⟨xs,e⟩:=h;simp[aV,fY,e,eY,nV]
 |exc c=>exact h.elim
 |scr=>exact h.elim
 |_=>rfl
theorem OJ (h:T0 H d):aV oR d H=.ok (.bl (match d with | .int _=>true | .bl _=>true|_=>false)) H:=by
 cases d with
 |ref i=>obtain⟨xs,e⟩:=h;simp[aV,fY,e,oR]
 |exc c=>exact h.elim
 |scr=>exact h.elim
 |_=>rfl
theorem OK (h:T0 H d):aV kD d H=.ok (.bl (match d with | .bl _=>true|_=>false)) H:=by
 cases d with
 |ref i=>obtain⟨xs,e⟩:=h;simp[aV,fY,e,kD]
 |exc c=>exact h.elim
 |scr=>exact h.elim
 |_=>rfl
theorem z39 (h:T0 H d):F_qz [d] H=.ok (.bl (isInt d)) H:=by
 have e1:=OJ h;have e2:=OK h
 cases d <;> simp[F_qz,DN,aY,bW,aO,eK,m1,aA,e1,e2,mV,bK,isInt]
def oY (lo hi:Int):Dv->Bool
 | .int x=>decide (lo<=x)&&decide (x<=hi)
 |_=>false
theorem OL {lo hi:Int}(h:T0 H d):F_qn [d,.int lo,.int hi] H=.ok (.bl (oY lo hi d)) H:=by
 have w:=z39 h
 cases d with
 |int x=>exact E5
 |_=>simp[F_qn,yK,aY,bW,aO,eK,aF,aB,aA,aC,w,isInt,bK,oY]
def tB (n:Int) (d:Dv):Bool:=oY 0 (n - 1) d
theorem z3a (h:T0 H d):F_qy [.int n,d] H=.ok (.bl (tB n d)) H:=by simp[F_qy,DO,aY,bW,aO,aF,aB,aA,aC,mC,m2,nE,iH,OL h,bK,tB]
def kL (n:Int):Dv->Bool
 | .tup ys=>ys.all (tB n)
 |_=>false
theorem OM (h:TK 1 H d):F_qm [.int n,d] H=.ok (.bl (kL n d)) H:=by
 have e:=zQ h.1
 cases d with
 |tup xs=>obtain⟨hl,hx⟩:=h.2 xs rfl;have h:bM (bF dY (aA 1)) [none,some 0] (aE 0) cT (bA (aF F_qy (aB (aA 1) (aB (aA 0) aC)))) [some (.int n),some (.tup xs)] H=.ok (xs.filterMap λx=>some (.bl (tB n x))) H:=gX xs (λx=>some (.bl (tB n x))) (λρ=>∃a,ρ=[a,some (.int n)]) rfl (by simp[cV]) ⟨_,rfl⟩ rfl (λk hk ρ ⟨a,e⟩=>by subst e;exact⟨xs[k],_,by simp[cV,hk],rfl,⟨_,rfl⟩,rfl,by simp[aF,aB,aA,aC,z3a (hx xs[k] (cm hk))]⟩) (by omega);simp[F_qm,yL,aY,bW,aO,eK,m1,aV,aA,fY,eY,qI h,bK,kL]
 |_=>simp[F_qm,yL,aY,bW,aO,eK,m1,aA,e,nV,bK,kL]
def pB (n:Int):Dv->Bool
 | .tup ys=>ys.all (tB n)&&decide (ys.length=2)
 |_=>false
theorem z3b (ys:Bh):f1 bX [.tup ys] H=.ok (.int ys.length) H:=rfl
theorem z3c (h:TK 1 H d):F_q1 [.int n,d] H=.ok (.bl (pB n d)) H:=by
 have h1:=OM (n:=n) h
 cases d with
 |tup ys=>
  cases q:ys.all (tB n)with
  |false=>simp[F_q1,rZ,aY,bW,aO,eK,aF,aB,aA,aC,h1,kL,pB,q,bK]
  |true=>
   have e:((ys.length:Int)==2)=decide (ys.length=2):=by rw[cw];simp;omega
   simp[F_q1,rZ,aY,bW,aO,eK,aF,aB,aA,aC,h1,kL,pB,q,bK,m2,z3b,mC,sH,e]
 |_=>simp[F_q1,rZ,aY,bW,aO,eK,aF,aB,aA,aC,h1,kL,pB,bK]
theorem z3d {xs:Bh}(h:TK 2 H (.tup xs)):F_qs [.int n,.tup xs] H=.ok (.bl (xs.all (pB n))) H:=by obtain⟨hl,hx⟩:=h.2 xs rfl;have h:bM (bF dY (aA 1)) [none,some 0] (aE 0) cT (bA (aF F_q1 (aB (aA 1) (aB (aA 0) aC)))) [some (.int n),some (.tup xs)] H=.ok (xs.filterMap λp=>some (.bl (pB n p))) H:=gX xs (λp=>some (.bl (pB n p))) (λρ=>∃a,ρ=[a,some (.int n)]) rfl (by simp[cV]) ⟨_,rfl⟩ rfl (λk hk ρ ⟨a,e⟩=>by subst e;exact⟨xs[k],_,by simp[cV,hk],rfl,⟨_,rfl⟩,rfl,by simp[aF,aB,aA,aC,z3c (hx xs[k] (cm hk))]⟩) (by omega);simp[F_qs,DP,aY,bW,aO,qI h,bK]
def qK:Dv->Option (Int×Int)
 | .tup [.int a,.int b]=>some (a,b)
 |_=>none
theorem z3e {x:Dv}(h:pB n x=true):∃p,x=aK p/\qK x=some p:=by
 match x,h with
 | .tup [.int a,.int b],_=>exact⟨(a,b),rfl,rfl⟩
 | .tup [a,b],h=>
  simp[pB]at h;obtain⟨h1,h2⟩:=h
  cases a <;> first|(cases h1;done)|skip
  cases b <;> first|(cases h2;done)|skip
  exact⟨_,rfl,rfl⟩
 | .tup [],h=>simp[pB]at h
 | .tup [_],h=>simp[pB]at h
 | .tup (_::_::_::_),h=>simp[pB]at h
theorem ON:∀{xs:Bh},(∀x∈xs,∃p,x=aK p/\qK x=some p)->xs=(xs.filterMap qK).map aK
 | [],_=>rfl
 |x::xs,h=>by obtain⟨p,e,q⟩:=h x (by simp);rw[List.filterMap_cons_some q,da,<-ON λy hy=>h y (by simp[hy]),<-e]
def fV:Dv->Bool
 | .tup [.int n,.tup xs]=>xs.all (pB n)&&sE n (xs.filterMap qK)
 |_=>false
theorem iD {ds:Bh}(h:ds.length≠2):∃L:Int,f1 bX [.tup ds] H=.ok (.int L) H/\cD (.int L) (.int 2) H=.ok (.bl true) H:=by
 refine⟨ds.length,rfl, ?_⟩;have:((ds.length:Int)==2)=false:=by simp;omega
 simp[cD,bZ,bC,bD,this]
theorem FG {ds:Bh}(h:ds.length≠2):F_qx [.tup ds] H=.ok (.bl false) H:=by obtain⟨L,hlen,hne⟩:=iD (H:=H) h;have e:aV eY (.tup ds) H=.ok (.bl true) H:=rfl;simp[F_qx,qB,aY,bW,aH,bS,dU,cO,bO,m1,aA,mB,m2,aF,aB,aC,mC,aO,e,fF,hlen,hne,dF,bK]
theorem FH {ds:Bh}(h:ds.length≠2):fV (.tup ds)=false:=by
 unfold fV
 split
 ·rename_i e;cases e;simp at h
 ·rfl
theorem z3f (h:TK 3 H d):F_qx [d] H=.ok (.bl (fV d)) H:=by
 have e:=zQ h.1
 cases d with
 |tup ds=>
  obtain⟨hl,hx⟩:=h.2 ds rfl
  match ds,hl,hx,e,h with
  | [a,b],hl,hx,e,h=>
   have ha:=hx a (by simp);have hb:=hx b (by simp);have b1:=OL (lo:=1) (hi:=6) ha.t0;have b2:=zQ hb.t0;have hlen:f1 bX [.tup [a,b]] H=.ok (.int 2) H:=rfl
   cases q1:oY 1 6 a with
   |false=>
    rw[q1]at b1;have:fV (.tup [a,b])=false:=by
     cases a with
     |int n=>
      cases b with
      |tup xs=>
       have:¬ (1<=n/\n<=6):=by simpa[oY]using q1
       simp only[fV,Bool.and_eq_false_iff];right;unfold sE
       by_cases c:1<=n
       ·have:¬ n<=6:=λc'=>this ⟨c,c'⟩;simp[this]
       ·simp[c]
      |_=>rfl
     |_=>rfl
    rw[this];simp[F_qx,qB,aY,bW,aH,bS,dU,cO,bO,m1,aA,e,nV,fF,mB,m2,aF,aB,aC,hlen,mC,cD,bZ,bC,bD,dF,cA,aJ,cH,aX,aE,cJ,b1,aO,bK]
   |true=>
    rw[q1]at b1
    cases a with
    |int n=>
     cases b with
     |tup xs=>
      have p1:=z3d (n:=n) hb
      cases q2:xs.all (pB n)with
      |false=>rw[q2]at p1;simp[fV,q2,F_qx,qB,aY,bW,aH,bS,dU,cO,bO,m1,aA,e,b2,nV,fF,mB,m2,aF,aB,aC,hlen,mC,cD,bZ,bC,bD,dF,cA,aJ,cH,aX,aE,cJ,b1,p1,aO,bK]
      |true=>
       have ex:=ON λx hx=>z3e (ey.mp q2 x hx);have hle:(xs.filterMap qK).length<=900:=by have:=nq qK xs;have:=(hb.2 xs rfl).1;omega
       have:=N9 (H:=H) (n:=n) (ps:=xs.filterMap qK) hle;rw[<-ex]at this;rw[this];simp[fV,q2]
     |_=>simp[fV,F_qx,qB,aY,bW,aH,bS,dU,cO,bO,m1,aA,e,b2,nV,fF,mB,m2,aF,aB,aC,hlen,mC,cD,bZ,bC,bD,dF,cA,aJ,cH,aX,aE,cJ,b1,aO,bK]
    |_=>cases q1
  | [],hl,hx,e,h=>exact(FG (by simp)).trans (by rw[FH (by simp)])
  | [a],hl,hx,e,h=>exact(FG (by simp)).trans (by rw[FH (by simp)])
  |a::b::c::r,hl,hx,e,h=>exact(FG (by simp)).trans (by rw[FH (by simp)])
 |_=>simp[F_qx,qB,aY,bW,aH,bS,dU,cO,bO,m1,aA,e,nV,fF,mC,aO,bK,fV]
end
section
variable{H:Hs}{d:Dv}{n:Int}
end
section
variable{H:Hs}{d:Dv}
end
theorem T0.fr0 {H H':Hs}{d:Dv}(h:T0 H d) (f:Fr [] H H'):T0 H' d:=by
 cases d with
 |ref i=>obtain⟨xs,e⟩:=h;exact⟨xs,f.getL e (by simp)⟩
 |_=>exact h
theorem TK.fr0 {H H':Hs}(f:Fr [] H H'):∀{k:Nat}{d:Dv},TK k H d->TK k H' d
 |0,_,h=>T0.fr0 h f
 |k+1,_,h=>⟨h.1.fr0 f,λds e=>⟨(h.2 ds e).1,λx hx=>TK.fr0 f ((h.2 ds e).2 x hx)⟩⟩
def OO (P:Ev->Hs->Prop):Prop:=∀ρ H H',P ρ H->Fr [] H H'->P ρ H'
def Wr (P:Ev->Hs->Prop) (k:Nat) (m:M Dv):Prop:=∀ρ H,P ρ H->∃d H',m ρ H=.ok d H'/\Fr [] H H'/\TK k H' d
def mK (P:Ev->Hs->Prop) (k n:Nat) (ms:M Bh ):Prop:=∀ρ H,P ρ H->∃ds H',ms ρ H=.ok ds H'/\Fr [] H H'/\ds.length=n/\∀x∈ds,TK k H' x
section
variable{P:Ev->Hs->Prop}{k n m':Nat}{m:M Dv}{ms:M Bh }
theorem FI:mK P k 0 aC:=λρ H _=>⟨[],H,rfl,Gm,rfl,λx hx=>by cases hx⟩
theorem FJ (hP:OO P) (h:Wr P k m) (hs:mK P k n ms):mK P k (n+1) (aB m ms):=λρ H p=>by
 obtain⟨d,H1,e1,f1,t1⟩:=h ρ H p;obtain⟨ds,H2,e2,f2,l2,t2⟩:=hs ρ H1 (hP ρ H H1 p f1);refine⟨d::ds,H2, ?_,f1.trans f2 (by simp),by simp[l2],λx hx=>?_⟩
 ·unfold aB;rw[e1,Rs.bind_ok,e2,Rs.bind_ok]
 ·rcases az.mp hx with rfl|hx
  ·exact t1.fr0 f2
  ·exact t2 x hx
theorem vI (h:∀ρ H,P ρ H->∃d,m ρ H=.ok d H/\TK k H d):Wr P k m:=λρ H p=>let ⟨d,e,t⟩:=h ρ H p;⟨d,H,e,Gm,t⟩
theorem FK {i:Int}:Wr P k (mC (.int i)):=vI λρ H _=>⟨_,rfl,TK.of trivial λ_ e=>by cases e⟩
theorem FL {i:Bool}:Wr P k (mC (.bl i)):=vI λρ H _=>⟨_,rfl,TK.of trivial λ_ e=>by cases e⟩
theorem FN:Wr P k (mC .non):=vI λρ H _=>⟨_,rfl,TK.of trivial λ_ e=>by cases e⟩
theorem FO {s}:Wr P k (mC (.str s)):=vI λρ H _=>⟨_,rfl,TK.of trivial λ_ e=>by cases e⟩
theorem FP:Wr P k (mC .edc):=vI λρ H _=>⟨_,rfl,TK.of trivial λ_ e=>by cases e⟩
theorem zR (h:mK P k n ms) (hn:n<=500):Wr P (k+1) (aL ms):=λρ H p=>by obtain⟨ds,H1,e1,f1,l1,t1⟩:=h ρ H p;refine⟨.tup ds,H1, ?_,f1,TK.tup (by omega) t1⟩;unfold aL lim;rw[e1,Rs.bind_ok,if_pos (by omega)]
theorem FQ (h:mK P 0 n ms) (hn:n<=500):Wr P 0 (aL ms):=λρ H p=>let ⟨d,H',e,f,t⟩:=zR h hn ρ H p;⟨d,H',e,f,t.1⟩
theorem FR (h:mK P 0 n ms) (hn:n<=500):Wr P k (aQ ms):=λρ H p=>by obtain⟨ds,H1,e1,f1,l1,t1⟩:=h ρ H p;refine⟨.ref H1.length,H1++[.lst ds], ?_,f1.trans (T:=[]) Fz (by simp),TK.of ⟨ds,by simp[getL]⟩ λ_ e=>by cases e⟩;unfold aQ lim;rw[e1,Rs.bind_ok,if_pos (by omega)]
end
def vJ:M Bh :=(aB (mC .non) (aB (mC (.int 0)) (aB (aL aC) (aB (aL (aB (mC (.int 0)) (aB (aL aC) aC))) (aB (aL (aB (mC (.int 7)) (aB (aL aC) aC))) (aB (aL (aB (mC (.bl true)) (aB (aL aC) aC))) (aB (aL (aB (mC (.int 2)) (aB (aQ aC) aC))) (aB (aQ (aB (mC (.int 2)) (aB (aL aC) aC))) (aB (aL (aB (mC (.int 2)) (aB (aL (aB (aL (aB (mC (.int 0)) (aB (mC (.int 1)) aC))) (aB (aL (aB (mC (.int 0)) (aB (mC (.int 1)) aC))) aC))) aC))) (aB (aL (aB (mC (.int 2)) (aB (aL (aB (aL (aB (mC (.int 1)) (aB (mC (.int 0)) aC))) (aB (aL (aB (mC (.int 0)) (aB (mC (.int 1)) aC))) aC))) aC))) aC))))))))))
def vK:M Bh :=(aB (aL (aB (mC (.int 3)) (aB (aL (aB (aL (aB (mC (.int 0)) (aB (mC (.int 1)) aC))) (aB (aL (aB (mC (.int 1)) (aB (mC (.int 2)) aC))) aC))) aC))) (aB (aL (aB (mC (.int 2)) (aB (aL (aB (aL (aB (mC (.int 0)) (aB (mC (.int 0)) aC))) aC)) aC))) (aB (aL (aB (mC (.int 2)) (aB (aL (aB (aL (aB (mC (.int 0)) (aB (mC (.int 2)) aC))) aC)) aC))) (aB (aL (aB (mC (.int 2)) (aB (aL (aB (aL (aB (mC (.int 0)) (aB (mC (.bl true)) aC))) aC)) aC))) (aB (aL (aB (mC (.int 2)) (aB (aL (aB (aL (aB (mC (.int 0)) (aB (mC (.int 1)) (aB (mC (.int 1)) aC)))) aC)) aC))) (aB (mC .edc) aC))))))
def vL:M Bh :=(aB (mC (.str "2:")) (aB (aL (aB (mC (.int 2)) (aB (aL (aB (mC (.int 0)) (aB (mC (.int 1)) aC))) aC))) (aB (aL (aB (mC (.int 3)) (aB (aL (aB (aL (aB (mC (.int 0)) (aB (mC (.int 2)) aC))) (aB (aL (aB (mC (.int 0)) (aB (mC (.int 1)) aC))) aC))) aC))) (aB (aL (aB (mC (.int 2)) (aB (mC .non) aC))) (aB (aL (aB (mC (.int 2)) (aB (aL aC) (aB (aL aC) aC)))) (aB (aL (aB (mC (.int 2)) aC)) (aB (aL (aB (mC (.int 2)) (aB (aL (aB (aQ (aB (mC (.int 0)) (aB (mC (.int 1)) aC))) aC)) aC))) (aB (aL (aB (mC (.int 2)) (aB (aL (aB (mC .non) aC)) aC))) aC))))))))
theorem z3g:jE=aH (aJ (aQ vJ) (aE 1)) (aH (aJ (m2 bJ (aA 1) (aQ vK)) (aE 1)) (aH (aJ (m2 bJ (aA 1) (aQ vL)) (aE 1)) (aO (m2 aU (aA 1) (aF F_qr (aB (aA 0) (aB (mC (.int 24)) aC))))))):=rfl
theorem zS {ρ:Ev}{H H1 H2:Hs}{st i j:Nat}{ml:M Dv}(hv:aA st ρ H=.ok (.ref i) H) (e1:ml ρ H=.ok (.ref j) H1) (e2:bJ (.ref i) (.ref j) H1=.ok (.ref H1.length) H2):m2 bJ (aA st) ml ρ H=.ok (.ref H1.length) H2:=by unfold m2;rw[hv,Rs.bind_ok,e1,Rs.bind_ok,e2]
end L2.Mr.Com
namespace L2.Mr.Cod
open L2.Mr.Com hiding jC F_qg jD F_qj jE F_qa oB mD mE mF jS kJ o1 o2 o3 o4 o5 o6 kK o8 o9 mG mH mI mJ cF
section
variable{H:Hs}
theorem nW {i j:Nat}{xs ys:Bh}(e1:getL H i=some xs) (e2:getL H j=some ys) (hl:xs.length+ys.length<=500):bJ (.ref i) (.ref j) H=.ok (.ref H.length) (H++[.lst (xs++ys)]):=by simp[bJ,kQ,e1,e2,lim];omega
theorem ixL {i j:Nat}{ds:Bh}(e:getL H i=some ds) (hj:j<ds.length):aU (.ref i) (.int j) H=.ok ds[j] H:=by
 have h1:eI ds.length (j:Int)=some j:=by unfold eI;rw[if_pos (by omega),if_pos (by omega)];simp
 have h2:gD ds (j:Int)=some ds[j]:=by unfold gD;rw[h1];simp[hj]
 simp only[aU,eQ,gG,e,jX,h2,if_true]
theorem last_get {x:Bh}:getL (H++[.lst x]) H.length=some x:=by simp[getL]
end
section
variable{n m:Nat}{H H':Hs}{i j:Nat}
end
end L2.Mr.Cod
namespace L2.Mr
end L2.Mr
namespace L2.Mr.Cod
open L2.Mr.Com hiding jC F_qg jD F_qj jE F_qa oB mD mE mF jS kJ o1 o2 o3 o4 o5 o6 kK o8 o9 mG mH mI mJ cF
section
variable{n:Nat}{ps:y'}{i:Nat}
end
section
variable{n:Nat}{ps:y'}{r:Int}{fs:Bd}
end
section
variable{n:Nat}{ps:y'}{r:Int}{fs:Bd}
end
section
variable{n:Nat}{ps:y'}{r:Int}{H:Hs}
end
section
variable{n:Nat}{ps:y'}{r:Int}{H:Hs}{i j:Nat}{fs:Bd}{nd:List (Int×Int×Int)}
end
section
variable{n:Nat}{ps:y'}{r:Int}{H:Hs}{i j:Nat}{fs:Bd}{nd:List (Int×Int×Int)}{d:Dv}
theorem need_ok (o:By n ps):F_qo [aM n ps] H=.ok .non H:=by simp[F_qo,mb_qo,aY,bW,bS,cO,bO,aF,aB,aA,aC,z2n o,fF,cA,bK]
theorem need_bad (h:TK 3 H d) (hb:fV d=false):F_qo [d] H=.ex 0 H:=by have e:=z3f h;rw[hb]at e;simp[F_qo,mb_qo,aY,bW,bS,cO,bO,aF,aB,aA,aC,e,fF,xK,mC,bK]
end
end L2.Mr.Cod
namespace L2.Mr.Com
section
variable{P:Ev->Hs->Prop}{l l':Nat}{m m':M Dv}
end
section
variable{st n:Nat}{cs:y'}{at_ a b:Int}
variable(o:By n cs)
include o
end
end L2.Mr.Com
namespace L2.Mr.Gen
open L2.Mr.Com
theorem FT {t u:M Bool}{ρ:Ev}{h h1:Hs}(e:t ρ h=.ok true h1):dU t u ρ h=.ok true h1:=by unfold dU;rw[e];rfl
theorem qL {t u:M Bool}{ρ:Ev}{h h1:Hs}(e:t ρ h=.ok false h1):dU t u ρ h=u ρ h1:=by unfold dU;rw[e];rfl
theorem qM {t:M Bool}{ρ:Ev}{h h1:Hs}{b:Bool}(e:t ρ h=.ok b h1):cO t ρ h=.ok (!b) h1:=by unfold cO;rw[e];rfl
theorem qN (xs ys:Bh) (hl:xs.length+ys.length<=1000) {H:Hs}:bJ (.tup xs) (.tup ys) H=.ok (.tup (xs++ys)) H:=by
 cases xs with
 |nil=>rfl
 |cons x xs=>
  have:(x::xs).length+ys.length<=1000000:=by omega
  have:xs.length+1+ys.length<=1000000:=by simp at this;omega
  simp[bJ,kQ,lim,this]
theorem z3h (ds:Bh) (k:Nat):kA ds none (some (k:Int))=ds.take k:=by unfold kA;rw[HT.sIx_none,HT.sIx_nat];simp
theorem OP (ds:Bh) (k:Nat):kA ds (some (k:Int)) none=ds.drop k:=by
 unfold kA;rw[HT.sIx_none,HT.sIx_nat]
 by_cases h:k<=ds.length
 ·rw[Nat.min_eq_left h];exact uc (by simp)
 ·rw[Nat.min_eq_right (by omega),Aa (ak _),Aa (by omega)];simp
section
variable{H:Hs}{xs:Bd}
theorem sL (ns:Bd):bP gB (ns.map Fx)=some ns:=by
 induction ns with
 |nil=>rfl
 |cons x xs ih=>simp[bP,gB,ih]
theorem zT {n:Int}:∀{ds:Bh},ds.all (L2.Mr.Com.tB n)=true->∃ns:Bd,ds=ns.map Fx/\∀x∈ns,0<=x/\x<n
 | [],_=>⟨[],rfl,λ_ z=>nomatch z⟩
 |d::ds,h=>by
  rw[List.all_cons,cx]at h;obtain⟨ns,rfl,h2⟩:=zT h.2
  cases d with
  |int i=>
   have h1:=h.1;simp only[L2.Mr.Com.tB,oY,cx,decide_eq_true_eq]at h1;refine⟨i::ns,rfl,λx hx=>?_⟩
   rcases az.mp hx with rfl|hx
   ·omega
   ·exact h2 x hx
  |_=>simp[L2.Mr.Com.tB,oY]at h
theorem z3i {n:Int}{ns:Bd}(h:∀x∈ns,0<=x/\x<n):(ns.map Fx).all (L2.Mr.Com.tB n)=true:=by rw[ey];intro d hd;obtain⟨x,hx,rfl⟩:=cp.mp hd;have:=h x hx;simp only[L2.Mr.Com.tB,oY,cx,decide_eq_true_eq];omega
theorem sM {m:M Dv}{ρ:Ev}{H:Hs}{L:Int}(e:m ρ H=.ok (.int L) H) (h0:0<=L) (h1:L<=1000):aR cN (aB m aC) ρ H=.ok (cS 0 L) H:=by
 have hr:kS L=true:=by simp[kS];omega
 simp[aR,aB,e,aC,cN,hr]
theorem z3j {m:M Bh }{ρ:Ev}{H H1:Hs}{i:Nat}{b:Bool}(ea:bH m ρ H=.ok (.ref i) H1) (q:bT (.ref i) (.ref H1.length) (H1++[.lst []])=.ok (.bl b) (H1++[.lst []])):bK (aO (m2 bT (bH m) (aQ aC)) ρ H)=.ok (.bl b) (H1++[.lst []]):=by generalize bH m=M at ea;simp[aO,m2,ea,aQ,aC,lim,q,bK]
theorem FU {ds:Bh}{i:Nat}{ρ:Ev}(e:aA i ρ H=.ok (.tup ds) H):aF (f1 bX) (aB (aA i) aC) ρ H=.ok (.int ds.length) H:=by simp[aF,aB,e,aC,f1,bX,eQ,gH,eW]
theorem qO {α:Type}(p:α->Bool) (f:α->Dv) (l:List α):(l.filterMap λq=>if p q then some (f q)else none)=(l.filter p).map f:=by
 induction l with
 |nil=>rfl
 |cons k l ih=>
  rw[cf,jh]
  cases c:p k with
  |true=>simp only[if_true,da];rw[ih]
  |false=>simp only[cu,if_false];exact ih
theorem z3k (neg:Bool) (x:Int) {i:Nat}(e:getL H i=some (xs.map Fx)):dW neg (.int x) (.ref i) H=.ok (.bl (if neg then !decide (x∈xs)else decide (x∈xs))) H:=by
 have e':(xs.map Gs).any (λt=>bD t (.int x))=decide (x∈xs):=by
  rw[cw];simp only[wk,nh,yc,decide_eq_true_eq];constructor
  ·rintro ⟨q,hq,h⟩
   have:q=x:=by simpa[bD]using h
   rw[<-this];exact hq
  ·intro h;exact⟨x,h,by simp[bD]⟩
 have h1:bP (bC bZ H) (xs.map Fx)=some (xs.map Gs):=pW 29 H xs;have h2:bC bZ H (.int x)=some (.int x):=rfl;show lN [] neg (.int x) (.ref i) H=_;simp only[lN,eW,e,h1,h2,e']
theorem z3l {mi:M Src}{cap:List (Option Nat)}{sg:dE}{t:M Bool}{m:MC}{ρ ρ':Ev}{H H1 H':Hs}{src:Src}{acc:Bh}(e:mi ρ H=.ok src H1) (h:eM src sg t m src.n 0 (jL cap ρ) H1 []=.ok (ρ',acc) H'):bM mi cap sg t m ρ H=.ok acc H':=by unfold bM;rw[e,Rs.bind_ok,h]
theorem oZ {m:M Dv}{ρ ρ1:Ev}{i:Nat}{H H':Hs}{v:Dv}(e:m ρ H=.ok v H') (hs:aE i v ρ=some ρ1):aJ m (aE i) ρ H=.nx ρ1 H':=by simp[aJ,e,hs]
theorem zU {m:M Bh }{ρ:Ev}{i:Nat}{H H':Hs}{ds:Bh}{ρ1:Ev}(e:m ρ H=.ok ds H') (hs:aE i (.ref H'.length) ρ=some ρ1):aJ (bH m) (aE i) ρ H=.nx ρ1 (H'++[.lst ds]):=by
 have ea:bH m ρ H=.ok (.ref H'.length) (H'++[.lst ds]):=by unfold bH;rw[e];rfl
 exact oZ ea hs
theorem lB {f:Dv->Dv->Hs->Rs Dv}{ma mb:M Dv}{ρ:Ev}{H H1 H2 H3:Hs}{x y z:Dv}(ha:ma ρ H=.ok x H1) (hb:mb ρ H1=.ok y H2) (hf:f x y H2=.ok z H3):m2 f ma mb ρ H=.ok z H3:=by unfold m2;rw[ha,Rs.bind_ok,hb,Rs.bind_ok,hf]
theorem TK.upd {j:Nat}{xs ys:Bh}{H:Hs}(e:getL H j=some xs):∀{k:Nat}{d:Dv},TK k H d->TK k (H.set j (.lst ys)) d:=by
 have t0:∀d,T0 H d->T0 (H.set j (.lst ys)) d:=λd h=>by
  cases d with
  |ref i=>
   obtain⟨zs,ez⟩:=h
   by_cases c:j=i
   ·subst c;exact⟨_,kW e⟩
   ·exact⟨zs,by rw[rW c];exact ez⟩
  |_=>exact h
 intro k
 induction k with
 |zero=>exact λ{d} h=>t0 d h
 |succ k ih=>exact λ{d} h=>⟨t0 d h.1,λds e=>⟨(h.2 ds e).1,λx hx=>ih ((h.2 ds e).2 x hx)⟩⟩
end
end L2.Mr.Gen
namespace L2.Mr.K05
open L2.Mr.Com L2.Mr.Gen
theorem need_ok {n:Nat}{ps:y'}{H:Hs}(o:By n ps):F_qo [aM n ps] H=.ok .non H:=Cod.need_ok o
theorem need_bad {d:Dv}{H:Hs}(h:TK 3 H d) (hb:fV d=false):F_qo [d] H=.ex 0 H:=Cod.need_bad h hb
def ix (ns:Bd) (k:Int):Nat:=(fJ k ns).getD 0
theorem vM {k:Int}:∀{ns:Bd},k∈ns->fJ k ns=some (ix ns k)
 | [],h=>nomatch h
 |n::ns,h=>by
  unfold ix fJ
  by_cases c:n=k
  ·rw[if_pos c];rfl
  ·rw[if_neg c];have hm:k∈ns:=(az.mp h).elim (λz=>absurd z.symm c) id;rw[vM hm];rfl
theorem sN {k:Int}{ns:Bd}(h:k∈ns):ix ns k<ns.length:=(ax.mp (uF (vM h)).1).1
theorem vN {a b:Int}{ns:Bd}(ha:a∈ns) (hb:b∈ns) (e:ix ns a=ix ns b):a=b:=by have h1:=(uF (vM ha)).1;have h2:=(uF (vM hb)).1;rw[e,h2]at h1;exact(cn h1).symm
theorem lC {ns ms:Bd}{k:Int}(h:k∈ns):ix (ns++ms) k=ix ns k:=by
 have key:∀{ns:Bd},k∈ns->fJ k (ns++ms)=fJ k ns:=by
  intro ns
  induction ns with
  |nil=>intro h;cases h
  |cons x xs ih=>
   intro h;show fJ k (x::(xs++ms))=_;unfold fJ
   by_cases c:x=k
   ·rw[if_pos c,if_pos c]
   ·rw[if_neg c,if_neg c,ih ((az.mp h).elim (λz=>absurd z.symm c) id)]
 unfold ix;rw[key h]
theorem sO {ns:Bd}{k:Int}(h:k∉ns):ix (ns++[k]) k=ns.length:=by
 have key:∀{ns:Bd},k∉ns->fJ k (ns++[k])=some ns.length:=by
  intro ns
  induction ns with
  |nil=>intro _;show fJ k [k]=some 0;unfold fJ;rw[if_pos rfl]
  |cons x xs ih=>intro h;show fJ k (x::(xs++[k]))=_;unfold fJ;rw[if_neg (λz=>h (by rw[z];exact bf ..)),ih (λz=>h (ar _ z))];rfl
 unfold ix;rw[key h];rfl
section
variable{n:Nat}{ps:y'}{H:Hs}{ns:Bd}{ρ:Ev}
theorem qP {a:Nat}{me:M Dv}{k:Int}(h1:aA a ρ=λH=>.ok (.tup (ns.map Fx)) H) (h2:me ρ H=.ok (.int k) H) (hk:k∈ns):fZ (aA a) me ρ H=.ok (.int (ix ns k)) H:=by simp[fZ,h1,K6,h2,CT,sL,vM hk]
theorem Cf {x:Int}:x∈bR n↔0<=x/\x<n:=by
 unfold bR;rw[cp];constructor
 ·rintro ⟨k,hk,rfl⟩
  have:=bu.mp hk;omega
 ·intro h;exact⟨x.toNat,bu.mpr (by omega),by omega⟩
theorem rng_up:(bR n).Pairwise (·<·):=by unfold bR;exact rj.mpr ((zw).imp λh=>by omega)
theorem Dg:(bR n).Nodup:=rng_up.imp λh=>by omega
theorem lD (hr:∀x∈ns,0<=x/\x<n) (nd:ns.Nodup) (hl:ns.length=n) {x:Int}(h0:0<=x) (h1:x<n):x∈ns:=by
 by_cases c:x∈ns
 ·exact c
 ·exfalso
  have nd':(x::ns).Nodup:=jq.mpr ⟨c,nd⟩;have:=nd'.length_le_of_subset (l₂:=bR n) λy hy=>by
   rcases az.mp hy with rfl|hy
   ·exact Cf.mpr ⟨h0,h1⟩
   ·exact Cf.mpr (hr y hy)
  simp[bR]at this;omega
theorem pA (hr:∀x∈ns,0<=x/\x<n) (nd:ns.Nodup) (hl:ns.length=n):ns.Perm (bR n):=by
 refine List.perm_iff_count.mpr λa=>?_;rw[nd.count,Dg.count];have:a∈ns↔a∈bR n:=⟨λz=>Cf.mpr (hr a z),λz=>lD hr nd hl (Cf.mp z).1 (Cf.mp z).2⟩
 by_cases c:a∈ns
 ·rw[if_pos c,if_pos (this.mp c)]
 ·rw[if_neg c,if_neg λz=>c (this.mpr z)]
def nX (n:Nat) (ps:y') (ns:Bd):Bool:=decide (ns.length=n)&&decide ns.Nodup&&ps.all λq=>decide (ix ns q.1<ix ns q.2)
def gM (n:Nat) (ps:y') (d:Dv):Bool:=match d with
 | .tup ds=>kL n d&&(match bP gB ds with
  |some ns=>nX n ps ns
  |none=>false)
 |_=>false
theorem sP (hr:∀x∈ns,0<=x/\x<n):gM n ps (.tup (ns.map Fx))=nX n ps ns:=by have:kL n (.tup (ns.map Fx))=true:=z3i hr;simp[gM,this,sL]
def rC:M Bool:=dU (cO (bO (aF F_qm (aB (aA 2) (aB (aA 1) aC))))) (dU (mB (m2 cD (aF (f1 bX) (aB (aA 1) aC)) (aA 2))) (mB (m2 cD (aF (f1 nQ) (aB (aA 1) aC)) (aA 2))))
def rL:M Bh :=bM (bF dY (aA 3)) [none,none,some 1] (cH 2 (aX (aE 0) (aX (aE 1) cJ))) cT (bA (m2 eZ (fZ (aA 2) (aA 0)) (fZ (aA 2) (aA 1))))
theorem OQ:mb_q2=aH (dG (aF F_qo (aB (aA 0) aC))) (aH (aJ (aA 0) (cH 2 (aX (aE 2) (aX (aE 3) cJ)))) (aH (bS rC (aO (mC (.bl false))) cA) (aO (mL iL rL)))):=rfl
abbrev iR (n:Nat) (ps:y') (d:Dv):Ev:=[some (aM n ps),some d,some (.int n),some (.tup (ps.map aK))]
theorem z3m (o:By n ps) (hm:∀x:Int,0<=x->x<n->x∈ns):mL iL rL (iR n ps (.tup (ns.map Fx))) H=.ok (.bl (ps.all λq=>decide (ix ns q.1<ix ns q.2))) H:=by
 refine qI (H1:=H) (xs:=ps) (f:=λq=>decide (ix ns q.1<ix ns q.2)) ?_;refine gX ps _ (λρ=>∃a b,ρ=[a,b,some (.tup (ns.map Fx))]) (src:=cV (ps.map aK)) rfl (by simp[cV]) ⟨_,_,rfl⟩ rfl (λk hk ρ ⟨a,b,e⟩=>by
  subst e;refine⟨aK ps[k],[some (.int ps[k].1),some (.int ps[k].2),some (.tup (ns.map Fx))],by simp[cV,hk],rfl,⟨_,_,rfl⟩,rfl, ?_⟩;have r:=o.rng ps[k] (cm hk);have i1:=qP (H:=H) (ns:=ns) (a:=2) (me:=aA 0) (ρ:=[some (.int ps[k].1),some (.int ps[k].2),some (.tup (ns.map Fx))]) rfl rfl (hm _ r.1 r.2.1);have i2:=qP (H:=H) (ns:=ns) (a:=2) (me:=aA 1) (ρ:=[some (.int ps[k].1),some (.int ps[k].2),some (.tup (ns.map Fx))]) rfl rfl (hm _ r.2.2.1 r.2.2.2);have hd:decide ((ix ns ps[k].1:Int)<(ix ns ps[k].2:Int))=decide (ix ns ps[k].1<ix ns ps[k].2):=by rw[cw];simp
  have hl:eZ (.int (ix ns ps[k].1:Int)) (.int (ix ns ps[k].2:Int)) H=.ok (.bl (decide (ix ns ps[k].1<ix ns ps[k].2))) H:=by simp only[eZ,hd]
  exact lB i1 i2 hl) (by have:=o.len;omega)
theorem isrow_any (o:By n ps) {d:Dv}(h:TK 1 H d):F_q2 [aM n ps,d] H=.ok (.bl (gM n ps d)) H:=by
 have hn:=need_ok (H:=H) o;have ha:=OM (n:=(n:Int)) h;have w1:dG (aF F_qo (aB (aA 0) aC)) [some (aM n ps),some d,none,none] H=.nx [some (aM n ps),some d,none,none] H:=by generalize aM n ps=z at hn;simp[dG,aF,aB,aA,aC,hn]
 have w2:aJ (aA 0) (cH 2 (aX (aE 2) (aX (aE 3) cJ))) [some (aM n ps),some d,none,none] H=.nx (iR n ps d) H:=rfl;have t1:bO (aF F_qm (aB (aA 2) (aB (aA 1) aC))) (iR n ps d) H=.ok (kL n d) H:=by generalize aM n ps=z;simp[iR,bO,aF,aB,aA,aC,ha,fF]
 have stop:rC (iR n ps d) H=.ok true H->gM n ps d=false->F_q2 [aM n ps,d] H=.ok (.bl (gM n ps d)) H:=λe z=>by show bK (mb_q2 [some (aM n ps),some d,none,none] H)=_;rw[OQ,bE w1,bE w2,z];unfold aH;rw[oV e];rfl
 cases ht:kL n d with
 |false=>
  rw[ht]at t1;refine stop (FT (qM t1)) ?_
  cases d with
  |tup ds=>simp[gM,ht]
  |_=>rfl
 |true=>
  rw[ht]at t1
  cases d with
  |tup ds=>
   obtain⟨hl,_⟩:=h.2 ds rfl;obtain⟨ns,rfl,hr⟩:=zT (show ds.all (Com.tB n)=true from ht);have hl':ns.length<=500:=by simpa using hl
   have hB:=sP (ps:=ps) hr;have sl:nQ (.tup (ns.map Fx)) H=.ok (.int (lV ns)) H:=by
    have:ns.length<1000:=by omega
    simp[nQ,sL,this]
   have hm:=v8 ns;have ne:∀a b:Nat,cD (.int (a:Int)) (.int (b:Int)) H=.ok (.bl (!decide (a=b))) H:=λa b=>by
    have:((a:Int)==(b:Int))=decide (a=b):=by rw[cw];simp;omega
    simp[cD,bZ,bC,bD,this]
   have t2:mB (m2 cD (aF (f1 bX) (aB (aA 1) aC)) (aA 2)) (iR n ps (.tup (ns.map Fx))) H=.ok (!decide (ns.length=n)) H:=by
    have e:=FU (H:=H) (ds:=ns.map Fx) (i:=1) (ρ:=iR n ps (.tup (ns.map Fx))) rfl;have hz:(ns.map Fx).length=ns.length:=by simp
    rw[hz]at e;have q:=ne ns.length n;have v2:aA 2 (iR n ps (.tup (ns.map Fx))) H=.ok (.int n) H:=rfl;generalize aF (f1 bX) (aB (aA 1) aC)=M at e;generalize iR n ps (.tup (ns.map Fx))=r at e v2;simp[mB,m2,e,v2,q,dF]
   have t3:mB (m2 cD (aF (f1 nQ) (aB (aA 1) aC)) (aA 2)) (iR n ps (.tup (ns.map Fx))) H=.ok (!decide (lV ns=n)) H:=by
    have e:aF (f1 nQ) (aB (aA 1) aC) (iR n ps (.tup (ns.map Fx))) H=.ok (.int (lV ns)) H:=by generalize aM n ps=z;generalize ns.map Fx=ys at sl;simp[iR,aF,aB,aA,aC,f1,sl]
    have q:=ne (lV ns) n;have v2:aA 2 (iR n ps (.tup (ns.map Fx))) H=.ok (.int n) H:=rfl;generalize aF (f1 nQ) (aB (aA 1) aC)=M at e;generalize iR n ps (.tup (ns.map Fx))=r at e v2;simp[mB,m2,e,v2,q,dF]
   by_cases c:ns.length=n/\ns.Nodup
   ·have c1:(!decide (ns.length=n))=false:=by simp[c.1]
    have c2:(!decide (lV ns=n))=false:=by have:=hm.mpr c.2;simp;omega
    rw[c1]at t2;rw[c2]at t3;have e:rC (iR n ps (.tup (ns.map Fx))) H=.ok false H:=by unfold rC;rw[qL (qM t1),qL t2,t3]
    have Cn:=z3m (H:=H) o (λx h0 h1=>lD hr c.2 c.1 h0 h1);show bK (mb_q2 [some (aM n ps),some (.tup (ns.map Fx)),none,none] H)=_;rw[OQ,bE w1,bE w2,bE (m:=bS _ _ _) (by rw[kF e];rfl),hB];unfold aO;rw[Cn];simp[nX,c.1,c.2,bK]
   ·refine stop ?_ ?_
    ·unfold rC;rw[qL (qM t1)]
     by_cases c1:ns.length=n
     ·have c1':(!decide (ns.length=n))=false:=by simp[c1]
      rw[c1']at t2;rw[qL t2,t3];have:lV ns≠n:=λz=>c ⟨c1,hm.mp (by omega)⟩;simp[this]
     ·have c1':(!decide (ns.length=n))=true:=by simp[c1]
      rw[c1']at t2;exact FT t2
    ·rw[hB];unfold nX
     by_cases c1:ns.length=n
     ·have c3:¬ ns.Nodup:=λz=>c ⟨c1,z⟩;simp[c3]
     ·simp[c1]
  |_=>cases ht
end
def PU (x:Dv):Prop:=∀H:Hs,∃t,bC 29 H x=some t
section
variable{n:Nat}{ps:y'}{H:Hs}{ns:Bd}
theorem z3n {xs:Bh}(h:∀x∈xs,PU x) (H:Hs):∃ts,bP (bC 29 H) xs=some ts/\(ts=[]↔xs=[]):=by
 induction xs with
 |nil=>exact⟨[],rfl,by simp⟩
 |cons x xs ih=>obtain⟨t,e⟩:=h x (bf ..) H;obtain⟨ts,e2,_⟩:=ih λy hy=>h y (ar _ hy);exact⟨t::ts,by simp[bP,e,e2],by simp⟩
theorem vO {k i:Nat}{xs:Bh}{ts:List Dt}(e:getL H i=some xs) (e2:bP (bC k H) xs=some ts):bC (k+1) H (.ref i)=some (.lst ts):=by simp only[bC,e,e2]
theorem z3o {i:Nat}{xs:Bh}(e:getL H i=some xs) (h:∀x∈xs,PU x):cD (.ref i) (.ref H.length) (H++[.lst []])=.ok (.bl (!decide (xs=[]))) (H++[.lst []]):=by
 have e1:=gQ (l:=[Fy []]) e;have e2:getL (H++[Fy []]) H.length=some []:=Cod.last_get;obtain⟨ts,e3,e4⟩:=z3n h (H++[Fy []]);have p1:bC bZ (H++[Fy []]) (.ref i)=some (.lst ts):=vO (k:=29) e1 e3;have p2:bC bZ (H++[Fy []]) (.ref H.length)=some (.lst []):=vO (k:=29) (ts:=[]) e2 rfl;have hd:bD (.lst ts) (.lst [])=decide (xs=[]):=by
  rw[cw,decide_eq_true_eq,<-e4]
  cases ts with
  |nil=>simp[bD,eJ]
  |cons _ _=>simp[bD,eJ]
 simp only[cD,p1,p2,hd]
theorem z3p {x y:Dv}{b:Bool}(e:bT x y H=.ok (.bl b) H):cD x y H=.ok (.bl (!b)) H:=by
 unfold bT at e;unfold cD
 cases p1:bC bZ H x with
 |none=>rw[p1]at e;cases e
 |some s=>
  rw[p1]at e
  cases p2:bC bZ H y with
  |none=>rw[p2]at e;cases e
  |some t=>
   rw[p2]at e;dsimp only at e ⊢;have:bD s t=b:=by injection e with e;injection e
   rw[this]
theorem z3q {d:Dv}(h:T0 H d):F_ql [d] H=.ok (.bl (Com.isInt d)) H:=by
 have a:=OJ h;have b:=OK h
 cases d <;> simp[F_ql,yS,aY,bW,aO,eK,m1,aA,a,b,mV,Com.isInt,bK]
def sQ:M Bh :=bM (bF dY (aA 1)) [none] (aE 0) (cO (bO (aF F_ql (aB (aA 0) aC)))) (bA (aA 0))
def sR:M Bool:=mB (m2 cD (aF (f1 qD) (aB (aA 1) aC)) (aF (f1 lT) (aB (m2 aU (aA 0) (mC (.int 0))) aC)))
def FV:M Bh :=bM (bF dY (m2 aU (aA 0) (mC (.int 1)))) [none,none,some 1] (cH 2 (aX (aE 0) (aX (aE 1) cJ))) (mB (m2 jN (fZ (aA 2) (aA 0)) (fZ (aA 2) (aA 1)))) (bA (mC (.int 1)))
theorem zV:mb_qh=aH (bS (dU (cO (bO (m1 (aV eY) (aA 1)))) (mB (m2 cD (bH sQ) (aQ aC)))) (aO (mC (.bl false))) cA) (aH (bS sR (aO (mC (.bl false))) cA) (aO (m2 bT (bH FV) (aQ aC)))):=rfl
theorem z3r {F:Bg}{d:Dv}{b:Bool}(e:F [d] H=.ok (.bl b) H):cO (bO (aF F (aB (aA 0) aC))) [some d] H=.ok (!b) H:=by refine qM ?_;simp[bO,aF,aB,aA,aC,e,fF]
theorem z3s {ds:Bh}(h:TK 1 H (.tup ds)) {x0:Bi}:sQ [x0,some (.tup ds)] H=.ok (ds.filter λx=>!Com.isInt x) H:=by
 obtain⟨hl,hx⟩:=h.2 ds rfl;have w:sQ [x0,some (.tup ds)] H=.ok (ds.filterMap λx=>if !Com.isInt x then some (id x)else none) H:=
  gX ds _ (λρ=>∃a,ρ=[a]) (src:=cV ds) rfl (by simp[cV]) ⟨_,rfl⟩ rfl (λk hk ρ ⟨a,e⟩=>by
   subst e;refine⟨ds[k],[some ds[k]],by simp[cV,hk],rfl,⟨_,rfl⟩, ?_⟩;have t:=z3r (z3q (hx ds[k] (cm hk)).t0)
   cases c:!Com.isInt ds[k]with
   |true=>rw[c]at t;exact⟨t,rfl⟩
   |false=>rw[c]at t;exact t) (by omega)
 have:=w.trans (congrArg (λl=>Gp l _) (qO _ _ _));rw[List.map_id]at this;exact this
theorem z3t {m:M Bh }{ρ:Ev}{xs:Bh}(e:m ρ H=.ok xs H) (h:∀x∈xs,PU x):∃H',mB (m2 cD (bH m) (aQ aC)) ρ H=.ok (!decide (xs=[])) H'/\Fr [] H H':=by
 have ea:bH m ρ H=.ok (.ref H.length) (H++[.lst xs]):=by unfold bH;rw[e];rfl
 have g:getL (H++[Fy xs]) H.length=some xs:=Cod.last_get;have f:Fr [] H (H++[Fy xs]):=Fz;generalize H++[Fy xs]=H1 at ea g f;have q:=z3o g h;refine⟨H1++[.lst []], ?_,f.trans (T:=[]) Fz (by simp)⟩;generalize bH m=M at ea;simp[mB,m2,ea,aQ,aC,lim,q,dF]
theorem z3u (hn:n<=6) (hl:ns.length<64):∃H',sR [some (aM n ps),some (.tup (ns.map Fx))] H=.ok (!decide (iE ns=bR n)) H'/\Fr [] H H':=by
 have e1:aF (f1 qD) (aB (aA 1) aC) [some (aM n ps),some (.tup (ns.map Fx))] H=.ok (.ref H.length) (H++[.lst ((iE ns).map Fx)]):=by generalize aM n ps=z;simp[aF,aB,aA,aC,f1,qD,sL,hl]
 have g1:getL (H++[Fy ((iE ns).map Fx)]) H.length=some ((iE ns).map Fx):=Cod.last_get;have f1':Fr [] H (H++[Fy ((iE ns).map Fx)]):=Fz;generalize H++[Fy ((iE ns).map Fx)]=H1 at e1 g1 f1';generalize H.length=i1 at e1 g1;have e2:aF (f1 lT) (aB (m2 aU (aA 0) (mC (.int 0))) aC) [some (aM n ps),some (.tup (ns.map Fx))] H1=.ok (.ref H1.length) (H1++[.lst ((bR n).map Fx)]):=by
  have h0:=N7 (n:=n) (ps:=ps) H1;have a0:(0:Int)<=(n:Int):=by omega
  have a1:(n:Int)<=1000:=by omega
  generalize aM n ps=z at h0;generalize (n:Int)=N at h0 a0 a1;simp[aF,aB,m2,aA,mC,aC,h0,f1,lT,a0,a1]
 have g2:getL (H1++[Fy ((bR n).map Fx)]) H1.length=some ((bR n).map Fx):=Cod.last_get;have f2:Fr [] H1 (H1++[Fy ((bR n).map Fx)]):=Fz;have g1':=f2.getL g1 (by simp);generalize H1++[Fy ((bR n).map Fx)]=H2 at e2 g2 f2 g1';generalize H1.length=i2 at e2 g2;have q:=z3p (L2.Mr.eq_ints g1' g2);refine⟨H2, ?_,f1'.trans f2 (by simp)⟩;unfold sR mB;rw[lB e1 e2 q];rfl
theorem gtC_ok {mi:M Src}{cap:List (Option Nat)}{ρ:Ev}(o:By n ps) (hm:∀x:Int,0<=x->x<n->x∈ns) (hi:mi ρ H=.ok (cV (ps.map aK)) H) (hc:jL cap ρ=[none,none,some (.tup (ns.map Fx))]):bM mi cap (cH 2 (aX (aE 0) (aX (aE 1) cJ))) (mB (m2 jN (fZ (aA 2) (aA 0)) (fZ (aA 2) (aA 1)))) (bA (mC (.int 1))) ρ H=.ok ((ps.filter λq=>decide (ix ns q.1>ix ns q.2)).map λ_=>Fx 1) H:=by
 have w:=gX (sg:=cH 2 (aX (aE 0) (aX (aE 1) cJ))) (t:=mB (m2 jN (fZ (aA 2) (aA 0)) (fZ (aA 2) (aA 1)))) (e:=mC (.int 1)) ps (λq=>if decide (ix ns q.1>ix ns q.2)then some ((λ_=>Fx 1) q)else none) (λρ=>∃a b,ρ=[a,b,some (.tup (ns.map Fx))]) hi (by simp[cV]) ⟨_,_,hc⟩ rfl (λk hk ρ ⟨a,b,e⟩=>by
   subst e;refine⟨aK ps[k],[some (.int ps[k].1),some (.int ps[k].2),some (.tup (ns.map Fx))],by simp[cV,hk],rfl,⟨_,_,rfl⟩, ?_⟩;have r:=o.rng ps[k] (cm hk);have i1:=qP (H:=H) (ns:=ns) (a:=2) (me:=aA 0) (ρ:=[some (.int ps[k].1),some (.int ps[k].2),some (.tup (ns.map Fx))]) rfl rfl (hm _ r.1 r.2.1);have i2:=qP (H:=H) (ns:=ns) (a:=2) (me:=aA 1) (ρ:=[some (.int ps[k].1),some (.int ps[k].2),some (.tup (ns.map Fx))]) rfl rfl (hm _ r.2.2.1 r.2.2.2);have hd:decide ((ix ns ps[k].1:Int)>(ix ns ps[k].2:Int))=decide (ix ns ps[k].1>ix ns ps[k].2):=by rw[cw];simp
   have hg:jN (.int (ix ns ps[k].1:Int)) (.int (ix ns ps[k].2:Int)) H=.ok (.bl (decide (ix ns ps[k].1>ix ns ps[k].2))) H:=by show iH _ _ _ H=_;simp only[iH,hd]
   have t:mB (m2 jN (fZ (aA 2) (aA 0)) (fZ (aA 2) (aA 1))) [some (.int ps[k].1),some (.int ps[k].2),some (.tup (ns.map Fx))] H=.ok (decide (ix ns ps[k].1>ix ns ps[k].2)) H:=by unfold mB;rw[lB i1 i2 hg];rfl
   cases c:decide (ix ns ps[k].1>ix ns ps[k].2)with
   |true=>rw[c]at t;exact⟨t,rfl⟩
   |false=>rw[c]at t;exact t) (by have:=o.len;omega)
 exact w.trans (congrArg (λl=>Gp l _) (qO _ _ _))
theorem z3v (o:By n ps) (hm:∀x:Int,0<=x->x<n->x∈ns):FV [some (aM n ps),some (.tup (ns.map Fx))] H=.ok ((ps.filter λq=>decide (ix ns q.1>ix ns q.2)).map λ_=>Fx 1) H:=gtC_ok o hm rfl rfl
theorem z3w {ds:Bh}(h:(ds.filter λx=>!Com.isInt x)=[]):∃ns:Bd,ds=ns.map Fx:=by
 induction ds with
 |nil=>exact⟨[],rfl⟩
 |cons d ds ih=>
  rw[jc]at h;obtain⟨ns,rfl⟩:=ih (jc.mpr λx hx=>h x (ar _ hx));have:=h d (bf ..)
  cases d with
  |int i=>exact⟨i::ns,rfl⟩
  |_=>simp[Com.isInt]at this
theorem lisrow_any (o:By n ps) {d:Dv}(h:TK 1 H d) (hl:∀ds,d=.tup ds->ds.length<64/\∀x∈ds,PU x):∃H',F_qh [aM n ps,d] H=.ok (.bl (gM n ps d)) H'/\Fr [] H H':=by
 have ht:=zQ h.1
 by_cases nt:nV d=false
 ·refine⟨H, ?_,Gm⟩;have t:bO (m1 (aV eY) (aA 1)) [some (aM n ps),some d] H=.ok false H:=by rw[nt]at ht;simp[bO,m1,aA,ht,fF]
  have z:gM n ps d=false:=by
   cases d with
   |tup _=>cases nt
   |_=>rfl
  show bK (mb_qh [some (aM n ps),some d] H)=_;rw[zV,z];unfold aH;rw[oV (FT (qM t))];rfl
 obtain⟨ds,rfl⟩:∃ds,d=.tup ds:=by
  cases d with
  |tup ds=>exact⟨ds,rfl⟩
  |_=>exact absurd rfl nt
 ·obtain⟨l64,pu⟩:=hl ds rfl;have t1:bO (m1 (aV eY) (aA 1)) [some (aM n ps),some (.tup ds)] H=.ok true H:=by simp[bO,m1,aA,ht,nV,fF]
  obtain⟨H1,e1,f1'⟩:=z3t (z3s h (x0:=some (aM n ps))) λx hx=>pu x (fg.mp hx).1
  by_cases c:(ds.filter λx=>!Com.isInt x)=[]
  ·obtain⟨ns,rfl⟩:=z3w c;have w1:bS (dU (cO (bO (m1 (aV eY) (aA 1)))) (mB (m2 cD (bH sQ) (aQ aC)))) (aO (mC (.bl false))) cA [some (aM n ps),some (.tup (ns.map Fx))] H=.nx [some (aM n ps),some (.tup (ns.map Fx))] H1:=by
    have e:dU (cO (bO (m1 (aV eY) (aA 1)))) (mB (m2 cD (bH sQ) (aQ aC))) [some (aM n ps),some (.tup (ns.map Fx))] H=.ok false H1:=by rw[qL (qM t1),e1];simp[c]
    rw[kF e];rfl
   obtain⟨H2,e2,f2⟩:=z3u (ps:=ps) (ns:=ns) (H:=H1) o.n6 (by simpa using l64)
   by_cases c2:iE ns=bR n
   ·have hp:ns.Perm (bR n):=by rw[<-c2];exact(xX ns).symm
    have hr:∀x∈ns,0<=x/\x<n:=λx hx=>Cf.mp (hp.mem_iff.mp hx);have nd:ns.Nodup:=hp.nodup_iff.mpr Dg;have hlen:ns.length=n:=by rw[hp.length_eq];simp[bR]
    have w2:bS sR (aO (mC (.bl false))) cA [some (aM n ps),some (.tup (ns.map Fx))] H1=.nx [some (aM n ps),some (.tup (ns.map Fx))] H2:=by
     have e:sR [some (aM n ps),some (.tup (ns.map Fx))] H1=.ok false H2:=by rw[e2];simp[c2]
     rw[kF e];rfl
    have e3:=z3v (H:=H2) o (ns:=ns) (λx h0 h1=>lD hr nd hlen h0 h1);have hone:∀(l:y'),(l.map λ_=>Fx 1)=(l.map λ_=>(1:Int)).map Fx:=λl=>by simp
    rw[hone]at e3;generalize hxs:(ps.filter λq=>decide (ix ns q.1>ix ns q.2))=xs at e3;have ea:bH FV [some (aM n ps),some (.tup (ns.map Fx))] H2=.ok (.ref H2.length) (H2++[.lst ((xs.map λ_=>(1:Int)).map Fx)]):=by unfold bH;rw[e3];rfl
    have g3:getL (H2++[Fy ((xs.map λ_=>(1:Int)).map Fx)]) H2.length=some ((xs.map λ_=>(1:Int)).map Fx):=Cod.last_get;have f3:Fr [] H2 (H2++[Fy ((xs.map λ_=>(1:Int)).map Fx)]):=Fz;generalize H2++[Fy ((xs.map λ_=>(1:Int)).map Fx)]=H3 at ea g3 f3;have g4:getL (H3++[Fy []]) H3.length=some (([]:Bd).map Fx):=Cod.last_get;have q:=L2.Mr.eq_ints (gQ (l:=[Fy []]) g3) g4;have hv:decide ((xs.map λ_=>(1:Int))=[])=gM n ps (.tup (ns.map Fx)):=by
     rw[sP hr,nX,cw];simp only[decide_eq_true_eq,List.map_eq_nil_iff,<-hxs,jc,hlen,nd,decide_true,vn,ey];constructor
     ·intro z p hp';have a:=z p hp';have r:=o.rng p hp';have m1:=lD hr nd hlen r.1 r.2.1;have m2':=lD hr nd hlen r.2.2.1 r.2.2.2;have:ix ns p.1≠ix ns p.2:=λz=>o.irr p hp' (vN m1 m2' z);omega
     ·intro z p hp';have a:=z p hp';omega
    rw[hv]at q;refine⟨H3++[.lst []], ?_,((f1'.trans f2 (by simp)).trans f3 (by simp)).trans (T:=[]) Fz (by simp)⟩;show bK (mb_qh [some (aM n ps),some (.tup (ns.map Fx))] H)=_;rw[zV,bE w1,bE w2];exact z3j ea q
   ·refine⟨H2, ?_,f1'.trans f2 (by simp)⟩;have e:sR [some (aM n ps),some (.tup (ns.map Fx))] H1=.ok true H2:=by rw[e2];simp[c2]
    have z:gM n ps (.tup (ns.map Fx))=false:=by
     cases ha:kL n (.tup (ns.map Fx))with
     |false=>simp[gM,ha]
     |true=>
      obtain⟨ms,em,hr⟩:=zT (show(ns.map Fx).all (Com.tB n)=true from ha);have:ns=ms:=by have:=congrArg (bP gB) em;rw[sL,sL]at this;exact cn this
      subst this;rw[sP hr];unfold nX
      by_cases c3:ns.length=n/\ns.Nodup
      ·exfalso
       apply c2
       exact(K0 (pA hr c3.2 c3.1).symm (rng_up.imp λh=>by omega)).symm
      ·by_cases c4:ns.length=n
       ·have c5:¬ ns.Nodup:=λy=>c3 ⟨c4,y⟩;simp[c5]
       ·simp[c4]
    show bK (mb_qh [some (aM n ps),some (.tup (ns.map Fx))] H)=_;rw[zV,bE w1,z];unfold aH;rw[oV e];rfl
  ·refine⟨H1, ?_,f1'⟩;have z:gM n ps (.tup ds)=false:=by
    cases ha:kL n (.tup ds)with
    |false=>simp[gM,ha]
    |true=>
     obtain⟨ms,rfl,_⟩:=zT (show ds.all (Com.tB n)=true from ha)
     exfalso
     apply c
     rw[jc];intro x hx;obtain⟨y,_,rfl⟩:=cp.mp hx;simp[Com.isInt]
   have e:dU (cO (bO (m1 (aV eY) (aA 1)))) (mB (m2 cD (bH sQ) (aQ aC))) [some (aM n ps),some (.tup ds)] H=.ok true H1:=by rw[qL (qM t1),e1];simp[c]
   show bK (mb_qh [some (aM n ps),some (.tup ds)] H)=_;rw[zV,z];unfold aH;rw[oV e];rfl
end
section
variable{n:Nat}{ps:y'}{H:Hs}{ns:Bd}
end
section
variable{n:Nat}{ps:y'}{H:Hs}{ns:Bd}
theorem sH (a b:Int):bT (.int a) (.int b) H=.ok (.bl (decide (a=b))) H:=by
 have:(a==b)=decide (a=b):=by rw[cw];simp
 simp[bT,bZ,bC,bD,this]
theorem z3x {F:Bg}{a v:Dv}{x i:Nat}{ρ ρ1:Ev}{H':Hs}(ha:aA x ρ=λH=>.ok a H) (e:F [a] H=.ok v H') (hs:aE i v ρ=some ρ1):aJ (aF F (aB (aA x) aC)) (aE i) ρ H=.nx ρ1 H':=by simp[aJ,aF,aB,ha,aC,e,hs]
end
theorem OR {α:Type}{p q:α->Bool}:∀{l:List α},(∀x∈l,p x=true->q x=true)->(∃a∈l,q a=true/\p a=false)->(l.filter p).length<(l.filter q).length
 | [],_,⟨_,h,_⟩=>nomatch h
 |x::l,h,⟨a,ha,hq,hp⟩=>by
  have le:(l.filter p).length<=(l.filter q).length:=by
   clear hq hp ha
   have h':∀x∈l,p x=true->q x=true:=λy hy=>h y (ar _ hy)
   clear h
   induction l with
   |nil=>exact ak _
   |cons y l ih=>
    have i:=ih λz hz=>h' z (ar _ hz);have hy:=h' y (bf ..);rw[jh,jh]
    cases c:p y with
    |true=>rw[hy c];simpa using i
    |false=>
     cases c2:q y with
     |true=>simp;omega
     |false=>simpa using i
  rw[jh,jh]
  rcases az.mp ha with rfl|ha
  ·rw[hq,hp];simp;omega
  ·have i:=OR (l:=l) (λy hy=>h y (ar _ hy)) ⟨a,ha,hq,hp⟩;have hx:=h x (bf ..)
   cases c:p x with
   |true=>rw[hx c];simpa using i
   |false=>
    cases c2:q x with
    |true=>simp;omega
    |false=>simpa using i
section
variable{n st:Nat}{ps:y'}{H:Hs}{xs:Bd}
theorem OS (o:By n ps) {left:Bd}:∀(m:Nat) (x:Int),x∈left->(left.filter λa=>decide ((a,x)∈ps)).length<=m->∃z∈left,∀a∈left,(a,z)∉ps
 |m,x,hx,hm=>by
  by_cases c:∃a∈left,(a,x)∈ps
  ·obtain⟨a,ha,hp⟩:=c;have lt:=OR (l:=left) (p:=λb=>decide ((b,a)∈ps)) (q:=λb=>decide ((b,x)∈ps)) (λb _ hb=>by simp only[decide_eq_true_eq]at hb ⊢;exact o.tr _ hb _ hp rfl) ⟨a,ha,by simpa using hp,by simp;exact λz=>o.irr _ z rfl⟩
   match m,hm with
   |0,hm=>omega
   |m+1,hm=>exact OS o m a ha (by omega)
  ·exact⟨x,hx,λa ha hp=>c ⟨a,ha,hp⟩⟩
def zW:M Bh :=bM (aR cN (aB (m2 aU (aA 1) (mC (.int 0))) aC)) [none,some 2] (aE 0) (mB (m2 (dW true) (aA 0) (aA 1))) (bA (aA 0))
def zX:M Bh :=bM (bF dY (m2 aU (aA 1) (mC (.int 1)))) [none,none,some 0,some 2] (cH 2 (aX (aE 0) (aX (aE 1) cJ))) (jH (mB (m2 bT (aA 1) (aA 2))) (mB (m2 (dW true) (aA 0) (aA 3)))) (bA (aA 0))
def FW:M Bh :=bM (bF cG (aA 4)) [none,some 1,some 2] (aE 0) (mB (m2 bT (bH zX) (aQ aC))) (bA (aA 0))
def OT:MS:=aJ (m2 bJ (aA 2) (aL (aB (m2 aU (aA 5) (aF F_qr (aB (aA 0) (aB (aF (f1 bX) (aB (aA 5) aC)) aC)))) aC))) (aE 2)
def sB:MS:=aH (aJ (bH zW) (aE 4)) (aH (aJ (bH FW) (aE 5)) OT)
theorem z3y:uQ=aH (aJ (aL aC) (aE 2)) (aH (eC (aR cN (aB (m2 aU (aA 1) (mC (.int 0))) aC)) (aE 3) sB) (aO (aA 2))):=rfl
theorem OU {ρ:Ev}(e:aA 1 ρ=λH=>.ok (aM n ps) H):m2 aU (aA 1) (mC (.int 0)) ρ H=.ok (.int n) H:=by have h0:=N7 (n:=n) (ps:=ps) H;generalize aM n ps=z at h0 e;simp[m2,e,mC,h0]
def dM (n:Nat) (xs:Bd):Bd:=(bR n).filter λx=>!decide (x∈xs)
theorem z3z (hn:n<=6) {x0 x3 x4 x5:Bi}:zW [x0,some (aM n ps),some (.tup (xs.map Fx)),x3,x4,x5] H=.ok ((dM n xs).map Fx) H:=by
 have w:zW [x0,some (aM n ps),some (.tup (xs.map Fx)),x3,x4,x5] H=.ok ((bR n).filterMap λx=>if !decide (x∈xs)then some (Fx x)else none) H:=
  gX (bR n) _ (λρ=>∃a,ρ=[a,some (.tup (xs.map Fx))]) (src:=cS 0 n) (sM (OU rfl) (by omega) (by omega)) (by simp[cS,bR]) ⟨_,rfl⟩ rfl (λk hk ρ ⟨a,e1⟩=>by
   subst e1;have gk:(bR n)[k]=(k:Int):=by simp[bR]
   refine⟨.int (0+k),[some (.int (0+k)),some (.tup (xs.map Fx))],rfl,rfl,⟨_,rfl⟩, ?_⟩;have h00:(0+(k:Int))=(k:Int):=by omega
   rw[gk,h00];have t:=uG true H (k:Int) xs;simp only[if_true]at t
   cases c:!decide ((k:Int)∈xs)with
   |true=>rw[c]at t;simp[mB,m2,aA,t,dF]
   |false=>rw[c]at t;simp[mB,m2,aA,t,dF]) (by simp[bR];omega)
 exact w.trans (congrArg (λl=>Gp l _) (qO _ _ _))
def iS (ps:y') (xs:Bd) (x:Int):y':=ps.filter λq=>decide (q.2=x)&&!decide (q.1∈xs)
theorem z40 (o:By n ps) {x:Int}:zX [some (.int x),some (aM n ps),some (.tup (xs.map Fx))] H=.ok (((iS ps xs x).map λq=>q.1).map Fx) H:=by
 have w:zX [some (.int x),some (aM n ps),some (.tup (xs.map Fx))] H=.ok (ps.filterMap λq=>if(decide (q.2=x)&&!decide (q.1∈xs))then some ((λq:Int×Int=>Fx q.1) q)else none) H:=
  gX ps _ (λρ=>∃a b,ρ=[a,b,some (.int x),some (.tup (xs.map Fx))]) (src:=cV (ps.map aK)) rfl (by simp[cV]) ⟨_,_,rfl⟩ rfl (λk hk ρ ⟨a,b,e⟩=>by
   subst e;refine⟨aK ps[k],[some (.int ps[k].1),some (.int ps[k].2),some (.int x),some (.tup (xs.map Fx))],by simp[cV,hk],rfl,⟨_,_,rfl⟩, ?_⟩;have t1:=sH (H:=H) ps[k].2 x;have t2:=uG true H ps[k].1 xs;simp only[if_true]at t2;generalize xs.map Fx=ys at t2
   cases c1:decide (ps[k].2=x)with
   |false=>rw[c1]at t1;simp[jH,mB,m2,aA,t1,dF]
   |true=>
    rw[c1]at t1
    cases c2:!decide (ps[k].1∈xs)with
    |true=>rw[c2]at t2;simp[jH,mB,m2,aA,t1,t2,dF]
    |false=>rw[c2]at t2;simp[jH,mB,m2,aA,t1,t2,dF]) (by have:=o.len;omega)
 have:=w.trans (congrArg (λl=>Gp l _) (qO _ _ _));rw[kh];exact this
theorem vP {m:M Bh }{ρ:Ev}{zs:Bd}(e:m ρ H=.ok (zs.map Fx) H):∃H',mB (m2 bT (bH m) (aQ aC)) ρ H=.ok (decide (zs=[])) H'/\Fr [] H H':=by
 have ea:bH m ρ H=.ok (.ref H.length) (H++[.lst (zs.map Fx)]):=by unfold bH;rw[e];rfl
 have g:getL (H++[Fy (zs.map Fx)]) H.length=some (zs.map Fx):=Cod.last_get;have f:Fr [] H (H++[Fy (zs.map Fx)]):=Fz;generalize H++[Fy (zs.map Fx)]=H1 at ea g f;have g2:getL (H1++[Fy []]) H1.length=some (([]:Bd).map Fx):=Cod.last_get;have q:=eq_ints (gQ (l:=[Fy []]) g) g2;refine⟨H1++[.lst []], ?_,f.trans (T:=[]) Fz (by simp)⟩;generalize bH m=M at ea;simp[mB,m2,ea,aQ,aC,lim,q,dF]
theorem z41 (o:By n ps) {i:Nat}{ys:Bd}(g:getL H i=some (ys.map Fx)) (hl:ys.length<=6) {x0 x3 x5:Bi}:∃H',FW [x0,some (aM n ps),some (.tup (xs.map Fx)),x3,some (.ref i),x5] H=.ok ((ys.filter λy=>decide (iS ps xs y=[])).map Fx) H'/\Fr [] H H':=by
 have fl:∀l:Bd,(l.flatMap λy=>if decide (iS ps xs y=[])then[Fx y]else[])=(l.filter λy=>decide (iS ps xs y=[])).map Fx:=λl=>by
  induction l with
  |nil=>rfl
  |cons y l ih=>
   rw[ij,jh,ih]
   cases c:decide (iS ps xs y=[]) <;> simp
 obtain⟨ρ',H',h,_,f⟩:=vB (mi:=bF cG (aA 4)) (cap:=[none,some 1,some 2]) (src:=cP i (ys.map Fx).length) (sg:=aE 0) (t:=mB (m2 bT (bH zX) (aQ aC))) (m:=bA (aA 0)) (ρ:=[x0,some (aM n ps),some (.tup (xs.map Fx)),x3,some (.ref i),x5]) (H:=H) (H1:=H) ys (λy=>if decide (iS ps xs y=[])then[Fx y]else[]) (λρ Hx=>(∃a,ρ=[a,some (aM n ps),some (.tup (xs.map Fx))])/\Fr [] H Hx) (by simp[bF,aA,cG,g]) (by simp[cP]) ⟨⟨_,rfl⟩,Gm⟩ (λρ Hx s=>by have gx:=s.2.getL g (by simp);simp[cP,gx])
  (λk hk ρ Hx ⟨⟨a,e⟩,f⟩=>by
   subst e;have gx:=f.getL g (by simp);refine⟨.int ys[k],[some (.int ys[k]),some (aM n ps),some (.tup (xs.map Fx))],by simp[cP,gx,hk],rfl, ?_⟩;obtain⟨Hy,t,fy⟩:=vP (z40 (H:=Hx) (xs:=xs) o (x:=ys[k]));have hd:decide (((iS ps xs ys[k]).map λq=>q.1)=[])=decide (iS ps xs ys[k]=[]):=by rw[cw];simp
   rw[hd]at t
   cases c:decide (iS ps xs ys[k]=[])with
   |false=>rw[c]at t;exact .inl ⟨Hy,t,by simp,⟨_,rfl⟩,f.trans fy (by simp)⟩
   |true=>rw[c]at t;refine .inr ⟨Hy,t,λacc hl=>⟨[some (.int ys[k]),some (aM n ps),some (.tup (xs.map Fx))],Hy, ?_,⟨_,rfl⟩,f.trans fy (by simp)⟩⟩;simp only[if_true]at hl ⊢;exact vC rfl hl) (by
   rw[fl,bg];have:=jd (λy=>decide (iS ps xs y=[])) ys;omega)
 refine⟨H', ?_,f⟩;rw[<-fl];exact h
theorem z42 {i:Nat}{zs:Bd}{ρ ρ1:Ev}(s:Com.St st H) (ht:aA 0 ρ=λH=>.ok (.ref st) H) (hx:aA 2 ρ=λH=>.ok (.tup (xs.map Fx)) H) (h5:aA 5 ρ=λH=>.ok (.ref i) H) (is:i≠st) (g:getL H i=some (zs.map Fx)) (l1:1<=zs.length) (l2:zs.length<=50) (hl:xs.length<=50)
  (hs:∀v,aE 2 v ρ=some (ρ.set 2 (some v))):∃z H',z∈zs/\OT ρ H=.nx (ρ.set 2 (some (.tup ((xs++[z]).map Fx)))) H'/\Com.St st H'/\Fr [st] H H':=by
 obtain⟨r,H1,r0,r1,t1,f1',s1⟩:=jR (zs.length:Int) s (by omega) (by omega);have g1:=f1'.getL g (by simpa using is);obtain⟨k,rfl⟩:∃k:Nat,r=k:=⟨r.toNat,by omega⟩
 have hk:k<zs.length:=by omega
 have x:=Cod.ixL g1 (show k<(zs.map Fx).length by simpa using hk);rw[List.getElem_map]at x;refine⟨zs[k],H1,cm hk, ?_,s1,f1'⟩;have eL:aF (f1 bX) (aB (aA 5) aC) ρ H=.ok (.int zs.length) H:=by simp[aF,aB,h5,aC,f1,bX,eQ,gH,eW,g]
 have e1:m2 aU (aA 5) (aF F_qr (aB (aA 0) (aB (aF (f1 bX) (aB (aA 5) aC)) aC))) ρ H=.ok (.int zs[k]) H1:=by generalize aF (f1 bX) (aB (aA 5) aC)=M at eL;generalize (zs.length:Int)=L at eL t1;simp[m2,h5,aF,aB,ht,eL,aC,t1,x]
 have e2:aL (aB (m2 aU (aA 5) (aF F_qr (aB (aA 0) (aB (aF (f1 bX) (aB (aA 5) aC)) aC)))) aC) ρ H=.ok (.tup [.int zs[k]]) H1:=by generalize m2 aU (aA 5) (aF F_qr (aB (aA 0) (aB (aF (f1 bX) (aB (aA 5) aC)) aC)))=M at e1;simp[aL,aB,e1,aC,lim]
 have a:=qN (xs.map Fx) [.int zs[k]] (by simp;omega) (H:=H1);have e3:=lB (ma:=aA 2) (H1:=H) (x:=.tup (xs.map Fx)) (by rw[hx]) e2 a;have hc:xs.map Fx++[.int zs[k]]=(xs++[zs[k]]).map Fx:=by simp
 rw[hc]at e3;exact oZ e3 (hs _)
structure Part (n:Nat) (ps:y') (k:Nat) (xs:Bd):Prop where
 len:xs.length=k
 nd:xs.Nodup
 rng:∀x∈xs,0<=x/\x<n
 cl:∀p∈ps,p.2∈xs->p.1∈xs/\ix xs p.1<ix xs p.2
theorem some_draw (o:By n ps) (s:Com.St st H):∃(ns:Bd) (H':Hs),F_qd [.ref st,aM n ps] H=.ok (.tup (ns.map Fx)) H'/\(∀x∈ns,0<=x/\x<n)/\gM n ps (.tup (ns.map Fx))=true/\ns.length<=6/\Com.St st H'/\Fr [st] H H':=by
 have n6:=o.n6;have w1:aJ (aL aC) (aE 2) [some (.ref st),some (aM n ps),none,none,none,none] H=.nx [some (.ref st),some (aM n ps),some (.tup (([]:Bd).map Fx)),none,none,none] H:=rfl;obtain⟨ρ',H1,w2,xs,y3,y4,y5,e,P,s1,f1'⟩:=nI (mi:=aR cN (aB (m2 aU (aA 1) (mC (.int 0))) aC)) (sg:=aE 3) (b:=sB) (ρ:=[some (.ref st),some (aM n ps),some (.tup (([]:Bd).map Fx)),none,none,none]) (H:=H) (sM (OU rfl) (by omega) (by omega))
  (λk ρ Hx=>∃(xs:Bd) (y3 y4 y5:Bi),ρ=[some (.ref st),some (aM n ps),some (.tup (xs.map Fx)),y3,y4,y5]/\Part n ps k xs/\Com.St st Hx/\Fr [st] H Hx)
  (λk ρ Hx hk ⟨xs,y3,y4,y5,e,P,s,fr⟩=>by
   subst e;have Dp:k<n:=by have:k<(cS 0 (n:Int)).n:=hk;simp[cS]at this;exact this
   have hll:(dM n xs).length<=6:=by have:=jd (λx=>!decide (x∈xs)) (bR n);simp[bR]at this;unfold dM;simp[bR];omega
   have a1:=z3z (ps:=ps) (xs:=xs) (H:=Hx) (x0:=some (.ref st)) (x3:=some (.int (0+(k:Int)))) (x4:=y4) (x5:=y5) n6;have wa:aJ (bH zW) (aE 4) [some (.ref st),some (aM n ps),some (.tup (xs.map Fx)),some (.int (0+(k:Int))),y4,y5] Hx=.nx [some (.ref st),some (aM n ps),some (.tup (xs.map Fx)),some (.int (0+(k:Int))),some (.ref Hx.length),y5] (Hx++[.lst ((dM n xs).map Fx)]):=zU a1 rfl;have ga:getL (Hx++[Fy ((dM n xs).map Fx)]) Hx.length=some ((dM n xs).map Fx):=Cod.last_get;have fa:Fr [] Hx (Hx++[Fy ((dM n xs).map Fx)]):=Fz;have sa:=s.fr fa (by simp);generalize Hx++[Fy ((dM n xs).map Fx)]=Ha at wa ga fa sa;generalize Hx.length=ia at wa ga;obtain⟨Hb,a2,fb⟩:=z41 (xs:=xs) (x0:=some (.ref st)) (x3:=some (.int (0+(k:Int)))) (x5:=y5) o ga hll;generalize hzs:((dM n xs).filter λy=>decide (iS ps xs y=[]))=zs at a2;have wb:aJ (bH FW) (aE 5) [some (.ref st),some (aM n ps),some (.tup (xs.map Fx)),some (.int (0+(k:Int))),some (.ref ia),y5] Ha=.nx [some (.ref st),some (aM n ps),some (.tup (xs.map Fx)),some (.int (0+(k:Int))),some (.ref ia),some (.ref Hb.length)] (Hb++[.lst (zs.map Fx)]):=zU a2 rfl;have gb:getL (Hb++[Fy (zs.map Fx)]) Hb.length=some (zs.map Fx):=Cod.last_get;have sb0:=sa.fr fb (by simp);have lb:=sb0.lt;have nb:Hb.length≠st:=by omega
   have fb2:Fr [] Ha (Hb++[Fy (zs.map Fx)]):=fb.trans (T:=[]) Fz (by simp);have sb:=sa.fr fb2 (by simp);generalize Hb++[Fy (zs.map Fx)]=Hc at wb gb fb2 sb;generalize Hb.length=ib at wb gb nb;have ex:∃x,x∈dM n xs:=by
    by_cases c:∃x,x∈dM n xs
    ·exact c
    ·exfalso
     have sub:∀x∈bR n,x∈xs:=λx hx=>by
      by_cases d:x∈xs
      ·exact d
      ·exact absurd ⟨x,fg.mpr ⟨hx,by simpa using d⟩⟩ c
     have:=(Dg (n:=n)).length_le_of_subset sub;rw[P.len]at this;simp[bR]at this;omega
   obtain⟨x0,hx0⟩:=ex;obtain⟨z0,hz0,hmin⟩:=OS o (left:=dM n xs) _ x0 hx0 (ak _);have hz:z0∈zs:=by rw[<-hzs];refine fg.mpr ⟨hz0, ?_⟩;simp only[decide_eq_true_eq,iS,jc];intro q hq hc;simp only[cx,decide_eq_true_eq,rz,decide_eq_false_iff_not]at hc;have r:=o.rng q hq;refine hmin q.1 (fg.mpr ⟨Cf.mpr ⟨r.1,r.2.1⟩,by simpa using hc.2⟩) ?_;rw[<-hc.1];exact hq
   have l1:1<=zs.length:=by
    cases zs with
    |nil=>cases hz
    |cons _ _=>simp
   have l2:zs.length<=50:=by rw[<-hzs];have:=jd (λy=>decide (iS ps xs y=[])) (dM n xs);omega
   obtain⟨z,Hd,mz,wd,sd,fd⟩:=z42 (xs:=xs) (ρ:=[some (.ref st),some (aM n ps),some (.tup (xs.map Fx)),some (.int (0+(k:Int))),some (.ref ia),some (.ref ib)]) (ρ1:=[]) sb rfl rfl rfl nb gb l1 l2 (by have:=P.len;omega) (λ_=>rfl);rw[<-hzs]at mz;have m1:=fg.mp mz;have m2':=fg.mp m1.1;have zr:=Cf.mp m2'.1;have zx:z∉xs:=by simpa using m2'.2
   have zo:iS ps xs z=[]:=by simpa using m1.2
   refine⟨.int (0+k),[some (.ref st),some (aM n ps),some (.tup (xs.map Fx)),some (.int (0+(k:Int))),y4,y5],_,Hd,rfl,rfl,(by unfold sB;rw[bE wa,bE wb];exact wd),xs++[z],_,_,_,rfl,⟨by simp[P.len], ?_,λx hx=>?_,λp hp hx=>?_⟩,sd,((fr.trans fa (by simp)).trans fb2 (by simp)).trans fd (by simp)⟩
   ·rw[wq];refine⟨P.nd,by simp,λa ha b hb e=>?_⟩;have:b=z:=by simpa using hb
    subst this;subst e;exact zx ha
   ·rcases br.mp hx with hx|hx
    ·exact P.rng x hx
    ·have:x=z:=by simpa using hx
     rw[this];exact zr
   ·by_cases c:p.2∈xs
    ·obtain⟨q1,q2⟩:=P.cl p hp c;exact⟨fh _ q1,by rw[lC q1,lC c];exact q2⟩
    ·have e2:p.2=z:=by
      rcases br.mp hx with hx|hx
      ·exact absurd hx c
      ·simpa using hx
     have q1:p.1∈xs:=by
      by_cases d:p.1∈xs
      ·exact d
      ·exfalso
       have:p∈iS ps xs z:=fg.mpr ⟨hp,by simp[e2,d]⟩;rw[zo]at this;cases this
     refine⟨fh _ q1, ?_⟩;rw[lC q1,e2,sO zx];exact sN q1)
  (λρ Hx _=>rfl) ⟨[],none,none,none,rfl,⟨rfl,.nil,by simp,by simp⟩,s,Gm⟩
 subst e;have hn:(cS 0 (n:Int)).n=n:=by simp[cS]
 rw[hn]at P;refine⟨xs,H1, ?_,P.rng, ?_,by have:=P.len;omega,s1,f1'⟩
 ·show bK (uQ [some (.ref st),some (aM n ps),none,none,none,none] H)=_;rw[z3y,bE w1,bE w2];rfl
 ·rw[sP P.rng];unfold nX;simp only[P.len,P.nd,decide_true,vn,ey,decide_eq_true_eq];intro p hp;have r:=o.rng p hp;exact(P.cl p hp (lD P.rng P.nd P.len r.2.2.1 r.2.2.2)).2
end
open L2.Mr.Cod (last_get nW ixL)
def Ox (x:Dv):Prop:=(∀H,T0 H x)/\PU x
def Gd (H:Hs) (d:Dv):Prop:=TK 1 H d/\∀ds,d=.tup ds->ds.length<64/\∀x∈ds,PU x
theorem Gd.tup {H:Hs}{zs:Bh}(hl:zs.length<64) (h:∀x∈zs,Ox x):Gd H (.tup zs):=⟨TK.tup (by omega) λx hx=>(h x hx).1 H,λds e=>by cases e;exact⟨hl,λx hx=>(h x hx).2⟩⟩
theorem Gd.of0 {H:Hs}{d:Dv}(h:T0 H d) (hn:∀ds,d≠.tup ds):Gd H d:=⟨TK.of h hn,λds e=>absurd e (hn ds)⟩
theorem Gd.fr {st:Nat}{H H':Hs}{d:Dv}(g:Gd H d) (f:Fr [st] H H') (s:Com.St st H'):Gd H' d:=⟨g.1.fr f s,g.2⟩
theorem Gd.fr0 {H H':Hs}{d:Dv}(g:Gd H d) (f:Fr [] H H'):Gd H' d:=⟨g.1.fr0 f,g.2⟩
theorem Gd.upd {j:Nat}{xs ys:Bh}{H:Hs}{d:Dv}(e:getL H j=some xs) (g:Gd H d):Gd (H.set j (.lst ys)) d:=⟨TK.upd e g.1,g.2⟩
theorem zY (k:Int):Ox (.int k):=⟨λ_=>trivial,λ_=>⟨_,rfl⟩⟩
theorem zZ {ns:Bd}:∀x∈ns.map Fx,Ox x:=λx hx=>by obtain⟨y,_,rfl⟩:=cp.mp hx;exact zY y
theorem pW {H:Hs}{k:Nat}(ns:Bd):∃ts,bP (bC (k+1) H) (ns.map Fx)=some ts:=by
 induction ns with
 |nil=>exact⟨[],rfl⟩
 |cons x xs ih=>obtain⟨ts,e⟩:=ih;have e0:bC (k+1) H (.int x)=some (.int x):=rfl;exact⟨.int x::ts,by simp only[da,bP,e0,e]⟩
theorem z43 {H:Hs}{k:Nat}{xs:Bh}{ts:List Dt}(e:bP (bC k H) xs=some ts):bC (k+1) H (.tup xs)=some (.tup ts):=by simp only[bC,e]
theorem OV {ns:Bd}:Ox (.tup (ns.map Fx)):=⟨λ_=>trivial,λH=>by obtain⟨ts,e⟩:=pW (H:=H) (k:=27) ns;exact⟨.tup ts,z43 e⟩⟩
theorem FX {ds:Bh}{k:Nat}{H:Hs}(hk:k<ds.length):aU (.tup ds) (.int (k:Int)) H=.ok ds[k] H:=by
 have h1:eI ds.length (k:Int)=some k:=by unfold eI;rw[if_pos (by omega),if_pos (by omega)];simp
 have h2:gD ds (k:Int)=some ds[k]:=by unfold gD;rw[h1];simp[hk]
 simp only[aU,eQ,gG,jX,h2,if_true]
section
variable{st:Nat}{H:Hs}{ρ:Ev}{ds:Bh}{a b:Nat}{y:Dv}
def vQ:M Bh :=(aB (m2 aU (aA 1) (aA 3)) (aB (aF (f1 bX) (aB (aA 1) aC)) (aB (m1 nB (mC (.int 1))) (aB (mC (.bl true)) (aB (mC .non) (aB (mC (.str "0")) (aB (aL (aB (mC (.int 0)) aC)) (aB (m2 oP (mC (.int 10)) (mC (.int 29))) (aB (mC (.bl false)) aC)))))))))
def nY (x:Dv) (L:Int):Bh:=[x,.int L,.int (-1),.bl true,.non,.str "0",.tup [.int 0],.int (10 ^ 29),.bl false]
theorem z44 {x:Dv}{L:Int}(h:Ox x):∀y∈nY x L,Ox y:=by
 intro y hy;simp only[nY,az,xl,or_false]at hy
 rcases hy with rfl|rfl|rfl|rfl|rfl|rfl|rfl|rfl|rfl
 ·exact h
 ·exact zY _
 ·exact zY _
 ·exact⟨λ_=>trivial,λ_=>⟨_,rfl⟩⟩
 ·exact⟨λ_=>trivial,λ_=>⟨_,rfl⟩⟩
 ·exact⟨λ_=>trivial,λ_=>⟨_,rfl⟩⟩
 ·exact OV (ns:=[0])
 ·exact zY _
 ·exact⟨λ_=>trivial,λ_=>⟨_,rfl⟩⟩
theorem z45 (s:Com.St st H) (hx:∀x∈ds,Ox x) (hb:b<ds.length) (h0:aA 0 ρ=λH=>.ok (.ref st) H) (h1:aA 1 ρ=λH=>.ok (.tup ds) H) (h3:aA 3 ρ=λH=>.ok (.int (b:Int)) H):∃y H',m2 aU (aQ vQ) (aF F_qr (aB (aA 0) (aB (mC (.int 9)) aC))) ρ H=.ok y H'/\Ox y/\Com.St st H'/\Fr [st] H H':=by
 have ox:=z44 (L:=(ds.length:Int)) (hx _ (cm hb));have e1:aQ vQ ρ H=.ok (.ref H.length) (H++[.lst (nY ds[b] ds.length)]):=by have hp:∀H,oP (.int 10) (.int 29) H=.ok (.int (10 ^ 29)) H:=λH=>rfl;have hg:nB (.int 1) H=.ok (.int (-1)) H:=rfl;have hi:=FX (H:=H) hb;have hl:=FU (H:=H) (ds:=ds) (i:=1) (ρ:=ρ) (by rw[h1]);unfold vQ nY;generalize (ds.length:Int)=L at hl;generalize ds[b]=z at hi;generalize aF (f1 bX) (aB (aA 1) aC)=M at hl;simp[aQ,aB,m2,m1,mC,h1,h3,hi,hl,aL,aC,hp,hg,lim]
 have f1':Fr [] H (H++[Fy (nY ds[b] ds.length)]):=Fz;have g1:getL (H++[Fy (nY ds[b] ds.length)]) H.length=some (nY ds[b] ds.length):=last_get;have lt:=s.lt;have i1:H.length≠st:=by omega
 have l9:(nY ds[b] (ds.length:Int)).length=9:=rfl;generalize nY ds[b] (ds.length:Int)=ol at e1 f1' g1 l9 ox;generalize H++[Fy ol]=H1 at e1 f1' g1;generalize H.length=i at e1 g1 i1;have s1:=s.fr f1' (by simp);obtain⟨r,H2,r0,r1,t2,f2,s2⟩:=jR 9 s1;have g2:=f2.getL g1 (by simpa using i1);obtain⟨j,rfl⟩:∃j:Nat,r=j:=⟨r.toNat,by omega⟩
 have hj:j<ol.length:=by omega
 refine⟨ol[j],H2, ?_,ox _ (cm hj),s2,(f1'.mono (T:=[st]) (by simp)).trans f2 (by simp)⟩;have e3:aF F_qr (aB (aA 0) (aB (mC (.int 9)) aC)) ρ H1=.ok (.int j) H2:=by simp[aF,aB,h0,mC,aC,t2]
 have e4:=ixL g2 hj;unfold m2;rw[e1,Rs.bind_ok,e3,Rs.bind_ok,e4]
def pC:M Dv:=gK (aA 1) gI (fS (aA 2))
def vR:M Dv:=gK (aA 1) (fS (m2 bJ (aA 2) (mC (.int 1)))) gI
def sT:M Dv:=gK (aA 1) (fS (aA 2)) gI
theorem OW (h1:aA 1 ρ=λH=>.ok (.tup ds) H) (h2:aA 2 ρ=λH=>.ok (.int (a:Int)) H):pC ρ H=.ok (.tup (ds.take a)) H:=by simp[pC,gK,h1,gI,fS,h2,rP,pZ,z3h]
theorem OX (h1:aA 1 ρ=λH=>.ok (.tup ds) H) (h2:aA 2 ρ=λH=>.ok (.int (a:Int)) H):sT ρ H=.ok (.tup (ds.drop a)) H:=by simp[sT,gK,h1,gI,fS,h2,rP,pZ,OP]
theorem z46 (h1:aA 1 ρ=λH=>.ok (.tup ds) H) (h2:aA 2 ρ=λH=>.ok (.int (a:Int)) H):vR ρ H=.ok (.tup (ds.drop (a+1))) H:=by have ha:bJ (.int (a:Int)) (.int 1) H=.ok (.int ((a+1:Nat):Int)) H:=rfl;have hc:=OP ds (a+1);generalize ((a+1:Nat):Int)=L at ha hc;simp[vR,gK,h1,gI,fS,m2,h2,mC,ha,rP,pZ,hc]
theorem OY (hl:ds.length<=100):f1 gJ [.tup ds] H=.ok (.ref H.length) (H++[.lst ds]):=by
 have hz:ds.length<=1000000:=by omega
 simp[f1,gJ,eQ,pM,eW,lim,hz]
def AA:M Bh :=(aB (m2 bJ (m2 bJ pC (aL (aB (aA 4) aC))) vR) (aB (m2 bJ pC vR) (aB (m2 bJ (m2 bJ pC (aL (aB (aA 4) aC))) sT) (aB (aF (f1 gJ) (aB (aA 1) aC)) (aB (mC .non) aC)))))
def sU (ds:Bh) (a:Nat) (y:Dv) (i:Nat):Bh:=[.tup (ds.take a++[y]++ds.drop (a+1)),.tup (ds.take a++ds.drop (a+1)),.tup (ds.take a++[y]++ds.drop a),.ref i,.non]
theorem z47 (hl:ds.length<=30) (h1:aA 1 ρ=λH=>.ok (.tup ds) H) (h2:aA 2 ρ=λH=>.ok (.int (a:Int)) H) (h4:aA 4 ρ=λH=>.ok y H):aQ AA ρ H=.ok (.ref (H++[Fy ds]).length) ((H++[.lst ds])++[.lst (sU ds a y H.length)]):=by have a':=OW (H:=H) h1 h2;have b:=z46 (H:=H) h1 h2;have c:=OX (H:=H) h1 h2;have p1:=qN (ds.take a) [y] (by simp;omega) (H:=H);have p2:=qN (ds.take a++[y]) (ds.drop (a+1)) (by simp;omega) (H:=H);have p3:=qN (ds.take a++[y]) (ds.drop a) (by simp;omega) (H:=H);have p4:=qN (ds.take a) (ds.drop (a+1)) (by simp;omega) (H:=H);have l:=OY (H:=H) (ds:=ds) (by omega);unfold sU AA;generalize ds.take a++[y]++ds.drop (a+1)=z1 at p2;generalize ds.take a++[y]++ds.drop a=z2 at p3;generalize ds.take a++ds.drop (a+1)=z3 at p4;generalize ds.take a++[y]=z4 at p1 p2 p3;generalize ds.take a=z5 at a' p1 p4;generalize ds.drop a=z6 at c p3;generalize ds.drop (a+1)=z7 at b p2 p4;generalize pC=A at a';generalize vR=B at b;generalize sT=C at c;generalize f1 gJ=F at l;simp[aQ,aB,aC,m2,a',b,c,aL,h4,lim,p1,p2,p3,p4,aF,h1,l,mC]
theorem OZ {x:Dv}(hx:∀x∈ds,Ox x) (hy:Ox y) {k l:Nat}(h:x∈ds.take k++[y]++ds.drop l):Ox x:=by
 simp only[br,cg]at h
 rcases h with(z|z)|z
 ·exact hx x (uz z)
 ·rw[z];exact hy
 ·exact hx x (pq z)
theorem z48 {i:Nat}(g:getL H i=some ds) (hx:∀x∈ds,Ox x) (hy:Ox y) (hl:ds.length<=30):∀d∈sU ds a y i,Gd H d:=by
 intro d hd;simp only[sU,az,xl,or_false]at hd
 rcases hd with rfl|rfl|rfl|rfl|rfl
 ·exact Gd.tup (by simp;omega) λx h=>OZ hx hy h
 ·exact Gd.tup (by simp;omega) λx h=>(br.mp h).elim (λz=>hx x (uz z)) λz=>hx x (pq z)
 ·exact Gd.tup (by simp;omega) λx h=>OZ hx hy h
 ·exact Gd.of0 ⟨_,g⟩ (λ_ z=>by cases z)
 ·exact Gd.of0 trivial (λ_ z=>by cases z)
def FY:MS:=yR (aL (aB (m2 aU (aA 1) (aA 3)) (aB (m2 aU (aA 1) (aA 2)) aC))) (aA 6) (aA 2) (aA 6) (aA 3)
theorem z49 {i:Nat}(ha:a<ds.length) (hb:b<ds.length) (g:getL H i=some ds) (h1:aA 1 ρ=λH=>.ok (.tup ds) H) (h2:aA 2 ρ=λH=>.ok (.int (a:Int)) H) (h3:aA 3 ρ=λH=>.ok (.int (b:Int)) H) (h6:aA 6 ρ=λH=>.ok (.ref i) H):
  ∃H',FY ρ H=.nx ρ H'/\getL H' i=some ((ds.set a ds[b]).set b ds[a])/\Fr [i] H H'/\∀d,Gd H d->Gd H' d:=by
 have ia:=FX (H:=H) ha;have ib:=FX (H:=H) hb;have s1:jA (.ref i) (.int (a:Int)) ds[b] H=some (H.set i (.lst (ds.set a ds[b]))):=by simp[jA,g,eI,ha]
 have g1:getL (H.set i (.lst (ds.set a ds[b]))) i=some (ds.set a ds[b]):=kW g;have f1':Fr [i] H (H.set i (.lst (ds.set a ds[b]))):=Gq;have u1:∀d,Gd H d->Gd (H.set i (.lst (ds.set a ds[b]))) d:=λd z=>Gd.upd g z;generalize H.set i (.lst (ds.set a ds[b]))=H1 at s1 g1 f1' u1;have s2:jA (.ref i) (.int (b:Int)) ds[a] H1=some (H1.set i (.lst ((ds.set a ds[b]).set b ds[a]))):=by
  have hb':b<(ds.set a ds[b]).length:=by simpa using hb
  simp[jA,g1,eI,hb]
 refine⟨_, ?_,kW g1,f1'.trans (T:=[i]) Gq (by simp),λd z=>Gd.upd g1 (u1 d z)⟩;generalize (ds.set a ds[b]).set b ds[a]=es at s2;generalize ds[a]=xa at ia s2;generalize ds[b]=xb at ib s1;simp[FY,yR,aL,aB,m2,h1,h2,h3,ia,ib,aC,lim,Rs.thenS,h6,s1,s2]
def AB:M Bh :=(aB (aF (f1 gN) (aB (aA 6) aC)) (aB (aF (f1 gN) (aB (aA 6) aC)) (aB (aF (f1 gN) (aB (aA 6) aC)) (aB (yJ (aA 1) (fS (m1 nB (mC (.int 1))))) (aB (m2 bJ sT pC) (aB (mC .edc) (aB (mC (.int 0)) (aB (aL (aB (aA 1) aC)) (aB (aA 1) aC)))))))))
def sV (ds es:Bh) (a:Nat):Bh:=[.tup es,.tup es,.tup es,.tup ds.reverse,.tup (ds.drop a++ds.take a),.edc,.int 0,.tup [.tup ds],.tup ds]
theorem z4a {i:Nat}{es:Bh}(hl:ds.length<=30) (g:getL H i=some es) (h1:aA 1 ρ=λH=>.ok (.tup ds) H) (h2:aA 2 ρ=λH=>.ok (.int (a:Int)) H) (h6:aA 6 ρ=λH=>.ok (.ref i) H):aQ AB ρ H=.ok (.ref H.length) (H++[.lst (sV ds es a)]):=by
 have a':=OW (H:=H) h1 h2;have c:=OX (H:=H) h1 h2;have p:=qN (ds.drop a) (ds.take a) (by simp;omega) (H:=H);have hg:∀H,nB (.int 1) H=.ok (.int (-1)) H:=λH=>rfl;have ht:f1 gN [.ref i] H=.ok (.tup es) H:=by simp[f1,gN,g]
 unfold AB sV;generalize ds.drop a++ds.take a=z at p;generalize pC=A at a';generalize sT=C at c;generalize f1 gN=F at ht;simp[aQ,aB,aC,aF,h6,ht,yJ,h1,fS,m1,mC,hg,rP,DM,m2,a',c,p,aL,lim]
theorem z4b {es:Bh}{ns:Bd}(hd:ds=ns.map Fx) (he:∀x∈es,x∈ds) (le:es.length=ds.length) (hl:ds.length<=30):∀d∈sV ds es a,Gd H d:=by
 have hx:∀x∈ds,Ox x:=by rw[hd];exact zZ
 have hes:Gd H (.tup es):=Gd.tup (by omega) λx h=>hx x (he x h);intro d Dj;simp only[sV,az,xl,or_false]at Dj
 rcases Dj with rfl|rfl|rfl|rfl|rfl|rfl|rfl|rfl|rfl
 ·exact hes
 ·exact hes
 ·exact hes
 ·exact Gd.tup (by simp;omega) λx h=>hx x (by simpa using h)
 ·exact Gd.tup (by simp;omega) λx h=>(br.mp h).elim (λz=>hx x (pq z)) λz=>hx x (uz z)
 ·exact Gd.of0 trivial (λ_ z=>by cases z)
 ·exact Gd.of0 trivial (λ_ z=>by cases z)
 ·exact Gd.tup (by simp) λx h=>by
   have:x=.tup ds:=by simpa using h
   rw[this,hd];exact OV
 ·exact Gd.tup (by omega) hx
end
theorem z4c:mb_qc=aH (uP 2 3 (aB (aF F_qr (aB (aA 0) (aB (aF (f1 bX) (aB (aA 1) aC)) aC))) (aB (aF F_qr (aB (aA 0) (aB (aF (f1 bX) (aB (aA 1) aC)) aC))) aC))) (aH (aJ (m2 aU (aQ vQ) (aF F_qr (aB (aA 0) (aB (mC (.int 9)) aC)))) (aE 4)) (aH (aJ (aQ AA) (aE 5)) (aH (aJ (aF (f1 gJ) (aB (aA 1) aC)) (aE 6)) (aH FY (aH (aJ (m2 bJ (aA 5) (aQ AB)) (aE 5)) (aO (m2 aU (aA 5) (aF F_qr (aB (aA 0) (aB (mC (.int 14)) aC))))))))) ):=rfl
theorem bent_ok {st:Nat}{H:Hs}{ns:Bd}(s:Com.St st H) (hl:ns.length<=6) (hp:1<=ns.length):∃d H',F_qc [.ref st,.tup (ns.map Fx)] H=.ok d H'/\Gd H' d/\Com.St st H'/\Fr [st] H H':=by
 have hx:∀x∈ns.map Fx,Ox x:=zZ;have hz:(ns.map Fx).length=ns.length:=by simp
 generalize hds:ns.map Fx=ds at hx hz;obtain⟨r1,H1,p1,q1,t1,f1',s1⟩:=jR (ds.length:Int) s (by omega) (by omega);obtain⟨r2,H2,p2,q2,t2,f2,s2⟩:=jR (ds.length:Int) s1 (by omega) (by omega);have w1:uP 2 3 (aB (aF F_qr (aB (aA 0) (aB (aF (f1 bX) (aB (aA 1) aC)) aC))) (aB (aF F_qr (aB (aA 0) (aB (aF (f1 bX) (aB (aA 1) aC)) aC))) aC)) [some (.ref st),some (.tup ds),none,none,none,none,none] H=.nx [some (.ref st),some (.tup ds),some (.int r1),some (.int r2),none,none,none] H2:=by
  have e:∀H,aF (f1 bX) (aB (aA 1) aC) [some (.ref st),some (.tup ds),none,none,none,none,none] H=.ok (.int ds.length) H:=λH=>FU rfl;generalize aF (f1 bX) (aB (aA 1) aC)=M at e;generalize (ds.length:Int)=L at e t1 t2;have c:(aB (aF F_qr (aB (aA 0) (aB M aC))) (aB (aF F_qr (aB (aA 0) (aB M aC))) aC)) [some (.ref st),some (.tup ds),none,none,none,none,none] H=.ok [.int r1,.int r2] H2:=by simp[aF,aB,aA,e,aC,t1,t2]
  unfold uP;rw[c];rfl
 obtain⟨a,rfl⟩:∃k:Nat,r1=k:=⟨r1.toNat,by omega⟩
 obtain⟨b,rfl⟩:∃k:Nat,r2=k:=⟨r2.toNat,by omega⟩
 have ha:a<ds.length:=by omega
 have hb:b<ds.length:=by omega
 obtain⟨y,H3,w3,oy,s3,f3⟩:=z45 (ρ:=[some (.ref st),some (.tup ds),some (.int (a:Int)),some (.int (b:Int)),none,none,none]) s2 hx hb rfl rfl rfl;have w3':aJ (m2 aU (aQ vQ) (aF F_qr (aB (aA 0) (aB (mC (.int 9)) aC)))) (aE 4) [some (.ref st),some (.tup ds),some (.int (a:Int)),some (.int (b:Int)),none,none,none] H2=.nx [some (.ref st),some (.tup ds),some (.int (a:Int)),some (.int (b:Int)),some y,none,none] H3:=oZ w3 rfl;have e4:=z47 (H:=H3) (ds:=ds) (a:=a) (y:=y) (ρ:=[some (.ref st),some (.tup ds),some (.int (a:Int)),some (.int (b:Int)),some y,none,none]) (by omega) rfl rfl rfl;have g4a:getL (H3++[Fy ds]) H3.length=some ds:=last_get;have f4a:Fr [] H3 (H3++[Fy ds]):=Fz;generalize H3++[Fy ds]=H3a at e4 g4a f4a;generalize H3.length=i3 at e4 g4a;have gd4:=z48 (H:=H3a) (a:=a) g4a hx oy (by omega);have l5:(sU ds a y i3).length=5:=rfl;generalize sU ds a y i3=L1 at e4 gd4 l5;have g4:getL (H3a++[Fy L1]) H3a.length=some L1:=last_get;have f4b:Fr [] H3a (H3a++[Fy L1]):=Fz;have f4:Fr [] H3 (H3a++[Fy L1]):=f4a.trans f4b (by simp);have w4:aJ (aQ AA) (aE 5) [some (.ref st),some (.tup ds),some (.int (a:Int)),some (.int (b:Int)),some y,none,none] H3=.nx [some (.ref st),some (.tup ds),some (.int (a:Int)),some (.int (b:Int)),some y,some (.ref H3a.length),none] (H3a++[.lst L1]):=oZ e4 rfl;have gd4':∀d∈L1,Gd (H3a++[Fy L1]) d:=λd hd=>(gd4 d hd).fr0 f4b;have s4:=s3.fr f4 (by simp);generalize H3a++[Fy L1]=H4 at w4 g4 f4 gd4' s4;generalize H3a.length=i4 at w4 g4;have w5:aJ (aF (f1 gJ) (aB (aA 1) aC)) (aE 6) [some (.ref st),some (.tup ds),some (.int (a:Int)),some (.int (b:Int)),some y,some (.ref i4),none] H4=.nx [some (.ref st),some (.tup ds),some (.int (a:Int)),some (.int (b:Int)),some y,some (.ref i4),some (.ref H4.length)] (H4++[.lst ds]):=z3x rfl (OY (by omega)) rfl;have g5:getL (H4++[Fy ds]) H4.length=some ds:=last_get;have f5:Fr [] H4 (H4++[Fy ds]):=Fz;have lt4:=s4.lt;have n5:H4.length≠st:=by omega
 have n54:i4≠H4.length:=by have:=nG g4;omega
 have s5:=s4.fr f5 (by simp);have g4':=f5.getL g4 (by simp);have le5:H.length<=H4.length:=cz ((f1'.trans f2 (by simp)).trans f3 (by simp):Fr [st] H H3).le f4.le;generalize H4++[Fy ds]=H5 at w5 g5 f5 s5 g4';generalize H4.length=i5 at w5 g5 n5 n54 le5;obtain⟨H6,w6,g6,f6,u6⟩:=z49 (ρ:=[some (.ref st),some (.tup ds),some (.int (a:Int)),some (.int (b:Int)),some y,some (.ref i4),some (.ref i5)]) ha hb g5 rfl rfl rfl rfl;have g4'':=f6.getL g4' (by simpa using n54);have s6:Com.St st H6:=by obtain⟨u,v,es'⟩:=s5;exact⟨u,v,f6.getL es' (by simpa using de n5)⟩
 have gd6:∀d∈L1,Gd H6 d:=λd hd=>u6 d ((gd4' d hd).fr0 f5);have hes:∀x∈(ds.set a ds[b]).set b ds[a],x∈ds:=λx Fp=>by
  rcases ze Fp with z|z
  ·rcases ze z with z|z
   ·exact z
   ·rw[z];exact cm hb
  ·rw[z];exact cm ha
 have les:((ds.set a ds[b]).set b ds[a]).length=ds.length:=by simp
 generalize (ds.set a ds[b]).set b ds[a]=es at g6 hes les;have e7:=z4a (H:=H6) (ρ:=[some (.ref st),some (.tup ds),some (.int (a:Int)),some (.int (b:Int)),some y,some (.ref i4),some (.ref i5)]) (a:=a) (ds:=ds) (by omega) g6 rfl rfl rfl;have gd7:=z4b (H:=H6) (a:=a) hds.symm hes les (by omega);have l9:(sV ds es a).length=9:=rfl;generalize sV ds es a=L2 at e7 gd7 l9;have g7:getL (H6++[Fy L2]) H6.length=some L2:=last_get;have f7:Fr [] H6 (H6++[Fy L2]):=Fz;have g47:=f7.getL g4'' (by simp);generalize H6++[Fy L2]=H7 at e7 g7 f7 g47;have a7:=nW (H:=H7) g47 g7 (by omega);have w7:aJ (m2 bJ (aA 5) (aQ AB)) (aE 5) [some (.ref st),some (.tup ds),some (.int (a:Int)),some (.int (b:Int)),some y,some (.ref i4),some (.ref i5)] H6=.nx [some (.ref st),some (.tup ds),some (.int (a:Int)),some (.int (b:Int)),some y,some (.ref H7.length),some (.ref i5)] (H7++[.lst (L1++L2)]):=oZ (zS rfl e7 a7) rfl;have f8:Fr [] H7 (H7++[Fy (L1++L2)]):=Fz;have g8:getL (H7++[Fy (L1++L2)]) H7.length=some (L1++L2):=last_get;have f78:=f7.trans f8 (T:=[]) (by simp);have s8:=s6.fr f78 (by simp);have lt7:=(s6.fr f7 (by simp)).lt;have n8:H7.length≠st:=by omega
 have gd8:∀d∈L1++L2,Gd (H7++[Fy (L1++L2)]) d:=λd hd=>by
  rcases br.mp hd with z|z
  ·exact(gd6 d z).fr0 f78
  ·exact(gd7 d z).fr0 f78
 have l14:(L1++L2).length=14:=by rw[bx,l5,l9]
 generalize L1++L2=L at w7 f8 g8 f78 s8 gd8 l14;generalize H7++[Fy L]=H8 at w7 f8 g8 f78 s8 gd8;generalize H7.length=i7 at w7 g8 n8;obtain⟨q,H9,q0,q9,t9,f9,s9⟩:=jR 14 s8;have g9:=f9.getL g8 (by simpa using n8);obtain⟨j,rfl⟩:∃j:Nat,q=j:=⟨q.toNat,by omega⟩
 have hj:j<L.length:=by omega
 have x9:=ixL g9 hj;have f03:Fr [st] H H3:=(f1'.trans f2 (by simp)).trans f3 (by simp);have f05:Fr [st] H H5:=(f03.trans f4 (by simp)).trans f5 (by simp);have f06:Fr [st] H H6:=f05.trans f6 (by simpa using Or.inr le5);refine⟨L[j],H9, ?_,(gd8 _ (cm hj)).fr f9 s9,s9,(f06.trans f78 (by simp)).trans f9 (by simp)⟩;show bK (mb_qc [some (.ref st),some (.tup ds),none,none,none,none,none] H)=_;rw[z4c,bE w1,bE w3',bE w4,bE w5,bE w6,bE w7];simp[aO,m2,aA,aF,aB,mC,aC,t9,x9,bK]
section
variable{c:Nat}(hc:c=0∨c=5) {H:Hs}{x0 x2 x3:Bi}
include hc
end
theorem z4d {ρ:Ev}{H H':Hs}{ds:Bh}(e:vJ ρ H=.ok ds H'):∀x∈ds,fV x=false:=by
 have e2:Gp _ _=Gp ds H':=e;injection e2 with e3 e4;subst e3
 repeat' (first|exact vg _|refine vc.mpr ⟨rfl, ?_⟩)
theorem z4e {ρ:Ev}{H H':Hs}{ds:Bh}(e:vK ρ H=.ok ds H'):∀x∈ds,fV x=false:=by
 have e2:Gp _ _=Gp ds H':=e;injection e2 with e3 e4;subst e3
 repeat' (first|exact vg _|refine vc.mpr ⟨rfl, ?_⟩)
theorem z4f {ρ:Ev}{H H':Hs}{ds:Bh}(e:vL ρ H=.ok ds H'):∀x∈ds,fV x=false:=by
 have e2:Gp _ _=Gp ds H':=e;injection e2 with e3 e4;subst e3
 repeat' (first|exact vg _|refine vc.mpr ⟨rfl, ?_⟩)
def MnB (n:Nat) (H:Hs) (i:Nat):Prop:=∃ds,getL H i=some ds/\ds.length=n/\(∀x∈ds,TK 3 H x)/\∀x∈ds,fV x=false
section
variable{n m:Nat}{H H':Hs}{i j:Nat}
theorem MnB.fr0 (h:MnB n H i) (f:Fr [] H H'):MnB n H' i:=by obtain⟨ds,e,l,t,b⟩:=h;exact⟨ds,f.getL e (by simp),l,λx hx=>(t x hx).fr0 f,b⟩
theorem MnB.fr {st:Nat}(h:MnB n H i) (f:Fr [st] H H') (s:Com.St st H') (hi:i≠st):MnB n H' i:=by obtain⟨ds,e,l,t,b⟩:=h;exact⟨ds,f.getL e (by simpa using hi),l,λx hx=>(t x hx).fr f s,b⟩
theorem FZ {ms:M Bh }{ρ:Ev}(h:mK (λ_ _=>True) 3 n ms) (hb:∀{ρ:Ev}{H H':Hs}{ds:Bh},ms ρ H=.ok ds H'->∀x∈ds,fV x=false) (hn:n<=500):∃i H',aQ ms ρ H=.ok (.ref i) H'/\MnB n H' i/\Fr [] H H'/\H.length<=i:=by obtain⟨ds,H1,e1,f1,l1,t1⟩:=h ρ H trivial;refine⟨H1.length,H1++[.lst ds], ?_,⟨ds,last_get,l1,λx hx=>(t1 x hx).fr0 Fz,hb e1⟩,f1.trans (T:=[]) Fz (by simp),f1.le⟩;unfold aQ lim;rw[e1,Rs.bind_ok,if_pos (by omega)]
theorem O2 (a:MnB n H i) (b:MnB m H j) (hn:n+m<=500):∃H',bJ (.ref i) (.ref j) H=.ok (.ref H.length) H'/\MnB (n+m) H' H.length/\Fr [] H H':=by
 obtain⟨ds,e1,l1,t1,b1⟩:=a;obtain⟨es,e2,l2,t2,b2⟩:=b;refine⟨_,nW e1 e2 (by omega),⟨ds++es,last_get,by simp[l1,l2],λx hx=>?_,λx hx=>?_⟩,Fz⟩
 ·rcases br.mp hx with hx|hx
  ·exact(t1 x hx).fr0 Fz
  ·exact(t2 x hx).fr0 Fz
 ·rcases br.mp hx with hx|hx
  ·exact b1 x hx
  ·exact b2 x hx
end
theorem bad_no {st:Nat}{H:Hs}(s:Com.St st H):∃d H',F_qa [.ref st] H=.ok d H'/\TK 3 H' d/\fV d=false/\Com.St st H'/\Fr [st] H H':=by
 have hP:OO λ_ _=>True:=λ_ _ _ _ _=>trivial;have lt:=s.lt;have k1:mK (λ_ _=>True) 3 10 vJ:=(by
   unfold vJ
   repeat' (first|exact FI|apply FJ hP|exact FK|exact FL|exact FN|exact FO|exact FP|apply zR|apply FQ|apply FR)
   all_goals decide)
 have k2:mK (λ_ _=>True) 3 6 vK:=(by
   unfold vK
   repeat' (first|exact FI|apply FJ hP|exact FK|exact FL|exact FN|exact FO|exact FP|apply zR|apply FQ|apply FR)
   all_goals decide)
 have k3:mK (λ_ _=>True) 3 8 vL:=(by
   unfold vL
   repeat' (first|exact FI|apply FJ hP|exact FK|exact FL|exact FN|exact FO|exact FP|apply zR|apply FQ|apply FR)
   all_goals decide)
 obtain⟨i1,H1,e1,m1,f1,l1⟩:=FZ (ρ:=[some (.ref st),none]) (H:=H) k1 z4d (by decide);obtain⟨j2,H2,e2,m2',f2,l2⟩:=FZ (ρ:=[some (.ref st),some (.ref i1)]) (H:=H1) k2 z4e (by decide);obtain⟨H3,e3,m3,f3⟩:=O2 (m1.fr0 f2) m2' (by decide);obtain⟨j4,H4,e4,m4,f4,l4⟩:=FZ (ρ:=[some (.ref st),some (.ref H2.length)]) (H:=H3) k3 z4f (by decide);obtain⟨H5,e5,m5,f5⟩:=O2 (m3.fr0 f4) m4 (by decide);have g:Fr [] H H5:=(((f1.trans f2 (by simp)).trans f3 (by simp)).trans f4 (by simp)).trans f5 (by simp);obtain⟨r,H6,r0,r1,t6,f6,s6⟩:=jR 24 (s.fr g (by simp));have hle:H.length<=H4.length:=((f1.trans (f2.trans (f3.trans f4 (by simp)) (by simp)) (by simp)):Fr [] H H4).le;obtain⟨ds,e7,l7,t7,b7⟩:=m5.fr f6 s6 (by omega);obtain⟨j,rfl⟩:∃j:Nat,r=j:=⟨r.toNat,by omega⟩
 have hj:j<ds.length:=by omega
 have e8:=ixL e7 hj;refine⟨ds[j],H6, ?_,t7 _ (cm hj),b7 _ (cm hj),s6,(g.mono (T:=[st]) (by simp)).trans f6 (by simp)⟩;show bK (jE [some (.ref st),none] H)=_;have w1:aJ (aQ vJ) (aE 1) [some (.ref st),none] H=.nx [some (.ref st),some (.ref i1)] H1:=by unfold aJ;rw[e1];rfl
 have w2:aJ (L2.Mr.m2 bJ (aA 1) (aQ vK)) (aE 1) [some (.ref st),some (.ref i1)] H1=.nx [some (.ref st),some (.ref H2.length)] H3:=by unfold aJ;rw[zS rfl e2 e3];rfl
 have w3:aJ (L2.Mr.m2 bJ (aA 1) (aQ vL)) (aE 1) [some (.ref st),some (.ref H2.length)] H3=.nx [some (.ref st),some (.ref H4.length)] H5:=by unfold aJ;rw[zS rfl e4 e5];rfl
 rw[z3g,bE w1,bE w2,bE w3];simp[aO,L2.Mr.m2,aA,aF,aB,mC,aC,t6,e8,bK]
end L2.Mr.K05
namespace L2.Mr.Sam
open L2.Mr.Gen
open L2.Mr.Com
section
variable{H:Hs}
theorem O3 {n:Nat}{x:Int}:F_qq (n+1) [.int x,.int x] H=.ok (.bl true) H:=by simp[F_qq,iQ,aY,bW,aH,bS,bO,m1,aV,aA,fY,oS,fF,cA,aO,eK,m2,bT,bZ,bC,bD,kD,bK]
theorem z4g {k:Nat}{b:Bool}:F_qq (k+1) [.bl b,.bl b] H=.ok (.bl true) H:=by simp[F_qq,iQ,aY,bW,aH,bS,bO,m1,aV,aA,fY,oS,fF,cA,aO,eK,m2,bT,bZ,bC,bD,kD,bK]
abbrev O4 (n:Nat):M Bh :=bM (aR qG (aB (aA 0) (aB (aA 1) aC))) [none,none] (cH 2 (aX (aE 0) (aX (aE 1) cJ))) cT (bA (aF (F_qq n) (aB (aA 0) (aB (aA 1) aC))))
theorem O5 {n:Nat}{d e:Dv}{src:Src}(zs:List (Dv×Dv)) (hi:aR qG (aB (aA 0) (aB (aA 1) aC)) [some d,some e] H=.ok src H) (hn:src.n=zs.length) (hf:src.fin H=true) (hg:∀k (hk:k<zs.length),src.get k H=some (.tup [zs[k].1,zs[k].2]))
  (hl:zs.length<=900000) (h:∀z∈zs,F_qq n [z.1,z.2] H=.ok (.bl true) H):mL iL (O4 n) [some d,some e] H=.ok (.bl true) H:=by
 have hc:O4 n [some d,some e] H=.ok (zs.filterMap λx=>some (.bl ((λ_=>true) x))) H:=gX zs (λx=>some (.bl ((λ_=>true) x))) (λρ=>∃a b,ρ=[a,b]) hi hn ⟨_,_,rfl⟩ hf (λk hk ρ ⟨a,b,e⟩=>by subst e;refine⟨.tup [zs[k].1,zs[k].2],[some zs[k].1,some zs[k].2],hg k hk,rfl,⟨_,_,rfl⟩,rfl, ?_⟩;have:=h zs[k] (cm hk);simp[aF,aB,aA,aC,this]) (by omega);have hz:=qI hc;have ht:zs.all (λ_=>true)=true:=by simp
 rw[ht]at hz;exact hz
theorem z4h {n:Nat}{xs:Bh}(hl:xs.length<=900000) (h:∀x∈xs,F_qq n [x,x] H=.ok (.bl true) H):F_qq (n+1) [.tup xs,.tup xs] H=.ok (.bl true) H:=by
 have hz:=O5 (H:=H) (n:=n) (d:=.tup xs) (e:=.tup xs) (src:=lL xs xs) (xs.map λx=>(x,x)) rfl (by simp[lL,cV]) rfl (λk hk=>by
  have Dp:k<xs.length:=by simpa using hk
  simp[lL,cV,Dp]) (by simpa using hl) (λz hz=>by
  obtain⟨x,hx,rfl⟩:=cp.mp hz;exact h x hx)
 have e1:aV oS (.tup xs) H=.ok (.bl true) H:=rfl;have e2:aV eY (.tup xs) H=.ok (.bl true) H:=rfl;have e3:aV nF (.tup xs) H=.ok (.bl false) H:=rfl;have e4:f1 bX [.tup xs] H=.ok (.int xs.length) H:=rfl;have n1:cD (.bl true) (.bl true) H=.ok (.bl false) H:=rfl;have n2:cD (.bl false) (.bl false) H=.ok (.bl false) H:=rfl;have n3:∀i:Int,cD (.int i) (.int i) H=.ok (.bl false) H:=λi=>by simp[cD,bZ,bC,bD]
 simp[F_qq,iQ,aY,bW,aH,bS,bO,m1,aA,e1,e2,e3,fF,dU,mB,m2,n1,n2,dF,cA,aF,aB,aC,e4,n3,aO,hz,bK]
theorem z4i {n i j:Nat}{xs ys:Bh}(gi:getL H i=some xs) (gj:getL H j=some ys) (hy:ys.length=xs.length) (hl:xs.length<=900000) (h:∀z∈xs.zip ys,F_qq n [z.1,z.2] H=.ok (.bl true) H):F_qq (n+1) [.ref i,.ref j] H=.ok (.bl true) H:=by
 have hb:qG [.ref i,.ref j] H=.ok (qF i j xs.length ys.length) H:=by simp[qG,gi,gj]
 have hza:lW i j xs.length ys.length H=some (xs.zip ys):=by simp[lW,gi,gj]
 have hz:=O5 (H:=H) (n:=n) (d:=.ref i) (e:=.ref j) (src:=qF i j xs.length ys.length) (xs.zip ys) (by simp[aR,aB,aA,aC,hb]) (by simp[qF,hy]) (by simp[qF,hza]) (λk hk=>by simp only[qF,hza,ba hk,Option.map_some]) (by simp[hy];omega) h;have e1:aV oS (.ref j) H=.ok (.bl true) H:=by simp[aV,fY,gj,oS]
 have e2:aV eY (.ref i) H=.ok (.bl false) H:=by simp[aV,fY,gi,eY]
 have Fc:aV eY (.ref j) H=.ok (.bl false) H:=by simp[aV,fY,gj,eY]
 have e3:aV nF (.ref i) H=.ok (.bl true) H:=by simp[aV,fY,gi,nF]
 have e3':aV nF (.ref j) H=.ok (.bl true) H:=by simp[aV,fY,gj,nF]
 have e4:f1 bX [.ref i] H=.ok (.int xs.length) H:=by simp[f1,bX,eQ,gH,eW,gi]
 have e4':f1 bX [.ref j] H=.ok (.int xs.length) H:=by simp[f1,bX,eQ,gH,eW,gj,hy]
 have n1:cD (.bl true) (.bl true) H=.ok (.bl false) H:=rfl;have n2:cD (.bl false) (.bl false) H=.ok (.bl false) H:=rfl;have n3:∀i:Int,cD (.int i) (.int i) H=.ok (.bl false) H:=λi=>by simp[cD,bZ,bC,bD]
 simp[F_qq,iQ,aY,bW,aH,bS,bO,m1,aA,e1,e2,Fc,e3,e3',fF,dU,mB,m2,n1,n2,dF,cA,aF,aB,aC,e4,e4',n3,aO,hz,bK]
theorem z4j {n:Nat}{xs:Bd}(hl:xs.length<=900000):F_qq (n+2) [.tup (xs.map Fx),.tup (xs.map Fx)] H=.ok (.bl true) H:=z4h (by simpa using hl) λy hy=>by obtain⟨p,_,rfl⟩:=cp.mp hy;exact O3
theorem O6 {n i j:Nat}{xs:Bh}(gi:getL H i=some xs) (gj:getL H j=some xs) (hl:xs.length<=900000) (h:∀x∈xs,F_qq n [x,x] H=.ok (.bl true) H):F_qq (n+1) [.ref i,.ref j] H=.ok (.bl true) H:=
 z4i gi gj rfl hl λz hz=>by
  have:z.1∈xs/\z.1=z.2:=by obtain⟨k,hk,e⟩:=ju hz;rw[List.getElem_zip]at e;rw[<-e];exact⟨cm _,rfl⟩
  rw[<-this.2];exact h z.1 this.1
end
end L2.Mr.Sam
namespace L2.Mr.K04
open L2.Mr.Gen
open L2.Mr.Com
open L2.Mr.Sam
open L2.Mr.Cod (last_get nW ixL)
open L2.Mr.K05 (ix dM lC sO sN vN Cf Dg lD vP qP)
abbrev aS (r:Bd):Dv:=.tup (r.map Fx)
def ext (n:Nat) (rs:A'):A':=rs.flatMap λr=>(dM n r).map λx=>r++[x]
def gZ (n:Nat):Nat->A'
 |0=>[[]]
 |k+1=>ext n (gZ n k)
def wt (ps:y') (r:Bd):Bd:=(ps.filter λq=>!decide (q.1∈r)).map λq=>q.2
def iF (n:Nat) (ps:y') (r:Bd):Bd:=(bR n).filter λx=>!decide (x∈r)&&!decide (x∈wt ps r)
def mM (n:Nat) (ps:y') (rs:A'):A':=rs.flatMap λr=>(iF n ps r).map λx=>r++[x]
def gA (n:Nat) (ps:y'):Nat->A'
 |0=>[[]]
 |k+1=>mM n ps (gA n ps k)
def iT (ps:y') (r:Bd):Bool:=ps.all λq=>!decide (q.2∈r)||(decide (q.1∈r)&&decide (ix r q.1<ix r q.2))
section
variable{n:Nat}{ps:y'}{r:Bd}
theorem Ds:iT ps r=true↔∀q∈ps,q.2∈r->q.1∈r/\ix r q.1<ix r q.2:=by
 unfold iT;rw[ey];refine forall_congr' λq=>forall_congr' λ_=>?_
 by_cases h:q.2∈r <;> simp[h]
theorem z4k {x:Int}:x∈wt ps r↔∃q∈ps,q.1∉r/\q.2=x:=by simp only[wt,cp,fg,rz,decide_eq_false_iff_not,and_assoc]
theorem O7 (o:By n ps) {x:Int}(hx:x∉r):iT ps (r++[x])=(iT ps r&&!decide (x∈wt ps r)):=by
 rw[cw,cx,Ds,Ds,rz,decide_eq_false_iff_not,z4k];constructor
 ·intro h;refine⟨λq hq h2=>?_, ?_⟩
  ·obtain⟨a,b⟩:=h q hq (fh _ h2);rw[lC h2]at b;have l2:=sN h2
   rcases br.mp a with a|a
   ·rw[lC a]at b;exact⟨a,b⟩
   ·simp only[cg]at a;rw[a,sO hx]at b;omega
  ·rintro ⟨q,hq,h1,h2⟩
   obtain⟨a,_⟩:=h q hq (by rw[h2];simp)
   rcases br.mp a with a|a
   ·exact h1 a
   ·simp only[cg]at a;exact o.irr q hq (a.trans h2.symm)
 ·rintro ⟨h,hw⟩ q hq h2
  rcases br.mp h2 with h2|h2
  ·obtain⟨a,b⟩:=h q hq h2;exact⟨fh _ a,by rw[lC a,lC h2];exact b⟩
  ·simp only[cg]at h2;have a:q.1∈r:=Classical.byContradiction λh1=>hw ⟨q,hq,h1,h2⟩;exact⟨fh _ a,by rw[lC a,h2,sO hx];exact sN a⟩
theorem z4l (o:By n ps):((dM n r).map λx=>r++[x]).filter (iT ps)=if iT ps r then(iF n ps r).map λx=>r++[x]else[]:=by
 rw[List.filter_map];unfold dM iF;rw[List.filter_filter]
 cases c:iT ps r with
 |true=>
  rw[if_pos rfl]
  congr 1
  refine List.filter_congr λx _=>?_
  by_cases hx:x∈r
  ·simp[hx]
  ·simp[hx,O7 o hx,c]
 |false=>
  rw[if_neg (by decide)];have:((bR n).filter λx=>(iT ps∘λx=>r++[x]) x&&!decide (x∈r))=[]:=jc.mpr λx _=>by
   by_cases hx:x∈r
   ·simp[hx]
   ·simp[hx,O7 o hx,c]
  rw[this];rfl
theorem z4m (o:By n ps) (rs:A'):(ext n rs).filter (iT ps)=mM n ps (rs.filter (iT ps)):=by
 induction rs with
 |nil=>rfl
 |cons r rs ih=>
  have h1:ext n (r::rs)=((dM n r).map λx=>r++[x])++ext n rs:=rfl;rw[h1,List.filter_append,ih,z4l o,jh]
  cases iT ps r with
  |true=>rfl
  |false=>rfl
theorem AD (o:By n ps):∀k,gA n ps k=(gZ n k).filter (iT ps)
 |0=>by
  have:iT ps []=true:=Ds.mpr λq _ h=>by simp at h
  simp[gA,gZ,this]
 |k+1=>by show mM n ps (gA n ps k)=(ext n (gZ n k)).filter (iT ps);rw[AD o k,z4m o]
theorem z4n {x:Int}:x∈dM n r↔(0<=x/\x<n)/\x∉r:=by unfold dM;rw[fg,Cf];simp
theorem vS:∀k,∀r∈gZ n k,r.length=k/\r.Nodup/\∀x∈r,0<=x/\x<n
 |0,r,h=>by simp[gZ]at h;subst h;simp
 |k+1,r,h=>by
  simp only[gZ,ext,tq,cp]at h;obtain⟨s,hs,x,hx,rfl⟩:=h;obtain⟨a,b,c⟩:=vS k s hs;rw[z4n]at hx;refine⟨by simp[a], ?_,λy hy=>?_⟩
  ·rw[wq];exact⟨b,by simp,λu hu v hv=>by simp only[cg]at hv;subst hv;intro e;exact hx.2 (e▸hu)⟩
  ·rcases br.mp hy with hy|hy
   ·exact c y hy
   ·simp only[cg]at hy;subst hy;exact hx.1
theorem O8 (hn:n<=6):(dM n r).length<=6:=by have:=jd (λx=>!decide (x∈r)) (bR n);simp[bR]at this;unfold dM;simp[bR];omega
theorem O9 (hn:n<=6) (rs:A'):(ext n rs).length<=rs.length*6:=by
 induction rs with
 |nil=>simp[ext]
 |cons r rs ih=>have h1:ext n (r::rs)=((dM n r).map λx=>r++[x])++ext n rs:=rfl;have:=O8 (n:=n) (r:=r) hn;rw[h1,bx,bg,dg];omega
theorem PB (hn:n<=6):∀k,(gZ n k).length<=6 ^ k
 |0=>by simp[gZ]
 |k+1=>by have h1:=O9 hn (gZ n k);have h2:=PB hn k;show(ext n (gZ n k)).length<=_;rw[Nat.pow_succ];omega
theorem F0 (hn:n<=6) {k:Nat}(hk:k<=n):(gZ n k).length<=46656:=cz (PB hn k) (show 6 ^ k<=6 ^ 6 from Az (by decide) (by omega))
theorem PC (o:By n ps) {k:Nat}(hk:k<=n):(gA n ps k).length<=46656:=by rw[AD o];exact cz (jd _ _) (F0 o.n6 hk)
theorem PD (o:By n ps) {k:Nat}(h:r∈gA n ps k):r.length=k:=by rw[AD o]at h;exact(vS k r (fg.mp h).1).1
def lE (ps:y') (r:Bd):Bool:=decide ((ps.filter λq=>decide (ix r q.1>ix r q.2))=[])
theorem z4o (o:By n ps) (h:r∈gZ n n):lE ps r=iT ps r:=by obtain⟨a,b,c⟩:=vS n r h;have hm:∀x:Int,0<=x->x<n->x∈r:=λx h0 h1=>lD c b a h0 h1;rw[cw,Ds];unfold lE;rw[decide_eq_true_eq,jc];refine forall_congr' λq=>forall_congr' λhq=>?_;have rg:=o.rng q hq;have m1:=hm q.1 rg.1 rg.2.1;have m2:=hm q.2 rg.2.2.1 rg.2.2.2;have ne:ix r q.1≠ix r q.2:=λe=>o.irr q hq (vN m1 m2 e);simp only[m1,m2,true_and,forall_const,decide_eq_true_eq];omega
theorem z4p (o:By n ps):(gZ n n).filter (lE ps)=gA n ps n:=by rw[AD o];exact List.filter_congr λr hr=>z4o o hr
end
abbrev AE:M Bh :=bM (bF dY (aA 3)) [none,none,some 1] (cH 2 (aX (aE 0) (aX (aE 1) cJ))) (mB (m2 (dW true) (aA 0) (aA 2))) (bA (aA 1))
abbrev F1:M Bh :=bM (aR cN (aB (aA 2) aC)) [none,some 1,some 4] (aE 0) (jH (mB (m2 (dW true) (aA 0) (aA 1))) (mB (m2 (dW true) (aA 0) (aA 2)))) (bA (aA 0))
theorem z4q:ED=aH (aJ (aA 0) (cH 2 (aX (aE 2) (aX (aE 3) cJ)))) (aH (aJ (bH AE) (aE 4)) (aO (bH F1))):=rfl
section
variable{n st:Nat}{ps:y'}{H:Hs}{ρ:Ev}{r:Bd}
theorem z4r (o:By n ps) {x0 x2 x4:Bi}:AE [x0,some (aS r),x2,some (.tup (ps.map aK)),x4] H=.ok ((wt ps r).map Fx) H:=by
 have w:AE [x0,some (aS r),x2,some (.tup (ps.map aK)),x4] H=.ok (ps.filterMap λq=>if !decide (q.1∈r)then some ((λq:Int×Int=>Fx q.2) q)else none) H:=
  gX ps _ (λρ=>∃a b,ρ=[a,b,some (aS r)]) (src:=cV (ps.map aK)) rfl (by simp[cV]) ⟨_,_,rfl⟩ rfl (λk hk ρ ⟨a,b,e⟩=>by
   subst e;refine⟨aK ps[k],[some (.int ps[k].1),some (.int ps[k].2),some (aS r)],by simp[cV,hk],rfl,⟨_,_,rfl⟩, ?_⟩;have t2:dW true (.int ps[k].1) (aS r) H=.ok (.bl (!decide (ps[k].1∈r))) H:=uG true H ps[k].1 r;generalize aS r=ys at t2 ⊢
   cases c2:!decide (ps[k].1∈r)with
   |true=>rw[c2]at t2;simp[mB,m2,aA,t2,dF]
   |false=>rw[c2]at t2;simp[mB,m2,aA,t2,dF]) (by have:=o.len;omega)
 have:=w.trans (congrArg (λl=>Gp l _) (qO _ _ _));unfold wt;rw[kh];exact this
theorem z4s (hn:n<=6) {x0 x3:Bi}{i:Nat}{ws:Bd}(g:getL H i=some (ws.map Fx)):F1 [x0,some (aS r),some (.int n),x3,some (.ref i)] H=.ok (((bR n).filter λx=>!decide (x∈r)&&!decide (x∈ws)).map Fx) H:=by
 have w:F1 [x0,some (aS r),some (.int n),x3,some (.ref i)] H=.ok ((bR n).filterMap λx=>if(!decide (x∈r)&&!decide (x∈ws))then some (Fx x)else none) H:=
  gX (bR n) _ (λρ=>∃a,ρ=[a,some (aS r),some (.ref i)]) (src:=cS 0 n) (sM (m:=aA 2) rfl (by omega) (by omega)) (by simp[cS,bR]) ⟨_,rfl⟩ rfl (λk hk ρ ⟨a,e1⟩=>by
   subst e1;have gk:(bR n)[k]=(k:Int):=by simp[bR]
   refine⟨.int (0+k),[some (.int (0+k)),some (aS r),some (.ref i)],rfl,rfl,⟨_,rfl⟩, ?_⟩;have h00:(0+(k:Int))=(k:Int):=by omega
   rw[gk,h00];have t1:dW true (.int k) (aS r) H=.ok (.bl (!decide ((k:Int)∈r))) H:=uG true H (k:Int) r;have t2:dW true (.int k) (.ref i) H=.ok (.bl (!decide ((k:Int)∈ws))) H:=z3k true (k:Int) g;generalize aS r=ys at t1 ⊢
   cases c1:!decide ((k:Int)∈r)with
   |false=>rw[c1]at t1;simp[jH,mB,m2,aA,t1,dF]
   |true=>
    rw[c1]at t1
    cases c2:!decide ((k:Int)∈ws)with
    |true=>rw[c2]at t2;simp[jH,mB,m2,aA,t1,t2,dF]
    |false=>rw[c2]at t2;simp[jH,mB,m2,aA,t1,t2,dF]) (by simp[bR];omega)
 exact w.trans (congrArg (λl=>Gp l _) (qO _ _ _))
theorem F2 {C:M Bh }{xs:Bh}{H1:Hs}(e:C ρ H=.ok xs H1):bH C ρ H=.ok (.ref H1.length) (H1++[.lst xs]):=by unfold bH;rw[e];rfl
theorem PF {C:M Bh }{xs:Bh}{H1:Hs}(e:C ρ H=.ok xs H1):bK (aO (bH C) ρ H)=.ok (.ref H1.length) (H1++[.lst xs]):=by unfold aO;rw[F2 e];rfl
theorem z4t (o:By n ps):∃i H',F_q0 [aM n ps,aS r] H=.ok (.ref i) H'/\getL H' i=some ((iF n ps r).map Fx)/\Fr [] H H':=by
 have e1:=z4r (H:=H) (r:=r) (x0:=some (aM n ps)) (x2:=some (.int n)) (x4:=none) o;obtain⟨H1,hH1⟩:∃H1,H1=H++[Fy ((wt ps r).map Fx)]:=⟨_,rfl⟩
 have g1:getL H1 H.length=some ((wt ps r).map Fx):=by rw[hH1];exact last_get
 have f1:Fr [] H H1:=by rw[hH1];exact Fz
 have e2:=z4s (n:=n) (r:=r) (x0:=some (aM n ps)) (x3:=some (.tup (ps.map aK))) o.n6 g1;rw[show((bR n).filter λx=>!decide (x∈r)&&!decide (x∈wt ps r))=iF n ps r from rfl]at e2;refine⟨H1.length,H1++[Fy ((iF n ps r).map Fx)], ?_,last_get,f1.trans (T:=[]) Fz (by simp)⟩;have w1:aJ (aA 0) (cH 2 (aX (aE 2) (aX (aE 3) cJ))) [some (aM n ps),some (aS r),none,none,none] H=.nx [some (aM n ps),some (aS r),some (.int n),some (.tup (ps.map aK)),none] H:=rfl;have w2:aJ (bH AE) (aE 4) [some (aM n ps),some (aS r),some (.int n),some (.tup (ps.map aK)),none] H=.nx [some (aM n ps),some (aS r),some (.int n),some (.tup (ps.map aK)),some (.ref H.length)] H1:=by rw[hH1];exact zU e1 rfl
 show bK (ED [some (aM n ps),some (aS r),none,none,none] H)=_;rw[z4q,bE w1,bE w2];exact PF e2
abbrev AF:MC:=jK (bF cG (aF F_q0 (aB (aA 2) (aB (aA 0) aC)))) (aE 1) cT (bA (m2 bJ (aA 0) (aL (aB (aA 1) aC))))
abbrev F3:M Bh :=bM (bF cG (aA 1)) [none,none,some 0] (aE 0) cT AF
theorem z4u:yT=aH (dG (aF F_qo (aB (aA 0) aC))) (aH (aJ (aQ (aB (aL aC) aC)) (aE 1)) (aH (eC (aR cN (aB (m2 aU (aA 0) (mC (.int 0))) aC)) (aE 2) (aJ (bH F3) (aE 1))) (aO (aA 1)))):=rfl
theorem PH {i j:Nat}{x:Int}(hr:r.length<=100) (h0:aA i ρ=λH=>.ok (aS r) H) (h1:aA j ρ=λH=>.ok (.int x) H):m2 bJ (aA i) (aL (aB (aA j) aC)) ρ H=.ok (aS (r++[x])) H:=by
 have e2:aL (aB (aA j) aC) ρ H=.ok (.tup [.int x]) H:=by simp[aL,aB,h1,aC,lim]
 have a:=qN (r.map Fx) [.int x] (by simp;omega) (H:=H);have e3:=lB (ma:=aA i) (H1:=H) (x:=aS r) (by rw[h0]) e2 a;have hc:r.map Fx++[.int x]=(r++[x]).map Fx:=by simp
 rw[hc]at e3;exact e3
theorem z4v {F:Bg}{a b:Dv}{x y i:Nat}{H1:Hs}{xs:Bh}(ha:aA x ρ=λH=>.ok a H) (hb:aA y ρ=λH=>.ok b H) (e:F [a,b] H=.ok (.ref i) H1) (g:getL H1 i=some xs):bF cG (aF F (aB (aA x) (aB (aA y) aC))) ρ H=.ok (cP i xs.length) H1:=by simp[bF,aF,aB,ha,hb,aC,e,cG,g]
theorem z4w (o:By n ps) (hr:r.length<=100) {b:Bi}{acc:Bh}(hl:acc.length+((iF n ps r).map λx=>aS (r++[x])).length<=900000):∃b' H',AF [some (aS r),b,some (aM n ps)] H acc=.ok ([some (aS r),b',some (aM n ps)],acc++(iF n ps r).map λx=>aS (r++[x])) H'/\Fr [] H H':=by
 obtain⟨i,H1,e1,g1,f1⟩:=z4t (H:=H) (r:=r) o;have fm:∀l:Bd,(l.flatMap λx=>[aS (r++[x])])=l.map λx=>aS (r++[x]):=λl=>by
  induction l with
  |nil=>rfl
  |cons x l ih=>rw[ij,ih];rfl
 have es:=z4v (F:=F_q0) (ρ:=[some (aS r),b,some (aM n ps)]) (x:=2) (y:=0) rfl rfl e1 g1;obtain⟨ρ',H',e,⟨b',eb⟩,eh⟩:=vA (src:=cP i ((iF n ps r).map Fx).length) (sg:=aE 1) (t:=cT) (m:=bA (m2 bJ (aA 0) (aL (aB (aA 1) aC)))) (iF n ps r) (λx=>[aS (r++[x])]) (λρ h=>(∃b,ρ=[some (aS r),b,some (aM n ps)])/\h=H1)
  (λρ h s=>by rw[s.2];simp[cP,g1])
  (λk hk ρ h ⟨⟨b,e⟩,eh⟩=>by subst e;subst eh;refine⟨.int (iF n ps r)[k],[some (aS r),some (.int (iF n ps r)[k]),some (aM n ps)],by simp[cP,g1,hk],rfl,.inr ⟨_,rfl,λacc hl=>⟨_,_,vC (PH (i:=0) (j:=1) hr rfl rfl) hl,⟨_,rfl⟩,rfl⟩⟩⟩)
  (iF n ps r).length 0 [some (aS r),b,some (aM n ps)] H1 acc (by omega) ⟨⟨_,rfl⟩,rfl⟩ (by rw[uy,fm];exact hl)
 subst eb;subst eh;rw[uy,fm]at e;refine⟨b',H', ?_,f1⟩;unfold AF jK;rw[es];dsimp only;rw[bg]at e ⊢;exact e
theorem PJ (rs:A'):(rs.flatMap λr=>(iF n ps r).map λx=>aS (r++[x]))=(mM n ps rs).map aS:=by
 induction rs with
 |nil=>rfl
 |cons r rs ih=>have h1:mM n ps (r::rs)=((iF n ps r).map λx=>r++[x])++mM n ps rs:=rfl;rw[ij,ih,h1,iu,kh];rfl
theorem z4x (o:By n ps) {x2:Bi}{i:Nat}{rs:A'}(g:getL H i=some (rs.map aS)) (hr:∀r∈rs,r.length<=100) (hl:(mM n ps rs).length<=900000):∃H',F3 [some (aM n ps),some (.ref i),x2] H=.ok ((mM n ps rs).map aS) H'/\Fr [] H H':=by
 obtain⟨ρ',H',h,_,f⟩:=vB (mi:=bF cG (aA 1)) (cap:=[none,none,some 0]) (src:=cP i (rs.map aS).length) (sg:=aE 0) (t:=cT) (m:=AF) (ρ:=[some (aM n ps),some (.ref i),x2]) (H:=H) (H1:=H) rs (λr=>(iF n ps r).map λx=>aS (r++[x])) (λρ Hx=>(∃a b,ρ=[a,b,some (aM n ps)])/\Fr [] H Hx) (by simp[bF,aA,cG,g]) (by simp[cP]) ⟨⟨_,_,rfl⟩,Gm⟩ (λρ Hx s=>by have gx:=s.2.getL g (by simp);simp[cP,gx])
  (λk hk ρ Hx ⟨⟨a,b,e⟩,f⟩=>by subst e;have gx:=f.getL g (by simp);refine⟨aS rs[k],[some (aS rs[k]),b,some (aM n ps)],by simp[cP,gx,hk],rfl,.inr ⟨Hx,rfl,λacc hl=>?_⟩⟩;obtain⟨b',Hy,ea,fa⟩:=z4w (H:=Hx) (b:=b) o (hr _ (cm hk)) hl;exact⟨_,Hy,ea,⟨_,_,rfl⟩,f.trans fa (by simp)⟩) (by rw[PJ,bg];exact hl)
 exact⟨H',by rw[<-PJ];exact h,f⟩
theorem F5 (o:By n ps):∃i H',F_qw [aM n ps] H=.ok (.ref i) H'/\getL H' i=some ((gA n ps n).map aS)/\Fr [] H H'/\H.length<=i:=by
 have n6:=o.n6;have w0:dG (aF F_qo (aB (aA 0) aC)) [some (aM n ps),none,none] H=.nx [some (aM n ps),none,none] H:=by have e:F_qo [aM n ps] H=.ok .non H:=Cod.need_ok o;generalize F_qo=F at e;generalize aM n ps=z at e;simp[dG,aF,aB,aA,aC,e]
 have w1:aJ (aQ (aB (aL aC) aC)) (aE 1) [some (aM n ps),none,none] H=.nx [some (aM n ps),some (.ref H.length),none] (H++[.lst [aS []]]):=rfl;have hi:aR cN (aB (m2 aU (aA 0) (mC (.int 0))) aC) [some (aM n ps),some (.ref H.length),none] (H++[.lst [aS []]])=.ok (cS 0 n) (H++[.lst [aS []]]):=sM (L:=n) rfl (by omega) (by omega);have hN:(cS 0 (n:Int)).n=n:=by simp[cS]
 obtain⟨ρ',H',h1,i,y2,h2,h3,h4,h5⟩:=nI (b:=aJ (bH F3) (aE 1)) (sg:=aE 2) hi
  (λk ρ H'=>∃(i:Nat) (y2:Bi),ρ=[some (aM n ps),some (.ref i),y2]/\getL H' i=some ((gA n ps k).map aS)/\Fr [] H H'/\H.length<=i)
  (λk ρ H' hk ⟨i,y2,e1,e2,e3,e4⟩=>by subst e1;rw[hN]at hk;have hl:(gA n ps (k+1)).length<=46656:=PC o (by omega);obtain⟨H2,b1,b2⟩:=z4x (H:=H') (x2:=some (.int (0+(k:Int)))) o e2 (λr hr=>by rw[PD o hr];omega) (show(gA n ps (k+1)).length<=900000 by omega);have f:=e3.trans b2 (T:=[]) (by simp);exact⟨.int (0+(k:Int)),[some (aM n ps),some (.ref i),some (.int (0+(k:Int)))],_,_,rfl,rfl,zU b1 rfl,H2.length,_,rfl,last_get,f.trans (T:=[]) Fz (by simp),f.le⟩) (λ_ _ _=>rfl) ⟨H.length,none,rfl,last_get,Fz,ak _⟩
 rw[hN]at h3;refine⟨i,H', ?_,h3,h4,h5⟩;show bK (yT [some (aM n ps),none,none] H)=_;rw[z4u,bE w0,bE w1,bE h1,h2];rfl
theorem z4y (o:By n ps):∃H',F_qv [aM n ps] H=.ok (.int (gA n ps n).length) H'/\Fr [] H H':=by obtain⟨i,H1,e,g,f,_⟩:=F5 (H:=H) o;refine⟨H1, ?_,f⟩;have hm:F_qv [aM n ps] H=bK (aO (aF (f1 bX) (aB (aF F_qw (aB (aA 0) aC)) aC)) [some (aM n ps)] H):=rfl;rw[hm];generalize F_qw=F at e ⊢;generalize aM n ps=z at e ⊢;simp[aO,aF,aB,aA,aC,e,f1,bX,eQ,gH,eW,g,bK]
end
open L2.Mr.Cod (last_get ixL)
abbrev F6:M Bh :=bM (aR cN (aB (m2 aU (aA 0) (mC (.int 0))) aC)) [none,some 4] (aE 0) (mB (m2 (dW true) (aA 0) (aA 1))) (bA (m2 bJ (aA 1) (aL (aB (aA 0) aC))))
abbrev F7:MS:=aJ (m2 bJ (aA 3) (bH F6)) (aE 3)
abbrev F8:MS:=aH (aJ (aQ aC) (aE 3)) (aH (eC (bF cG (aA 1)) (aE 4) F7) (aJ (aA 3) (aE 1)))
abbrev F9:M Bh :=bM (bF dY (m2 aU (aA 1) (mC (.int 1)))) [none,none,some 0] (cH 2 (aX (aE 0) (aX (aE 1) cJ))) (mB (m2 jN (fZ (aA 2) (aA 0)) (fZ (aA 2) (aA 1)))) (bA (mC (.int 1)))
abbrev PK:M Bh :=bM (bF cG (aA 1)) [none,some 0] (aE 0) (mB (m2 bT (bH F9) (aQ aC))) (bA (aA 0))
theorem z4z:EE=aH (aJ (aQ (aB (aL aC) aC)) (aE 1)) (aH (eC (aR cN (aB (m2 aU (aA 0) (mC (.int 0))) aC)) (aE 2) F8) (aO (bH PK))):=rfl
section
variable{n st:Nat}{ps:y'}{H:Hs}{ρ:Ev}{r:Bd}
theorem z50 (hn:n<=6) (hr:r.length<=100) {x1 x2 x3:Bi}:F6 [some (aM n ps),x1,x2,x3,some (aS r)] H=.ok (((dM n r).map λx=>r++[x]).map aS) H:=by
 have w:F6 [some (aM n ps),x1,x2,x3,some (aS r)] H=.ok ((bR n).filterMap λx=>if !decide (x∈r)then some ((λx=>aS (r++[x])) x)else none) H:=
  gX (bR n) _ (λρ=>∃a,ρ=[a,some (aS r)]) (src:=cS 0 n) (sM (L:=n) rfl (by omega) (by omega)) (by simp[cS,bR]) ⟨_,rfl⟩ rfl (λk hk ρ ⟨a,e1⟩=>by
   subst e1;have gk:(bR n)[k]=(k:Int):=by simp[bR]
   refine⟨.int (0+k),[some (.int (0+k)),some (aS r)],rfl,rfl,⟨_,rfl⟩, ?_⟩;have h00:(0+(k:Int))=(k:Int):=by omega
   rw[gk,h00];have t1:dW true (.int k) (aS r) H=.ok (.bl (!decide ((k:Int)∈r))) H:=uG true H (k:Int) r;have a1:=PH (i:=1) (j:=0) (H:=H) (ρ:=[some (.int k),some (aS r)]) (x:=(k:Int)) hr rfl rfl;have tt:mB (m2 (dW true) (aA 0) (aA 1)) [some (.int k),some (aS r)] H=.ok (!decide ((k:Int)∈r)) H:=by unfold mB;rw[lB (ma:=aA 0) (mb:=aA 1) rfl rfl t1];rfl
   cases c1:!decide ((k:Int)∈r)with
   |false=>rw[c1]at tt;exact tt
   |true=>rw[c1]at tt;exact⟨tt,a1⟩) (by simp[bR];omega)
 have:=w.trans (congrArg (λl=>Gp l _) (qO _ _ _));rw[kh];exact this
theorem z51 {i j:Nat}{xs ys:Bh}(e1:getL H i=some xs) (e2:getL H j=some ys) (hl:xs.length+ys.length<=900000):bJ (.ref i) (.ref j) H=.ok (.ref H.length) (H++[.lst (xs++ys)]):=by simp[bJ,kQ,e1,e2,lim];omega
theorem z52 (rs:A'):ext n (rs++[r])=ext n rs++(dM n r).map λx=>r++[x]:=by simp[ext]
theorem z53 (hn:n<=6) {i j:Nat}{rs:A'}{x2 x4:Bi}(g:getL H i=some (rs.map aS)) (gj:getL H j=some []) (hr:∀r∈rs,r.length<=100) (hl:rs.length<=46656):
  ∃j' y4 H',eC (bF cG (aA 1)) (aE 4) F7 [some (aM n ps),some (.ref i),x2,some (.ref j),x4] H=.nx [some (aM n ps),some (.ref i),x2,some (.ref j'),y4] H'/\getL H' j'=some ((ext n rs).map aS)/\Fr [] H H':=by
 have hi:bF cG (aA 1) [some (aM n ps),some (.ref i),x2,some (.ref j),x4] H=.ok (cP i rs.length) H:=by simp[bF,aA,cG,g]
 obtain⟨ρ',H',h1,j',y4,h2,h3,h4⟩:=nI (b:=F7) (sg:=aE 4) hi (λk ρ H'=>∃(j':Nat) (y4:Bi),ρ=[some (aM n ps),some (.ref i),x2,some (.ref j'),y4]/\getL H' j'=some ((ext n (rs.take k)).map aS)/\Fr [] H H')
  (λk ρ H' hk ⟨j',y4,e1,e2,e3⟩=>by
   subst e1;have Dp:k<rs.length:=hk;refine⟨aS rs[k],[some (aM n ps),some (.ref i),x2,some (.ref j'),some (aS rs[k])],[some (aM n ps),some (.ref i),x2,some (.ref (H'.length+1)),some (aS rs[k])],(H'++[Fy (((dM n rs[k]).map λx=>rs[k]++[x]).map aS)])++[Fy ((ext n (rs.take k)).map aS++((dM n rs[k]).map λx=>rs[k]++[x]).map aS)],zM (e3.getL g (by simp)) Dp,rfl, ?_,H'.length+1,_,rfl, ?_,e3.trans (T:=[]) (Gu (T:=[]) Fz Fz (by simp)) (by simp)⟩
   ·have ea:=F2 (z50 (ps:=ps) (H:=H') (r:=rs[k]) (x1:=some (.ref i)) (x2:=x2) (x3:=some (.ref j')) hn (hr _ (cm Dp)));have l1:=O9 hn (rs.take k);have l2:(rs.take k).length<=46656:=by rw[jf];omega
    have l3:=O8 (n:=n) (r:=rs[k]) hn;have ed:=z51 (gQ (l:=[Fy (((dM n rs[k]).map λx=>rs[k]++[x]).map aS)]) e2) last_get (by simp only[bg];omega);have em:=lB (ma:=aA 3) (H1:=H') (x:=.ref j') rfl ea ed;rw[bx,uv]at em;exact oZ em rfl
   ·have:H'.length+1=(H'++[Fy (((dM n rs[k]).map λx=>rs[k]++[x]).map aS)]).length:=by simp
    rw[this,last_get,jb Dp,z52,iu])
  (λρ H' ⟨_,_,_,_,e3⟩=>zN (e3.getL g (by simp))) ⟨j,x4,rfl,by simpa[ext]using gj,Gm⟩
 rw[show(cP i rs.length).n=rs.length from rfl,List.take_length]at h3;exact⟨j',y4,H',by rw[h1,h2],h3,h4⟩
theorem z54 (o:By n ps) (hm:∀x:Int,0<=x->x<n->x∈r):F9 [some (aS r),some (aM n ps)] H=.ok ((((ps.filter λq=>decide (ix r q.1>ix r q.2)).map λ_=>(1:Int))).map Fx) H:=by rw[kh];exact K05.gtC_ok o hm rfl rfl
theorem z55 (o:By n ps) {i:Nat}{x2 x3 x4:Bi}(g:getL H i=some ((gZ n n).map aS)):∃H',PK [some (aM n ps),some (.ref i),x2,x3,x4] H=.ok ((gA n ps n).map aS) H'/\Fr [] H H':=by
 have fl:∀l:A',(l.flatMap λy=>if lE ps y then[aS y]else[])=(l.filter (lE ps)).map aS:=λl=>by
  induction l with
  |nil=>rfl
  |cons y l ih=>
   rw[ij,jh,ih]
   cases c:lE ps y <;> simp
 have pm:=vS (n:=n) n;have pl:=F0 o.n6 (ak n);rw[<-z4p o];generalize gZ n n=ys at g pm pl ⊢;obtain⟨ρ',H',h,_,f⟩:=vB (mi:=bF cG (aA 1)) (cap:=[none,some 0]) (src:=cP i (ys.map aS).length) (sg:=aE 0) (t:=mB (m2 bT (bH F9) (aQ aC))) (m:=bA (aA 0)) (ρ:=[some (aM n ps),some (.ref i),x2,x3,x4]) (H:=H) (H1:=H) ys (λy=>if lE ps y then[aS y]else[]) (λρ Hx=>(∃a,ρ=[a,some (aM n ps)])/\Fr [] H Hx) (by simp[bF,aA,cG,g]) (by simp[cP]) ⟨⟨_,rfl⟩,Gm⟩ (λρ Hx s=>by have gx:=s.2.getL g (by simp);simp[cP,gx])
  (λk hk ρ Hx ⟨⟨a,e⟩,f⟩=>by
   subst e;have gx:=f.getL g (by simp);refine⟨aS ys[k],[some (aS ys[k]),some (aM n ps)],by simp[cP,gx,hk],rfl, ?_⟩;obtain⟨p1,p2,p3⟩:=pm ys[k] (cm hk);obtain⟨Hy,t,fy⟩:=vP (z54 (H:=Hx) (r:=ys[k]) o λx h0 h1=>lD p3 p2 p1 h0 h1);have hd:decide (((ps.filter λq=>decide (ix ys[k] q.1>ix ys[k] q.2)).map λ_=>(1:Int))=[])=lE ps ys[k]:=by unfold lE;rw[cw];simp
   rw[hd]at t
   cases c:lE ps ys[k]with
   |false=>rw[c]at t;exact .inl ⟨Hy,t,by simp,⟨_,rfl⟩,f.trans fy (by simp)⟩
   |true=>rw[c]at t;refine .inr ⟨Hy,t,λacc hl=>⟨[some (aS ys[k]),some (aM n ps)],Hy, ?_,⟨_,rfl⟩,f.trans fy (by simp)⟩⟩;simp only[if_true]at hl ⊢;exact vC rfl hl) (by
   rw[fl,bg];have:=jd (lE ps) ys;omega)
 refine⟨H', ?_,f⟩;rw[<-fl];exact h
theorem z56 (o:By n ps):∃i H',F_qp [aM n ps] H=.ok (.ref i) H'/\getL H' i=some ((gA n ps n).map aS)/\Fr [] H H':=by
 have n6:=o.n6;obtain⟨H1,hH1⟩:∃H1,H1=H++[Fy [aS []]]:=⟨_,rfl⟩
 have f1:Fr [] H H1:=by rw[hH1];exact Fz
 have w1:aJ (aQ (aB (aL aC) aC)) (aE 1) [some (aM n ps),none,none,none,none] H=.nx [some (aM n ps),some (.ref H.length),none,none,none] H1:=by rw[hH1];rfl
 have hi:aR cN (aB (m2 aU (aA 0) (mC (.int 0))) aC) [some (aM n ps),some (.ref H.length),none,none,none] H1=.ok (cS 0 n) H1:=sM (L:=n) rfl (by omega) (by omega);have hN:(cS 0 (n:Int)).n=n:=by simp[cS]
 have g1:getL H1 H.length=some ((gZ n 0).map aS):=by rw[hH1];exact last_get
 obtain⟨ρ',H',h1,i,y2,y3,y4,h2,h3,h4⟩:=nI (b:=F8) (sg:=aE 2) hi
  (λk ρ H'=>∃(i:Nat) (y2 y3 y4:Bi),ρ=[some (aM n ps),some (.ref i),y2,y3,y4]/\getL H' i=some ((gZ n k).map aS)/\Fr [] H1 H')
  (λk ρ H' hk ⟨i,y2,y3,y4,e1,e2,e3⟩=>by subst e1;rw[hN]at hk;obtain⟨j',z4,H2,b1,b2,b3⟩:=z53 (ps:=ps) (x2:=some (.int (0+(k:Int)))) (x4:=y4) n6 (gQ (l:=[Fy []]) e2) (last_get (H:=H')) (λr hr=>by rw[(vS k r hr).1];omega) (F0 n6 (by omega));have v0:aJ (aQ aC) (aE 3) [some (aM n ps),some (.ref i),some (.int (0+(k:Int))),y3,y4] H'=.nx [some (aM n ps),some (.ref i),some (.int (0+(k:Int))),some (.ref H'.length),y4] (H'++[Fy []]):=rfl;refine⟨.int (0+(k:Int)),[some (aM n ps),some (.ref i),some (.int (0+(k:Int))),y3,y4],[some (aM n ps),some (.ref j'),some (.int (0+(k:Int))),some (.ref j'),z4],H2,rfl,rfl, ?_,j',_,_,_,rfl,b2,(e3.trans (T:=[]) Fz (by simp)).trans b3 (by simp)⟩;unfold F8;rw[bE v0,bE b1];rfl) (λ_ _ _=>rfl) ⟨H.length,none,none,none,rfl,g1,Gm⟩
 rw[hN]at h3;obtain⟨H2,e5,f5⟩:=z55 (x2:=y2) (x3:=y3) (x4:=y4) o h3;refine⟨H2.length,H2++[Fy ((gA n ps n).map aS)], ?_,last_get,((f1.trans h4 (by simp)).trans f5 (by simp)).trans (T:=[]) Fz (by simp)⟩;show bK (EE [some (aM n ps),none,none,none,none] H)=_;rw[z4z,bE w1,bE h1,h2];exact PF e5
end
def rq (a b c:Nat):Bh:=[.bl (a==c),.bl (a+1==c),.bl (a+2==c)].take b
def Cb:M Bh :=(aB (m1 (aV (eO none tbl0)) (aA 1)) (aB (m1 (aV (eO none tbl1)) (aA 1)) (aB (m1 (aV (eO none tbl2)) (aA 1)) aC)))
def Dl:M Bh :=(aB (m1 (aV (eO none tbl3)) (aA 1)) (aB (m1 (aV (eO none tbl4)) (aA 1)) (aB (m1 (aV (eO none tbl5)) (aA 1)) aC)))
def Fi:M Bh :=(aB (m1 (aV (eO none tbl6)) (aA 1)) (aB (m1 (aV (eO none tbl7)) (aA 1)) (aB (m1 (aV (eO none tbl8)) (aA 1)) aC)))
def pD:M Bh :=(aB (m1 (aV (eO none tbl9)) (aA 1)) (aB (m1 (aV (eO none tbl10)) (aA 1)) aC))
def AG:M Bh :=bM (aR cN (aB (mC (.int 11)) aC)) [none,some 3] (aE 0) (bO (m2 aU (aA 1) (aA 0))) (bA (aA 0))
def PL:MS:=bS (cO (bO (m1 (aV (eO none tblV)) (aA 1)))) (aO (mC .non)) cA
theorem z57:gL=aH (aJ (aQ Cb) (aE 3)) (aH (aJ (m2 bJ (aA 3) (aQ Dl)) (aE 3)) (aH (aJ (m2 bJ (aA 3) (aQ Fi)) (aE 3)) (aH (aJ (m2 bJ (aA 3) (aQ pD)) (aE 3)) (aH PL (aO (bH AG)))))):=rfl
section
variable{c:Nat}(hc:c=0) {H:Hs}{x0 x2 x3:Bi}
include hc
theorem z58:aQ Cb [x0,some (.exc c),x2,x3] H=.ok (.ref H.length) (H++[.lst (rq 0 3 c)]):=by subst hc;rfl
theorem z59:aQ Dl [x0,some (.exc c),x2,x3] H=.ok (.ref H.length) (H++[.lst (rq 3 3 c)]):=by subst hc;rfl
theorem z5a:aQ Fi [x0,some (.exc c),x2,x3] H=.ok (.ref H.length) (H++[.lst (rq 6 3 c)]):=by subst hc;rfl
theorem z5b:aQ pD [x0,some (.exc c),x2,x3] H=.ok (.ref H.length) (H++[.lst (rq 9 2 c)]):=by subst hc;rfl
theorem z5c:PL [x0,some (.exc c),x2,x3] H=.nx [x0,some (.exc c),x2,x3] H:=by subst hc;rfl
theorem z5d {i:Nat}(e:getL H i=some ((bo 11).map λk=>Gw (k==c))):AG [x0,some (.exc c),x2,some (.ref i)] H=.ok [.int c] H:=by
 have h:AG [x0,some (.exc c),x2,some (.ref i)] H=.ok ((bo 11).filterMap λk=>if k==c then some (.int k)else none) H:=
  gX (bo 11) (λk=>if k==c then some (.int (k:Nat))else none) (λρ=>∃a,ρ=[a,some (.ref i)]) (src:=cS 0 11) rfl rfl ⟨_,rfl⟩ rfl (λk hk ρ ⟨a,e'⟩=>by
   subst e';have Dp:k<11:=by simpa using hk
   refine⟨.int (0+k),[some (.int (0+k)),some (.ref i)],rfl,rfl,⟨_,rfl⟩, ?_⟩;have ht:=ixL (H:=H) (j:=k) e (by simpa using Dp);rw[List.getElem_map,List.getElem_range]at ht;have h0:(0+(k:Int))=(k:Int):=by omega
   rw[h0,List.getElem_range]
   cases q:k==c with
   |true=>simp[bO,m2,aA,ht,q,fF]
   |false=>simp[bO,m2,aA,ht,q,fF]) (by simp)
 rw[h];subst hc;rfl
theorem z5e:∃i H',tY 4 11 gL (.ex c H)=.ok (.ref i) H'/\getL H' i=some [.int c]/\Fr [] H H':=by
 obtain⟨H1,hH1⟩:∃H1,H1=H++[Fy (rq 0 3 c)]:=⟨_,rfl⟩
 have g1:getL H1 H.length=some (rq 0 3 c):=by rw[hH1];exact last_get
 have f1:Fr [] H H1:=by rw[hH1];exact Fz
 have w1:∀x0 x2 x3,aJ (aQ Cb) (aE 3) [x0,some (.exc c),x2,x3] H=.nx [x0,some (.exc c),x2,some (.ref H.length)] H1:=λx0 x2 x3=>by unfold aJ;rw[z58 hc,hH1];rfl
 have step:∀(G0:Hs) (i:Nat) (xs ys:Bh) (m:M Bh ),getL G0 i=some xs->(∀x0 x2 x3 (G:Hs),aQ m [x0,some (.exc c),x2,x3] G=.ok (.ref G.length) (G++[.lst ys]))->xs.length+ys.length<=500->
   ∃G' j,(∀x0 x2,aJ (m2 bJ (aA 3) (aQ m)) (aE 3) [x0,some (.exc c),x2,some (.ref i)] G0=.nx [x0,some (.exc c),x2,some (.ref j)] G')/\getL G' j=some (xs++ys)/\Fr [] G0 G':=by
  intro G0 i xs ys m e hm hl;refine⟨_,_,λx0 x2=>?_,last_get (H:=G0++[.lst ys]) (x:=xs++ys),Gu (T:=[]) Fz Fz (by simp)⟩;have a:=nW (H:=G0++[.lst ys]) (gQ e) (last_get (H:=G0) (x:=ys)) hl;unfold aJ;rw[zS rfl (hm _ _ _ _) a];rfl
 obtain⟨H2,i2,w2,g2,f2⟩:=step H1 H.length (rq 0 3 c) (rq 3 3 c) Dl g1 (λ_ _ _ _=>z59 hc) (by simp[rq]);obtain⟨H3,i3,w3,g3,f3⟩:=step H2 i2 _ (rq 6 3 c) Fi g2 (λ_ _ _ _=>z5a hc) (by simp[rq]);obtain⟨H4,i4,w4,g4,f4⟩:=step H3 i3 _ (rq 9 2 c) pD g3 (λ_ _ _ _=>z5b hc) (by simp[rq]);have g5':getL H4 i4=some ((bo 11).map λk=>Gw (k==c)):=by rw[g4];rfl
 refine⟨H4.length,H4++[.lst [.int c]], ?_,last_get,((f1.trans f2 (by simp)).trans f3 (by simp)).trans (T:=[]) (f4.trans (T:=[]) Fz (by simp)) (by simp)⟩;have hlt:c<11:=by omega
 show(if c<11 then tX (gL (oM 4 (.exc c)) H)else .bad)=_;rw[if_pos hlt,z57];show tX (aH _ _ [none,some (.exc c),none,none] H)=_;rw[bE (w1 _ _ _),bE (w2 _ _),bE (w3 _ _),bE (w4 _ _),bE (z5c hc)];have hr:bH AG [none,some (.exc c),none,some (.ref i4)] H4=.ok (.ref H4.length) (H4++[.lst [.int c]]):=by unfold bH;rw[z5d hc g5'];rfl
 unfold aO;rw[hr];rfl
end
def Calls (p t:Nat) (ks:Be) (H:Hs):Prop:=∃js:Be,getL H p=some (js.map Gk)/\js.map (gC H)=ks.map λk=>some (k,t)
section
variable{H H':Hs}{ρ:Ev}{p t k c s:Nat}{ks js:Be}{lc:Nat->Option (Be×M Dv)}
theorem AH {S:Be}{j:Nat}{q:Nat×Nat}(e:gC H j=some q) (f:Fr S H H') (h:j∉S):gC H' j=some q:=by
 unfold gC at e ⊢;have hj:j<H.length:=by
  cases z:H[j]? with
  |none=>rw[z]at e;cases e
  |some o=>exact(ax.mp z).1
 rw[f.at_ j hj h];exact e
theorem z5f {j:Nat}{q:Nat×Nat}(e:gC H j=some q):getL H j=none:=by
 unfold gC at e;unfold getL
 split at e
 ·rename_i k t h;rw[h]
 ·cases e
theorem PM {S:Be}(e:js.map (gC H)=ks.map λk=>some (k,t)) (f:Fr S H H') (h:∀j∈js,j∉S):js.map (gC H')=ks.map λk=>some (k,t):=by
 rw[<-e];refine Bb λj hj=>?_;have hs:∃q,gC H j=some q:=by
  have hm:gC H j∈ks.map λk=>some (k,t):=by rw[<-e];exact Bc hj
  obtain⟨k,_,e2⟩:=cp.mp hm;exact⟨_,e2.symm⟩
 obtain⟨q,hq⟩:=hs;rw[hq,AH hq f (h j hj)]
theorem Calls.cap (h:Calls p t ks H):∃js:Be,getL H p=some (js.map Gk)/\js.map (gC H)=(ks.map λk=>some (k,t))/\js.length=ks.length:=by obtain⟨js,g,e⟩:=h;exact⟨js,g,e,by have:=congrArg pj e;simpa using this⟩
theorem GA:gC (H++[.clo k t]) H.length=some (k,t):=by simp[gC]
theorem z5g (ht:t<=H.length) (h4:s<ρ.length):∃H',aJ (aQ (aB (jF k t) aC)) (aE s) ρ H=.nx (ρ.set s (some (.ref (H.length+1)))) H'/\Calls (H.length+1) t [k] H'/\Fr [] H H':=by
 refine⟨(H++[.clo k t])++[.lst [.ref H.length]], ?_,⟨[H.length], ?_, ?_⟩,Gu (T:=[]) Fz Fz (by simp)⟩
 ·have e:aQ (aB (jF k t) aC) ρ H=.ok (.ref (H.length+1)) ((H++[.clo k t])++[.lst [.ref H.length]]):=by simp[aQ,aB,jF,ht,aC,lim]
  exact oZ e rfl
 ·have:(H++[Gr k t]).length=H.length+1:=by simp
  rw[<-this];exact last_get
 ·simp only[da,wg];rw[AH GA (Fz (S:=[])) (by simp)]
theorem PN (ht:t<=H.length) (h4:aA s ρ=λH=>.ok (.ref p) H) (h:Calls p t ks H) (hl:ks.length<=100):∃H',dG (hO (aA s) (jF k t)) ρ H=.nx ρ H'/\Calls p t (ks++[k]) H'/\Fr [p] H H':=by
 obtain⟨js,g,e,le⟩:=h.cap;have g1:getL (H++[Gr k t]) p=some (js.map Gk):=gQ g;have hx:(js.map Gk).length<1000000:=by simp;omega
 have f1:Fr [] H (H++[Gr k t]):=Fz;have f2:Fr [p] (H++[Gr k t]) ((H++[Gr k t]).set p (.lst (js.map Gk++[.ref H.length]))):=Gq;have e1:=PM e f1 (by simp);have np:∀j,(∃q,gC (H++[Gr k t]) j=some q)->j∉[p]:=λj ⟨q,hq⟩ z=>by simp only[cg]at z;subst z;rw[z5f hq]at g1;cases g1
 refine⟨_, ?_,⟨js++[H.length], ?_, ?_⟩,(f1.mono (T:=[p]) (by simp)).trans f2 (by simp)⟩
 ·simp only[dG,hO,h4,Rs.bind_ok,iZ,g,An,if_true,jF,ht,oK,g1,hx,Rs.thenS_ok]
 ·rw[iu];exact kW g1
 ·rw[iu,iu]
  congr 1
  ·refine PM e1 f2 λj hj=>np j ?_;have hm:gC (H++[Gr k t]) j∈ks.map λk=>some (k,t):=by rw[<-e1];exact Bc hj
   obtain⟨k',_,e2⟩:=cp.mp hm;exact⟨_,e2.symm⟩
  ·simp only[da,wg];rw[AH GA f2 (np _ ⟨_,GA⟩)]
def PQ (lc:Nat->Option (Be×M Dv)) (ρ:Ev) (c:Nat) (H:Hs) (k:Nat):Prop:=∃caps me ds,lc k=some (caps,me)/\oO caps ρ=some ds/\∀H',Fr [] H H'->me (ds.map some) H'=.ex c H'
theorem z5h {i:Nat}{xs:Bh}(h4:aA s ρ=λH=>.ok (.ref i) H) (g:getL H i=some xs):bF cG (aA s) ρ H=.ok (cP i xs.length) H:=by simp[bF,h4,cG,g]
theorem z5i (hc:c=0) (h4:aA s ρ=λH=>.ok (.ref p) H) (h:Calls p t ks H) (hr:∀k∈ks,PQ lc ρ c H k) (hl:ks.length<=100):
  ∃(rs:Be) (H':Hs),qE (bF cG (aA s)) lc t 4 11 gL ρ H=.ok (rs.map Gk) H'/\Fr [] H H'/\rs.length=ks.length/\∀r∈rs,getL H' r=some [.int c]:=by
 obtain⟨js,g,e,le⟩:=h.cap;have hi:bF cG (aA s) ρ H=.ok (cP p js.length) H:=by have:=z5h h4 g;rwa [bg]at this
 obtain⟨ρ',H',Fd,ec,hP⟩:=xY (src:=cP p js.length) (sg:=aE 0) (t:=cT) (m:=bA (lA lc t 4 11 gL ρ)) (λk ρ' H' acc=>(∃a,ρ'=[a])/\Fr [] H H'/\∃rs:Be,acc=rs.map Gk/\rs.length=k/\∀r∈rs,getL H' r=some [.int c])
  (λk ρ' H' acc hk ⟨⟨a,ea⟩,f,rs,eacc,el,er⟩=>by
   subst ea;have Dp:k<js.length:=hk;refine⟨.ref js[k],[some (.ref js[k])],zM (f.getL g (by simp)) Dp,rfl,.inr ?_⟩;have hkk:k<ks.length:=by omega
   have ej:gC H js[k]=some (ks[k],t):=by
    have h1:(js.map (gC H))[k]?=some (gC H js[k]):=by rw[dj,ba Dp];rfl
    rw[e,dj,ba hkk]at h1;exact(cn h1).symm
   obtain⟨caps,me,ds,l1,l2,l3⟩:=hr ks[k] (cm hkk);have ej':=AH ej f (by simp);obtain⟨i,H2,e2,g2,f2⟩:=z5e hc (H:=H');have em:lA lc t 4 11 gL ρ [some (.ref js[k])] H'=.ok (.ref i) H2:=by
    have:lA lc t 4 11 gL ρ [some (.ref js[k])] H'=tY 4 11 gL (me (ds.map some) H'):=by simp[lA,ej',l1,l2]
    rw[this,l3 H' f,e2]
   have hacc:acc.length<1000000:=by rw[eacc,bg];omega
   refine⟨H',[some (.ref js[k])],acc++[.ref i],H2,rfl, ?_,⟨_,rfl⟩,f.trans f2 (by simp),rs++[i],by rw[eacc];simp,by simp[el],λr hr=>?_⟩
   ·unfold bA;rw[em];exact if_pos hacc
   ·rcases br.mp hr with hr|hr
    ·exact f2.getL (er r hr) (by simp)
    ·simp only[cg]at hr;subst hr;exact g2) (λρ' H' acc ⟨_,f,_⟩=>zN (f.getL g (by simp))) js.length 0 [none] H [] rfl ⟨⟨_,rfl⟩,Gm,[],rfl,rfl,by simp⟩
 obtain⟨_,f,rs,eacc,el,er⟩:=hP;refine⟨rs,H', ?_,f, ?_,er⟩
 ·show bM (bF cG (aA s)) [none] (aE 0) cT (bA (lA lc t 4 11 gL ρ)) ρ H=_;exact z3l (ρ':=ρ') hi (by show eM (cP p js.length) (aE 0) cT (bA (lA lc t 4 11 gL ρ)) js.length 0 [none] H []=_;rw[ec,eacc])
 ·have:(cP p js.length).n=js.length:=rfl;omega
theorem vO {m i:Nat}{xs:Bh}{ts:List Dt}(g:getL H i=some xs) (h:bP (bC m H) xs=some ts):bC (m+1) H (.ref i)=some (.lst ts):=by unfold bC;dsimp only;rw[g];dsimp only;rw[h]
theorem PR {rs:Be}(m:Nat) (h:∀r∈rs,getL H r=some [.int c]):bP (bC (m+2) H) (rs.map Gk)=some (bq rs.length (.lst [.int c])):=by
 induction rs with
 |nil=>rfl
 |cons r rs ih=>
  have h1:bC (m+2) H (.ref r)=some (.lst [.int c]):=by simp[bC,h r (bf ..),bP]
  rw[da,bP,h1,ih λr hr=>h r (ar _ hr)];rfl
theorem z5j (m:Nat) (a:Dt) (h:bD a a=true):eJ (bq m a) (bq m a)=true:=by
 induction m with
 |zero=>rfl
 |succ m ih=>rw[ig,eJ,h,ih];rfl
abbrev vT (c n:Int):M Dv:=m2 pU (aQ (aB (aQ (aB (mC (.int c)) aC)) aC)) (mC (.int n))
theorem z5k {n:Nat}(hn:n<=100):∃(L:Nat) (H':Hs),vT c n ρ H=.ok (.ref L) H'/\Fr [] H H'/\bC bZ H' (.ref L)=some (.lst (bq n (.lst [.int c]))):=by
 obtain⟨H1,hH1⟩:∃H1,H1=H++[Fy [.int (c:Int)]]:=⟨_,rfl⟩
 obtain⟨H2,hH2⟩:∃H2,H2=H1++[Fy [.ref H.length]]:=⟨_,rfl⟩
 have e1:aQ (aB (aQ (aB (mC (.int c)) aC)) aC) ρ H=.ok (.ref H1.length) H2:=by rw[hH2,hH1];simp[aQ,aB,mC,aC,lim]
 have g2:getL H2 H1.length=some [.ref H.length]:=by rw[hH2];exact last_get
 have g1:getL H2 H.length=some [.int (c:Int)]:=by rw[hH2,hH1];exact gQ last_get
 have hr:pU (.ref H1.length) (.int (n:Int)) H2=.ok (.ref H2.length) (H2++[.lst (bq n (Gk H.length))]):=by
  have c1:jI (n:Int)=true:=by simp[jI];omega
  have c2:decide ((n:Int)<9223372036854775808)=true:=decide_eq_true (by omega);have c3:decide ((-9223372036854775808:Int)<=(n:Int))=true:=decide_eq_true (by omega);have c4:decide ([Gk H.length].length*(n:Int).toNat<=1000000)=true:=decide_eq_true (by have:(n:Int).toNat=n:=fj n;rw[this];show 1*n<=1000000;omega);have:∀m,(bq m [Gk H.length]).flatten=bq m (Gk H.length):=λm=>by
   induction m with
   |zero=>rfl
   |succ m ih=>rw[ig,kg,ih];rfl
  unfold pU;dsimp only;rw[g2];dsimp only;rw[c1,c2,c3,c4,fj,this];rfl
 refine⟨H2.length,_,lB e1 (mb:=mC (.int n)) rfl hr, ?_, ?_⟩
 ·have f1:Fr [] H H1:=by rw[hH1];exact Fz
  have f2:Fr [] H1 H2:=by rw[hH2];exact Fz
  exact(f1.trans f2 (by simp)).trans (T:=[]) Fz (by simp)
 ·have g3:getL (H2++[Fy (bq n (Gk H.length))]) H2.length=some ((bq n H.length).map Gk):=by rw[List.map_replicate];exact last_get
  have hp:=PR (H:=H2++[Fy (bq n (Gk H.length))]) (rs:=bq n H.length) (c:=c) 27 (λr hr=>by rw[List.mem_replicate]at hr;rw[hr.2];exact gQ g1);rw[Ac]at hp;exact vO (m:=29) g3 hp
theorem z5l {n:Nat}(hc:c=0) (h4:aA s ρ=λH=>.ok (.ref p) H) (h:Calls p t ks H) (hr:∀k∈ks,PQ lc ρ c H k) (hn:ks.length=n) (hl:n<=100):
  ∃(a b:Nat) (H1 H2:Hs),bH (qE (bF cG (aA s)) lc t 4 11 gL) ρ H=.ok (.ref a) H1/\vT c n ρ H1=.ok (.ref b) H2/\Fr [] H H2/\cD (.ref a) (.ref b) H2=.ok (.bl false) H2/\bT (.ref a) (.ref b) H2=.ok (.bl true) H2:=by
 obtain⟨rs,H1,e1,f1,l1,g1⟩:=z5i hc h4 h hr (by omega);have ea:=F2 e1;obtain⟨b,H2,e2,f2,p2⟩:=z5k (c:=c) (ρ:=ρ) (H:=H1++[.lst (rs.map Gk)]) hl;have ga:=f2.getL (last_get (H:=H1) (x:=rs.map Gk)) (by simp);have hp:=PR (H:=H2) (rs:=rs) (c:=c) 27 (λr hr=>f2.getL (gQ (g1 r hr)) (by simp));have p1:bC bZ H2 (.ref H1.length)=some (.lst (bq n (.lst [.int c]))):=by rw[l1,hn]at hp;exact vO (m:=29) ga hp
 have hd:bD (.lst (bq n (.lst [.int (c:Int)]))) (.lst (bq n (.lst [.int (c:Int)])))=true:=by show eJ _ _=true;exact z5j n _ (by simp[bD,eJ])
 refine⟨H1.length,b,_,H2,ea,e2,(f1.trans (T:=[]) Fz (by simp)).trans f2 (by simp), ?_, ?_⟩
 ·simp[cD,p1,p2,hd]
 ·simp[bT,p1,p2,hd]
end
end L2.Mr.K04
namespace L2.Mr.Gen
abbrev At (ρ:Ev) (i:Nat) (d:Dv):Prop:=ρ[i]?=some (some d)
section
variable{ρ:Ev}{i j:Nat}{d:Dv}{H H':Hs}
theorem At.v (h:At ρ i d):aA i ρ=λH=>.ok d H:=by funext H;unfold aA;rw[h]
theorem At.new (h:i<ρ.length):At (ρ.set i (some d)) i d:=by simp[At,h]
theorem At.o (h:At ρ j d) {x:Bi}(hn:i≠j:=by decide):At (ρ.set i x) j d:=(fi hn).trans h
theorem At.c1 (h:At ρ i d):oO [i] ρ=some [d]:=by simp[oO,show ρ[i]?=some (some d) from h]
theorem qQ {m:M Dv}{v:Dv}(e:m ρ H=.ok v H'):aJ m (aE i) ρ H=.nx (ρ.set i (some v)) H':=oZ e rfl
end
end L2.Mr.Gen
namespace L2.Mr.K04
open L2.Mr.Gen
open L2.Mr.Com
open L2.Mr.Sam
open L2.Mr.Cod (last_get nW ixL)
open L2.Mr.K05 (gM nX sP Gd zZ)
section
variable{n st:Nat}{ps:y'}{H:Hs}{ρ:Ev}{r:Bd}
theorem isrow_any (o:By n ps) {d:Dv}(h:TK 1 H d):F_q2 [aM n ps,d] H=.ok (.bl (gM n ps d)) H:=K05.isrow_any o h
theorem lisrow_any (o:By n ps) {d:Dv}(h:Gd H d):∃H',F_qh [aM n ps,d] H=.ok (.bl (gM n ps d)) H'/\Fr [] H H':=K05.lisrow_any o h.1 h.2
theorem some_draw (o:By n ps) (s:Com.St st H):∃(ns:Bd) (H':Hs),F_qd [.ref st,aM n ps] H=.ok (aS ns) H'/\(∀x∈ns,0<=x/\x<n)/\gM n ps (aS ns)=true/\ns.length<=6/\Com.St st H'/\Fr [st] H H':=K05.some_draw o s
theorem bent_ok (s:Com.St st H) (hl:r.length<=6) (hp:1<=r.length):∃d H',F_qc [.ref st,aS r] H=.ok d H'/\Gd H' d/\Com.St st H'/\Fr [st] H H':=K05.bent_ok s hl hp
theorem need_bad {d:Dv}(h:TK 3 H d) (hb:fV d=false):F_qo [d] H=.ex 0 H:=Cod.need_bad h hb
theorem z5m {d e:Dv}(h:TK 3 H d) (hb:fV d=false):F_q2 [d,e] H=.ex 0 H:=by show K05.F_q2 [d,e] H=_;simp[K05.F_q2,K05.mb_q2,aY,bW,aH,dG,aF,aB,aA,aC,K05.need_bad h hb,bK]
theorem PV {d:Dv}(h:TK 3 H d) (hb:fV d=false):F_qw [d] H=.ex 0 H:=by simp[F_qw,yT,aY,bW,aH,dG,aF,aB,aA,aC,need_bad h hb,bK]
theorem z5n {d:Dv}(h:TK 3 H d) (hb:fV d=false):F_qv [d] H=.ex 0 H:=by simp[F_qv,NJ,aY,bW,aO,aF,aB,aA,aC,PV h hb,bK]
theorem sW {F:Bg}{a b v:Dv}{x y:Nat}{H':Hs}(ha:aA x ρ=λH=>.ok a H) (hb:aA y ρ=λH=>.ok b H) (e:F [a,b] H=.ok v H'):aF F (aB (aA x) (aB (aA y) aC)) ρ H=.ok v H':=by simp[aF,aB,ha,hb,aC,e]
theorem sX {F:Bg}{a v:Dv}{x:Nat}{H':Hs}(ha:aA x ρ=λH=>.ok a H) (e:F [a] H=.ok v H'):aF F (aB (aA x) aC) ρ H=.ok v H':=by simp[aF,aB,ha,aC,e]
theorem AI {S:Bg}{ma mb:M Dv}{x y:Dv}{H1 H2:Hs}(ha:ma ρ H=.ok x H1) (hb:mb ρ H1=.ok y H2) (hs:S [x,y] H2=.ok (.bl true) H2):cO (bO (aF S (aB ma (aB mb aC)))) ρ H=.ok false H2:=by simp[cO,bO,aF,aB,ha,hb,aC,hs,fF]
theorem z5o {o m:M Dv}{p:Nat}{xs:Bh}{d:Dv}(eo:o ρ H=.ok (.ref p) H) (em:m ρ H=.ok d H) (g:getL H p=some xs) (hl:xs.length<1000000):dG (hO o m) ρ H=.nx ρ (H.set p (.lst (xs++[d]))):=by simp[dG,hO,eo,iZ,g,em,oK,hl]
theorem PX {F:Bg}{a:Dv}{c:Nat}(e:F [a] H=.ex c H):aF F (aB (aA 0) aC) ([a].map some) H=.ex c H:=by simp[aF,aB,aA,aC,e]
theorem z5p {F:Bg}{a:Dv}{c:Nat}(e:F [a,.tup []] H=.ex c H):aF F (aB (aA 0) (aB (aL aC) aC)) ([a].map some) H=.ex c H:=by simp[aF,aB,aA,aC,aL,lim,e]
abbrev bI:MS:=bS (cO (bO (aF (F_qq 6) (aB (aF F_q2 (aB (aA 3) (aB (aA 6) aC))) (aB (aF F_qh (aB (aA 3) (aB (aA 6) aC))) aC))))) (aO (mC (.bl false))) cA
abbrev bB:MS:=aH (aJ (aF F_qc (aB (aA 2) (aB (aA 4) aC))) (aE 6)) bI
theorem z5q (o:By n ps) (s:Com.St st H) (hl:r.length<=6) (hp:1<=r.length) (a2:At ρ 2 (.ref st)) (a3:At ρ 3 (aM n ps)) (a4:At ρ 4 (aS r)) (hL:6<ρ.length):∃d H',bB ρ H=.nx (ρ.set 6 (some d)) H'/\Com.St st H':=by obtain⟨d,H1,e1,g1,s1,f1⟩:=bent_ok s hl hp;obtain⟨H2,e2,f2⟩:=lisrow_any o g1;have e3:=isrow_any o g1.1;refine⟨d,H2, ?_,s1.fr f2 (by simp)⟩;have b3:At (ρ.set 6 (some d)) 3 (aM n ps):=a3.o;have b6:At (ρ.set 6 (some d)) 6 d:=.new hL;unfold bB;rw[bE (qQ (sW (F:=F_qc) a2.v a4.v e1))];exact(kF (AI (S:=F_qq 6) (sW (F:=F_q2) b3.v b6.v e3) (sW (F:=F_qh) b3.v b6.v e2) (z4g (k:=5)))).trans rfl
abbrev dI:MS:=bS (dU (cO (bO (aF (F_qq 6) (aB (aA 10) (aB (aA 9) aC))))) (cO (bO (aF (F_qq 6) (aB (aF F_qv (aB (aA 3) aC)) (aB (aF (f1 bX) (aB (aA 9) aC)) aC)))))) (aO (mC (.bl false))) cA
abbrev dJ:MS:=bS (cO (bO (aF (F_qq 6) (aB (aF F_qw (aB (aA 3) aC)) (aB (aA 9) aC))))) (aO (mC (.bl false))) cA
abbrev GB:MS:=aH (aJ (aF F_qp (aB (aA 3) aC)) (aE 9)) (aH (aJ (aF F_qw (aB (aA 3) aC)) (aE 10)) (aH dI (aH (dG (hO (aA 10) (aL aC))) dJ)))
theorem z5r (o:By n ps) (a3:At ρ 3 (aM n ps)) (hL:10<ρ.length):∃i j H',GB ρ H=.nx ((ρ.set 9 (some (.ref i))).set 10 (some (.ref j))) H':=by
 obtain⟨i,H1,e1,g1,f1'⟩:=z56 (H:=H) o;obtain⟨j,H2,e2,g2,f2,l2⟩:=F5 (H:=H1) o;obtain⟨H3,e3,f3⟩:=z4y (H:=H2) o;have hl:=PC o (ak n);have hs:∀K,∀x∈(gA n ps n).map aS,F_qq 5 [x,x] K=.ok (.bl true) K:=λK x hx=>by obtain⟨q,hq,rfl⟩:=cp.mp hx;have:=PD o hq;have:=o.n6;exact z4j (n:=3) (by omega)
 have gi2:=f2.getL g1 (by simp);have gi3:=f3.getL gi2 (by simp);have gj3:=f3.getL g2 (by simp);have C':i≠j:=by have:=nG g1;omega
 have lx:((gA n ps n).map aS).length<=900000:=by rw[bg];omega
 have ll:(((gA n ps n).map aS).length:Int)=((gA n ps n).length:Int):=by rw[bg]
 generalize hxs:(gA n ps n).map aS=xs at g1 g2 gi2 gi3 gj3 lx hs ll;have w1:=qQ (i:=9) (sX (F:=F_qp) a3.v e1);have b3:At (ρ.set 9 (some (.ref i))) 3 (aM n ps):=a3.o;have w2:=qQ (i:=10) (sX (F:=F_qw) b3.v e2);have c3:At ((ρ.set 9 (some (.ref i))).set 10 (some (.ref j))) 3 (aM n ps):=b3.o;have c9:At ((ρ.set 9 (some (.ref i))).set 10 (some (.ref j))) 9 (.ref i):=At.o (.new (by omega));have c10:At ((ρ.set 9 (some (.ref i))).set 10 (some (.ref j))) 10 (.ref j):=.new (by simpa using hL);refine⟨i,j, ?_⟩;generalize (ρ.set 9 (some (.ref i))).set 10 (some (.ref j))=ρ2 at w2 c3 c9 c10;have c1:=AI (S:=F_qq 6) (H:=H2) (ρ:=ρ2) (ma:=aA 10) (mb:=aA 9) (by rw[c10.v]) (by rw[c9.v]) (O6 (n:=5) g2 gi2 lx (hs H2));have el:aF (f1 bX) (aB (aA 9) aC) ρ2 H3=.ok (.int (gA n ps n).length) H3:=by rw[<-ll];exact sX (F:=f1 bX) c9.v (by simp[f1,bX,eQ,gH,eW,gi3])
 have c2:=AI (S:=F_qq 6) (sX (F:=F_qv) c3.v e3) el (O3 (n:=5));have w3:dI ρ2 H2=.nx ρ2 H3:=(kF ((qL c1).trans c2)).trans rfl;have w4:=z5o (ρ:=ρ2) (o:=aA 10) (m:=aL aC) (d:=.tup []) (by rw[c10.v]) rfl gj3 (by omega);have f4:Fr [j] H3 (H3.set j (.lst (xs++[.tup []]))):=Gq;have gi4:=f4.getL gi3 (by simpa using C');generalize H3.set j (.lst (xs++[.tup []]))=H4 at w4 f4 gi4;obtain⟨k,H5,e5,g5,f5,l5⟩:=F5 (H:=H4) o;rw[hxs]at g5;have c5:=AI (S:=F_qq 6) (mb:=aA 9) (sX (F:=F_qw) c3.v e5) (by rw[c9.v]) (O6 (n:=5) g5 (f5.getL gi4 (by simp)) lx (hs H5));refine⟨H5, ?_⟩;unfold GB;rw[bE w1,bE w2,bE w3,bE w4];exact(kF c5).trans rfl
abbrev PY:MS:=bS (mB (m2 (pQ true) (aF F_q2 (aB (aA 3) (aB (aA 4) aC))) (mC (.bl true)))) (aO (mC (.bl false))) cA
abbrev cL:M Dv:=bH (qE (bF cG (aA 8)) yU 0 4 11 gL)
abbrev PZ:MS:=bS (mB (m2 cD cL (vT 0 3))) (aO (mC (.bl false))) cA
abbrev GC:MS:=bS (mB (m2 eZ (aA 1) (mC (.int 2)))) GB cA
abbrev GD (u:MS):MS:=aH (aJ (aQ (aB (jF 0 0) aC)) (aE 8)) (aH (dG (hO (aA 8) (jF 1 0))) (aH (dG (hO (aA 8) (jF 2 0))) (aH PZ u)))
theorem z5s (scr:Bd):yV scr 0=aH (aJ (aF (F_qk scr) (aB (aA 0) (aB (aA 1) aC))) (aE 2)) (aH (aJ (aF F_qj (aB (aA 2) (aB (mC (.int 6)) aC))) (aE 3)) (aH (aJ (aF F_qd (aB (aA 2) (aB (aA 3) aC))) (aE 4)) (aH PY (aH (eC (aR cN (aB (mC (.int 5)) aC)) (aE 5) bB) (aH (aJ (aF F_qa (aB (aA 2) aC)) (aE 7)) (GD GC)))))):=rfl
theorem z5t (o:By n ps) (hr:∀x∈r,0<=x/\x<n) (hb:gM n ps (aS r)=true):1<=r.length:=by rw[sP hr]at hb;unfold nX at hb;simp only[cx,decide_eq_true_eq]at hb;have:=o.n1;omega
theorem z5u (u:MS) {d:Dv}(td:TK 3 H d) (bd:fV d=false) (a7:At ρ 7 d) (hL:8<ρ.length):∃p H',GD u ρ H=u (ρ.set 8 (some (.ref p))) H':=by
 obtain⟨H1,w1,c1,f1⟩:=z5g (s:=8) (k:=0) (t:=0) (ρ:=ρ) (H:=H) (gr _) hL;have hp:H.length<=H.length+1:=by omega
 generalize H.length+1=p at w1 c1 hp;have b7:At (ρ.set 8 (some (.ref p))) 7 d:=a7.o;have b8:At (ρ.set 8 (some (.ref p))) 8 (.ref p):=.new hL;refine⟨p, ?_⟩;generalize ρ.set 8 (some (.ref p))=ρ2 at w1 b7 b8;obtain⟨H2,w2,c2,f2⟩:=PN (k:=1) (gr _) b8.v c1 (by simp);obtain⟨H3,w3,c3,f3⟩:=PN (k:=2) (gr _) b8.v c2 (by simp);have hw:∀x∈[p],x∈([]:Be)∨H.length<=x:=λj hj=>by simp only[cg]at hj;right;omega
 have t3:=td.fr0 ((f1.trans f2 hw).trans f3 hw:Fr [] H H3);obtain⟨a,b,H5,H6,e5,e6,f6,n6,_⟩:=z5l (lc:=yU) (c:=0) (n:=3) rfl b8.v c3 (λk hk=>by
  have Dp:k=0∨k=1∨k=2:=by simpa using hk
  rcases Dp with rfl|rfl|rfl
  ·exact⟨[7],_,[d],rfl,b7.c1,λK f=>z5p (F:=F_q2) (z5m (t3.fr0 f) bd)⟩
  ·exact⟨[7],_,[d],rfl,b7.c1,λK f=>PX (F:=F_qv) (z5n (t3.fr0 f) bd)⟩
  ·exact⟨[7],_,[d],rfl,b7.c1,λK f=>PX (F:=F_qw) (PV (t3.fr0 f) bd)⟩) rfl (by decide)
 have t:mB (m2 cD cL (vT 0 3)) ρ2 H3=.ok false H6:=by unfold mB;rw[lB (show cL ρ2 H3=.ok (.ref a) H5 from e5) (show vT 0 3 ρ2 H5=.ok (.ref b) H6 from e6) n6];rfl
 refine⟨H6, ?_⟩;unfold GD;rw[bE w1,bE w2,bE w3,bE ((kF t).trans rfl:PZ ρ2 H3=.nx ρ2 H6)]
theorem z5v (o:By n ps) {k:Int}(a1:At ρ 1 (.int k)) (a3:At ρ 3 (aM n ps)) (hL:10<ρ.length):∃ρ' H',GC ρ H=.nx ρ' H'/\ρ'.length=ρ.length/\∀d,At ρ 0 d->At ρ' 0 d:=by
 have t:mB (m2 eZ (aA 1) (mC (.int 2))) ρ H=.ok (decide (k<2)) H:=by unfold mB;rw[lB (ma:=aA 1) (mb:=mC (.int 2)) (z:=.bl (decide (k<2))) (by rw[a1.v]) rfl rfl];rfl
 cases c:decide (k<2)with
 |false=>rw[c]at t;exact⟨ρ,H,(kF t).trans rfl,rfl,λ_ h=>h⟩
 |true=>rw[c]at t;obtain⟨i,j,H',e⟩:=z5r (H:=H) o a3 hL;exact⟨_,H',(oV t).trans e,by simp,λd h=>h.o.o⟩
theorem E8 (scr:Bd) (k:Nat) (hL:ρ.length=11) (a0:At ρ 0 .scr) (a1:At ρ 1 (.int k)):∃ρ' H',yV scr 0 ρ H=.nx ρ' H'/\ρ'.length=11/\At ρ' 0 .scr:=by
 obtain⟨H1,h1,f1',s1⟩:=z2p scr k H;obtain⟨n,cs,H2,h2,o,s2,f2⟩:=mJ s1;have w1:=qQ (i:=2) (sW (F:=F_qk scr) a0.v a1.v h1);generalize H.length=st at s1 s2 f2 h2 w1;have b0:At (ρ.set 2 (some (.ref st))) 0 .scr:=a0.o;have b1:At (ρ.set 2 (some (.ref st))) 1 (.int k):=a1.o;have b2:At (ρ.set 2 (some (.ref st))) 2 (.ref st):=.new (by omega);have bL:(ρ.set 2 (some (.ref st))).length=11:=by simp[hL]
 rw[z5s,bE w1];generalize ρ.set 2 (some (.ref st))=ρ1 at b0 b1 b2 bL;have w2:=qQ (i:=3) (show aF F_qj (aB (aA 2) (aB (mC (.int 6)) aC)) ρ1 H1=.ok (aM n cs) H2 by simp[aF,aB,b2.v,mC,aC,h2]);obtain⟨ns,H3,e3,hr,hb,l6,s3,f3⟩:=some_draw o s2;have c0:At (ρ1.set 3 (some (aM n cs))) 0 .scr:=b0.o;have c1:At (ρ1.set 3 (some (aM n cs))) 1 (.int k):=b1.o;have c2:At (ρ1.set 3 (some (aM n cs))) 2 (.ref st):=b2.o;have c3:At (ρ1.set 3 (some (aM n cs))) 3 (aM n cs):=.new (by omega);have cL':(ρ1.set 3 (some (aM n cs))).length=11:=by simp[bL]
 rw[bE w2];generalize ρ1.set 3 (some (aM n cs))=ρ2 at c0 c1 c2 c3 cL';have w3:=qQ (i:=4) (sW (F:=F_qd) c2.v c3.v e3);have d0:At (ρ2.set 4 (some (aS ns))) 0 .scr:=c0.o;have d1:At (ρ2.set 4 (some (aS ns))) 1 (.int k):=c1.o;have d2:At (ρ2.set 4 (some (aS ns))) 2 (.ref st):=c2.o;have d3:At (ρ2.set 4 (some (aS ns))) 3 (aM n cs):=c3.o;have d4:At (ρ2.set 4 (some (aS ns))) 4 (aS ns):=.new (by omega);have dL:(ρ2.set 4 (some (aS ns))).length=11:=by simp[cL']
 rw[bE w3];generalize ρ2.set 4 (some (aS ns))=ρ3 at d0 d1 d2 d3 d4 dL;have l1:=z5t o hr hb;have e4:=isrow_any (H:=H3) o (Gd.tup (by simp;omega) zZ:Gd H3 (aS ns)).1;rw[hb]at e4;have w4:PY ρ3 H3=.nx ρ3 H3:=by
  have t:mB (m2 (pQ true) (aF F_q2 (aB (aA 3) (aB (aA 4) aC))) (mC (.bl true))) ρ3 H3=.ok false H3:=by unfold mB;rw[lB (mb:=mC (.bl true)) (sW (F:=F_q2) d3.v d4.v e4) rfl (show pQ true (.bl true) (.bl true) H3=.ok (.bl false) H3 from rfl)];rfl
  exact(kF t).trans rfl
 obtain⟨ρ4,H4,w5,⟨p0,p1,p2,p3,p4,pL⟩,s5⟩:=nI (sg:=aE 5) (b:=bB) (show aR cN (aB (mC (.int 5)) aC) ρ3 H3=.ok (cS 0 5) H3 from rfl) (λ_ ρ Hx=>(At ρ 0 .scr/\At ρ 1 (.int k)/\At ρ 2 (.ref st)/\At ρ 3 (aM n cs)/\At ρ 4 (aS ns)/\ρ.length=11)/\Com.St st Hx)
  (λm ρ Hx hm ⟨⟨p0,p1,p2,p3,p4,pL⟩,s⟩=>by obtain⟨d,Hy,wt,sy⟩:=z5q (ρ:=ρ.set 5 (some (.int (0+(m:Int))))) o s l6 l1 p2.o p3.o p4.o (by simp[pL]);exact⟨.int (0+m),_,_,Hy,rfl,rfl,wt,⟨p0.o.o,p1.o.o,p2.o.o,p3.o.o,p4.o.o,by simp[pL]⟩,sy⟩)
  (λρ Hx _=>rfl) ⟨⟨d0,d1,d2,d3,d4,dL⟩,s3⟩
 obtain⟨d,H5,h5,td,bd,s6,f6⟩:=K05.bad_no s5;obtain⟨q,H6,w7⟩:=z5u (ρ:=ρ4.set 7 (some d)) GC td bd (.new (by omega)) (by simp[pL]);obtain⟨ρ',H7,w8,l8,z8⟩:=z5v (H:=H6) (ρ:=(ρ4.set 7 (some d)).set 8 (some (.ref q))) o p1.o.o p3.o.o (by simp[pL]);refine⟨ρ',H7, ?_,by rw[l8];simp[pL],z8 _ p0.o.o⟩;rw[bE w4,bE w5,bE (qQ (sX (F:=F_qa) p2.v h5)),w7,w8]
end
theorem loop (scr:Bd) (m:Int):∀(f k:Nat) (ρ:Ev) (H:Hs),ρ.length=11->At ρ 0 .scr->∃ρ' H',iC (cS 0 m) (aE 1) (yV scr 0) f k ρ H=.nx ρ' H'
 |0,k,ρ,H,_,_=>⟨_,H,rfl⟩
 |f+1,k,ρ,H,hL,a0=>by obtain⟨ρ1,H1,h,l1,b0⟩:=E8 (H:=H) (ρ:=ρ.set 1 (some (.int k))) scr k (by simp[hL]) a0.o (.new (by omega));obtain⟨ρ',H2,h2⟩:=loop scr m f (k+1) ρ1 H1 l1 b0;refine⟨ρ',H2, ?_⟩;rw[<-h2];exact K8 (d:=.int k) (by simp[cS]) rfl h
theorem z5w (scr:Bd):∃hh,F_q3 scr [.scr] []=.ok (.bl true) hh:=by
 have hi:∃m:Int,aR cN (aB (aF mW (aB (mC (.int 1)) (aB (aF rH (aB (aF (f1 (gH scr)) (aB (aA 0) aC)) (aB (mC (.int 8)) aC))) aC))) aC) [some .scr,none,none,none,none,none,none,none,none,none,none] []=.ok (cS 0 m) []:=by
  generalize hz:(if(8:Int)<scr.length then(8:Int)else scr.length)=z;have z0:0<=z:=by split at hz <;> omega
  have z1:z<=8:=by split at hz <;> omega
  generalize hm:(if z>(1:Int)then z else 1)=m;have m0:1<=m:=by split at hm <;> omega
  have m1':m<=8:=by split at hm <;> omega
  have hr:kS m=true:=by simp[kS];omega
  refine⟨m, ?_⟩;have e1:rH [.int scr.length,.int 8] []=.ok (.int z) []:=by rw[<-hz];rfl
  have e2:mW [.int 1,.int z] []=.ok (.int m) []:=by rw[<-hm];rfl
  simp[aR,aB,aF,mC,aA,aC,f1,gH,eW,e1,e2,cN,hr]
 obtain⟨m,hi⟩:=hi;obtain⟨ρ',H',h⟩:=loop scr m (cS 0 m).n 0 [some .scr,none,none,none,none,none,none,none,none,none,none] [] rfl rfl;refine⟨H', ?_⟩;show bK (yW scr 0 [some .scr,none,none,none,none,none,none,none,none,none,none] [])=_;unfold yW NN;rw[bE ((K7 hi).trans h)];rfl
open PySem.Calls PySem.W
theorem mk_of {l:OpenLaw}{w:cj}{K:Frag}{h:cy}{mg:Str->Option af}{fa:ai}(hob:ob K=obE) (hnt:noTabs K=true) (X:K.In h) (G:h.Ns di mg) (hfa:mg "law" = some (.ref fa)):
  ∃(fd:bp) (c P:ai),(∀(s:ag) (u:af),zq s fd ⟨[u],[]⟩ [("_law_script",u)])/\tabIn K "law" = some (c,P)/\noTabs K=true /\
   ∀(base:cy) (a:ai) (ns:Bd),ns.length<=63->K.In base->base.Ns di mg->CodeHd base c P->lM mg base->Lawful l.prog w K mg base 14 fa fd "_law_script" P a ns:=by
 have hc:obF.all (λf=>f K)=true:=congrArg fe hob;have hf:AM K=AN:=congrArg qo hob;have e:=hfa.symm.trans (mg_of X G (v:=.ref 337) (dB hc 29));cases e;refine(λ(z:∀R:Prop,(_->R)->R)=>z _ id) λR hR=>?_;obtain⟨g0,U0,B0,C0,D0⟩:=dQ hf hc 166 EF "is_whole" 165 ["thing"] 0 57 87 λ_ _ _ _ _ _=>jB λ_=>rfl;obtain⟨g1,U1,B1,C1,D1⟩:=dQ hf hc 173 EG "is_between" 172 ["thing","low","high"] 1 58 88 λ_ _ _ _ _ _=>X4 λ_ _ _=>rfl;obtain⟨g2,U2,B2,C2,D2⟩:=dQ hf hc 178 yX "is_rising" 177 ["parts"] 2 59 89 λ_ _ _ _ _ _=>jB λ_=>rfl;obtain⟨g3,U3,B3,C3,D3⟩:=dQ hf hc 185 EH "is_thing" 184 ["many","thing"] 3 60 90 λ_ _ _ _ _ _=>iO λ_ _=>rfl;obtain⟨g4,U4,B4,C4,D4⟩:=dQ hf hc 190 yY "are_things" 189 ["many","thing"] 4 61 91 λ_ _ _ _ _ _=>iO λ_ _=>rfl;obtain⟨g5,U5,B5,C5,D5⟩:=dQ hf hc 197 EI "is_pair" 196 ["many","thing"] 5 62 92 λ_ _ _ _ _ _=>iO λ_ _=>rfl;obtain⟨g6,U6,B6,C6,D6⟩:=dQ hf hc 202 yZ "are_pairs" 201 ["many","things"] 6 63 93 λ_ _ _ _ _ _=>iO λ_ _=>rfl;obtain⟨g7,U7,B7,C7,D7⟩:=dQ hf hc 207 zA "has_alike" 206 ["pairs"] 7 64 94 λ_ _ _ _ _ _=>jB λ_=>rfl;obtain⟨g8,U8,B8,C8,D8⟩:=dQ hf hc 212 zB "is_complete" 211 ["pairs"] 8 65 95 λ_ _ _ _ _ _=>jB λ_=>rfl;obtain⟨g9,U9,B9,C9,D9⟩:=dQ hf hc 219 EJ "is_order" 218 ["thing"] 9 66 96 λ_ _ _ _ _ _=>jB λ_=>rfl;obtain⟨g10,U10,B10,C10,D10⟩:=dQ hf hc 226 EK "need_order" 225 ["order"] 10 67 97 λ_ _ _ _ _ _=>jB λ_=>rfl;obtain⟨g11,U11,B11,C11,D11⟩:=dQ hf hc 231 zC "is_row" 230 ["order","thing"] 11 68 98 λ_ _ _ _ _ _=>iO λ_ _=>rfl;obtain⟨g12,U12,B12,C12,D12⟩:=dQ hf hc 236 uS "may_come" 235 ["order","begun"] 12 69 99 λ_ _ _ _ _ _=>iO λ_ _=>rfl;obtain⟨g13,U13,B13,C13,D13⟩:=dQ hf hc 241 zD "all_rows" 240 ["order"] 13 70 100 λ_ _ _ _ _ _=>jB λ_=>rfl;obtain⟨g14,U14,B14,C14,D14⟩:=dQ hf hc 248 EL "rows_many" 247 ["order"] 14 71 101 λ_ _ _ _ _ _=>jB λ_=>rfl;obtain⟨g15,U15,B15,C15,D15⟩:=dQ hf hc 255 EM "_law_cell_at" 254 ["_law_script","_law_k"] 15 72 102 λ_ _ _ _ _ _=>iO λ_ _=>rfl;obtain⟨g16,U16,B16,C16,D16⟩:=dQ hf hc 262 EN "_law_state" 261 ["_law_script","_law_k"] 16 73 103 λ_ _ _ _ _ _=>iO λ_ _=>rfl;obtain⟨g17,U17,B17,C17,D17⟩:=dQ hf hc 269 EO "_law_take" 268 ["_law_state_here","_law_many"] 17 74 104 λ_ _ _ _ _ _=>iO λ_ _=>rfl;obtain⟨g18,U18,B18,C18,D18⟩:=dQ hf hc 276 ER "_law_mixed_row" 275 ["_law_state_here","_law_things"] 18 75 105 λ_ _ _ _ _ _=>iO λ_ _=>rfl;obtain⟨g19,U19,B19,C19,D19⟩:=dQ hf hc 281 zE "_law_closed" 280 ["_law_pairs"] 19 76 106 λ_ _ _ _ _ _=>jB λ_=>rfl;obtain⟨g20,U20,B20,C20,D20⟩:=dQ hf hc 286 uT "_law_order" 285 ["_law_state_here","_law_most"] 20 77 107 λ_ _ _ _ _ _=>iO λ_ _=>rfl;obtain⟨g21,U21,B21,C21,D21⟩:=dQ hf hc 291 uU "_law_rows" 290 ["_law_order_here"] 21 78 108 λ_ _ _ _ _ _=>jB λ_=>rfl;obtain⟨g22,U22,B22,C22,D22⟩:=dQ hf hc 298 ES "_law_whole" 297 ["_law_thing"] 22 79 109 λ_ _ _ _ _ _=>jB λ_=>rfl;obtain⟨g23,U23,B23,C23,D23⟩:=dQ hf hc 303 uV "_law_is_row" 302 ["_law_order_here","_law_thing"] 23 80 110 λ_ _ _ _ _ _=>iO λ_ _=>rfl;obtain⟨g24,U24,B24,C24,D24⟩:=dQ hf hc 308 uW "_law_some_row" 307 ["_law_state_here","_law_order_here"] 24 81 111 λ_ _ _ _ _ _=>iO λ_ _=>rfl;obtain⟨g25,U25,B25,C25,D25⟩:=dQ hf hc 315 ET "_law_bent_row" 314 ["_law_state_here","_law_row"] 25 82 112 λ_ _ _ _ _ _=>iO λ_ _=>rfl;obtain⟨g26,U26,B26,C26,D26⟩:=dQ hf hc 322 EU "_law_bad_order" 321 ["_law_state_here"] 26 83 113 λ_ _ _ _ _ _=>jB λ_=>rfl;obtain⟨g27,U27,B27,C27,D27⟩:=dQ hf hc 327 zF "_law_same" 326 ["_law_found","_law_due"] 27 84 114 λ_ _ _ _ _ _=>iO λ_ _=>rfl;obtain⟨g28,U28,B28,C28,D28⟩:=dQ hf hc 332 qH "_law_refused" 331 ["_law_call"] 28 85 115 λ_ _ _ _ _ _=>jB λ_=>rfl;obtain⟨g29,U29,B29,C29,D29⟩:=dQ hf hc 337 gW "law" 336 ["_law_script"] 29 86 116 λ_ _ _ _ _ _=>jB λ_=>rfl;obtain⟨t_MOST_THINGS,c_MOST_THINGS⟩:=P7 (n := "MOST_THINGS") (v:=6) (qR hc 117 rfl);have ex_NoOrder:Du K 37:=⟨dB hc 141,dB hc 142,dB hc 143,dB hc 144,dB hc 145,dB hc 146,P6 (qR hc 147 rfl)⟩
 refine hR ⟨g29,336,334,λs v=>.of_eq (D29 [v] rfl),dB hc 118,hnt,λbase a ns hlen _ _ hC hB=>⟨?_⟩⟩;obtain⟨hh,hl⟩:=z5w ns;refine⟨{ K:=K,cl:=λc=>match c with|0=>37|1=>49|2=>61|3=>73|4=>85|5=>97|6=>109|7=>121|8=>133|9=>145|10=>157|_=>24,scr:=ns,sa:=a,tab:=some 334,lq:=(("law" : Str) ++ ".<locals>.") ++ "<lambda>" },F_q3 ns,hh,rfl,rfl,rfl,rfl,hl, ?_⟩;refine z27 (A:=⟨166,g0,173,g1,178,g2,185,g3,190,g4,197,g5,202,g6,207,g7,212,g8,219,g9,226,g10,231,g11,236,g12,241,g13,248,g14,255,g15,262,g16,269,g17,276,g18,281,g19,286,g20,291,g21,298,g22,303,g23,308,g24,315,g25,322,g26,327,g27,332,g28,337,g29,37,49,61,73,85,97,109,121,133,145,157,t_MOST_THINGS,24,336,334⟩) ?_ (λ_ _ _ _ _ _=>trivial) hC hB;exact⟨rfl,U0,B0,cM X G hc 0,U1,B1,cM X G hc 1,U2,B2,cM X G hc 2,U3,B3,cM X G hc 3,U4,B4,cM X G hc 4,U5,B5,cM X G hc 5,U6,B6,cM X G hc 6,U7,B7,cM X G hc 7,U8,B8,cM X G hc 8,U9,B9,cM X G hc 9,U10,B10,cM X G hc 10,U11,B11,cM X G hc 11,U12,B12,cM X G hc 12,U13,B13,cM X G hc 13,U14,B14,cM X G hc 14,U15,B15,cM X G hc 15,U16,B16,cM X G hc 16,U17,B17,cM X G hc 17,U18,B18,cM X G hc 18,U19,B19,cM X G hc 19,U20,B20,cM X G hc 20,U21,B21,cM X G hc 21,U22,B22,cM X G hc 22,U23,B23,cM X G hc 23,U24,B24,cM X G hc 24,U25,B25,cM X G hc 25,U26,B26,cM X G hc 26,U27,B27,cM X G hc 27,U28,B28,cM X G hc 28,U29,B29,cM X G hc 29,mg_none_of X G (dB hc 42),mg_none_of X G (dB hc 43),mg_none_of X G (dB hc 44),mg_none_of X G (dB hc 45),mg_none_of X G (dB hc 46),mg_none_of X G (dB hc 47),mg_none_of X G (dB hc 48),mg_none_of X G (dB hc 49),mg_none_of X G (dB hc 50),mg_none_of X G (dB hc 51),mg_none_of X G (dB hc 52),mg_none_of X G (dB hc 53),mg_none_of X G (dB hc 54),mg_none_of X G (dB hc 55),mg_none_of X G (dB hc 56),mg_of X G c_MOST_THINGS,cM X G hc 30,cM X G hc 31,cM X G hc 32,cM X G hc 33,cM X G hc 34,cM X G hc 35,cM X G hc 36,cM X G hc 37,cM X G hc 38,cM X G hc 39,cM X G hc 40,dB hc 30,qR hc 148 rfl,rfl,kC ⟨dB hc 149,ex_NoOrder⟩ kB,kC ⟨dB hc 130,ex_NoOrder⟩ kB,kC ⟨dB hc 131,ex_NoOrder⟩ kB,kC ⟨dB hc 132,ex_NoOrder⟩ kB,kC ⟨dB hc 133,ex_NoOrder⟩ kB,kC ⟨dB hc 134,ex_NoOrder⟩ kB,kC ⟨dB hc 135,ex_NoOrder⟩ kB,kC ⟨dB hc 136,ex_NoOrder⟩ kB,kC ⟨dB hc 137,ex_NoOrder⟩ kB,kC ⟨dB hc 138,ex_NoOrder⟩ kB,kC ⟨dB hc 139,ex_NoOrder⟩ kB,kC ⟨dB hc 140,ex_NoOrder⟩ kB,cM X G hc 41,dB hc 150,dB hc 151,dB hc 152,kT (dB hc 119) (kT (dB hc 120) (kT (dB hc 121) (kT (dB hc 122) (kT (dB hc 123) (kT (dB hc 124) (kT (dB hc 125) (kT (dB hc 126) (kT (dB hc 127) (kT (dB hc 128) (kT (dB hc 129) X5)))))))))),rfl,rfl,C29⟩
end L2.Mr.K04
open PySem PySem.W PyProof.Rows
set_option maxRecDepth 100000 in
set_option maxHeartbeats 0 in
theorem PySem.Challenge.cw_nearorders_k04_rows_known_holds : PySem.Challenge.rw_nearorders_k04_rows_known.Holds := by
  w_on; o_law
  refine holds_open (XP := XL L2.Mr.K04.vw []) (YP := L2.Mr.Ys L2.Mr.K04.ob L2.Mr.K04.obE) L2.Mr.K04.left L2.Mr.ys_of L2.Mr.ys_keeps (fun s e => xl_of s (Bool.and_eq_true_iff.mp e).1) XL.keeps (by rfl) (by rfl) (by rfl) (fun s e => recFacts_of (Bool.and_eq_true_iff.mp e).2) (by rfl) (by first | assumption | decide +kernel) (by decide +kernel) ⟨rfl,rfl,rfl,rfl,rfl,by decide +kernel⟩ ?hw ?hc
  case hw => w_witness2
  case hc => exact L2.Mr.walkK2 (l := PySem.Challenge.rw_nearorders_k04_rows_known) (n := 63) (k := 14) (x := "_law_script") "law" rfl (by decide) rfl ⟨rfl,by decide,by decide⟩ ⟨_,rfl,rfl⟩ (fun K w mg fa h hob hnt X G hmg => L2.Mr.K04.mk_of hob hnt X G hmg)