import PyProof.Rows.All
import Wide.All
import OpenK.AllK
import Wide.FinOn
import Lean
import PyProof.EqAt
import PyProof.EqKinds
import PyProof.TupleCall
import PyProof.NeKinds
import PyProof.StationsW
import PyProof.ExcClass3
import PyProof.ExcBaseAll.ValueError
import PyProof.ExcArgsOwn
import KE.KIsAll
import PyProof.ZipIter
import PyProof.RulesAs
import KE.KLam
import PyProof.NsDelKeeps
import PyProof.Rows.Range3
import PyProof.SumWalkG
import PyProof.EnumMake
import PyProof.EnumFor
import PyProof.WalkInts
import PyProof.Rows.SortWalk
import KE.KSortAsk
import PySem.SetOps
import KE.KSortTup
import PyProof.Rows.SetFrom
import PyProof.SetRoads
import PyProof.Rows.CallKwBuiltin
import PySem.Challenge.RW_nearorders_k06_least_spans_and_best_rows
abbrev y':=List (Int×Int)
abbrev Ap:=List (List Int)
abbrev Aq:=List Int
abbrev As:=List Nat
abbrev Au:=List PySem.Str
set_option genSizeOf false
set_option compiler.extract_closed false
noncomputable section
open Array renaming getElem?_eq_some_iff->du,getElem?_eq_getElem->fw,getElem?_setIfInBounds_self_of_lt->jk,getD->lb,length_toList->nc,getElem?_toList->oz,getElem?_eq_none->ud,perm_iff_toList_perm->xu,getElem?_replicate->yo,mem_toList_iff->zr,forIn_toList->Ak
open Bool renaming false_eq_true->cp,eq_iff_iff->dm,and_eq_true->fe,false_ne_true->ie,not_true->pw,and_false->qw,not_eq_true'->wg
open Classical renaming em->sh
open False renaming elim->jh
open ForInStep renaming yield->sj
open Function renaming comp->xh
open Int renaming toNat_natCast->fi,le_refl->xi
open List renaming mem_cons_of_mem->au,size_toArray->aw,getElem?_eq_some_iff->ax,getElem?_eq_getElem->ay,length_map->ba,range->bf,mem_cons_self->bg,mem_cons->bh,filterMap_cons->br,replicate->bu,length_append->bw,mem_range->bx,mem_singleton->bz,mem_map->cg,mem_append_right->cn,mem_of_getElem?->cu,length_cons->cy,mem_append->cz,map_cons->da,getElem_mem->de,getElem?_set_self->dg,getElem?_map->dk,getElem?_set_ne->dw,getElem?_append_left->ff,getElem?_append_right->fv,pairwise_cons->gg,mem_filter->gn,map_append->gr,all_eq_true->gu,mem_append_left->ic,pairwise_iff_getElem->iu,replicate_succ->iw,flatMap_cons->iz,lookup_cons->je,map_map->jg,length_take->ji,filter_cons->jl,nodup_cons->jv,getElem_of_mem->jw,mem_filterMap->jz,flatten_cons->kh,length_set->lr,length_filter_le->lx,length_range->mf,mem_iff_getElem->mr,getElem_map->mz,getElem?_zip_eq_some->ni,length_filterMap_le->nj,getElem_range->nt,append_assoc->oj,range_succ_eq_map->om,ext_getElem?->oq,filterMap_eq_map->pb,length_drop->pd,any_eq_true->pf,countP_cons->pg,mem_flatMap->ph,length->qc,append_nil->qe,length_nil->qf,forIn_cons->qg,length_pos_iff->qo,getD->qp,filterMap_map->qv,perm_ext_iff_of_nodup->rf,pairwise_map->si,getElem?_replicate->tm,getElem?_cons_succ->tq,nodup_range->tu,getElem?_cons_zero->tw,length_eq_zero_iff->ua,range_succ->ur,length_singleton->uv,drop_zero->uy,forall_mem_cons->uz,forall_mem_nil->vg,map_drop->vm,zip_cons_cons->vp,ne_nil_of_mem->vq,map_nil->wb,any_map->wd,take_succ_eq_append_getElem->wj,eraseIdx_eq_take_drop_succ->wu,of_mem_zip->xg,nodup_iff_pairwise_ne->yb,length_eraseIdx_of_lt->yc,exists_mem_of_ne_nil->yp,getElem?_take_of_lt->yt,map_take->yu,pairwise_lt_range->zd,filter_eq_nil_iff->zf,length_replicate->zj,take_append_drop->zq,getElem?_eq_none->zu,getElem?_toArray->zv,map_congr_left->Am,flatMap_append->An,mem_map_of_mem->Ao
open List.Pairwise renaming imp_of_mem->wa,nil->ya
open List.Perm renaming append_left->yd
open List.cons renaming injEq->Ac
open Nat renaming le_refl->aj,lt_of_lt_of_le->av,ne_of_lt->az,le_trans->df,zero_le->ig,lt_irrefl->ij,le_of_lt->iq,lt_succ_of_lt->jb,lt_succ_self->jm,ne_of_gt->jn,lt_or_ge->jo,mul_le_mul->my,le_add_right->pq,succ_ne_self->pz,le_of_eq->qr,succ_mul->uj,min_self->zl,zero_add->zm,pow_le_pow_right->Aj
open Ne renaming symm->dh
open Option renaming bind_some->wk,isSome_iff_exists->xw,isSome_some->zx
open Option.some renaming inj->cw,injEq->yq
open Prod renaming fst->fh,snd->rh
open PyProof.Rows renaming slot_tuple_getitem->gv,callWith_type1->jr,IntsAre->lg,AllBare->ue,get?_update_seq->vf,listUpdate_at->xa,lt_int->xj,IsTup->zg,size_push'->zt,tupleItemsOf_->Ah
open PySem renaming wpAny_bind->ae,Value->af,Shared->ag,Addr->ah,wpAny_pure->ai,starEach->ar,Program->bj,Expr->bo,FuncData->bq,sizeLine->cf,Around->cm,World->cq,Heap->cx,mainGlobals->dj,bootBuiltins->dy,mem_of_lookup->fq,wpAny_newObj_type->fz,Scope->gh,wpAny_field->gm,wpAny_holding->gw,wpAny_call_entry->gy,Stmt->gz,IsTupleKey->ib,wpAny_callSpecial?_slot->ik,SetTable->jc,wpAny_seqItems->jd,wpAny_setField_rec->jt,Comprehension->ju,wpAny_setState_of->jx,Arguments->km,wpAny_truthy_bool->kn,wpAny_pyIter_list->kq,sizeLine_eq->kr,wpAny_mono->ku,NameKind->lj,wpAny_passesOwn->mn,codeAny_builtin->mq,IsPair->mw,Builtin->nq,wpAny_askSetting->nr,wpAny_execs_nil->oi,wpAny_Call_Name_kw->ou,wpAny_execs_cons->qh,wpAny_forIn_list->qi,wpAny_pyIter_zip->qj,codeAny_call_builtin->qt,wpAny_letGo->qu,pushCells_keeps->rn,codeAny_mono->rz,wpAny_typeOf->sf,wpAny_pyIter_tuple->sr,call_meets->sy,wpAny_rule->tj,wpAny_of_eq->uf,wpAny_standAt->ui,wpAny_onRaise->uk,wpAny_comprehension_free->um,IsPart->vt,wpAny_updateSeq_pair->vz,TriplesOk->wc,wpAny_setEntries_of->wq,wpAny_attempt->wx,plainId_quiet->wy,IsZip->xq,wpAny_eqBool_int->yf,PassesOwn->yg,Result->yh,noFill_tuple_add->yj,wpAny_isInstance->yn,Model->yr,wpAny_updateSeq->yx,BindsTo->yz,wpAny_call->zi,wpAny_setField->zo,wpAny_tryCatch->zw,wpAny_letOwnedTupleGo_zip->Ab,seq_tuple_add->Ag,call->Ai,wpAny_newList->Al
open PySem.Around renaming under_plainId->kd,frames_deeper->zb
open PySem.Builtin.Builtins renaming bindParams->ux
open PySem.Builtin.List renaming listTooLong->mm,listExtendWith->vn,listSameRef->we,listTouch->wz
open PySem.Builtin.Slice renaming slicePlaces->ll,sliceAdjust->pj,sliceApplied->vj
open PySem.Builtin.SmallTypes renaming nextOf->fj,ownedTupleIsFree->rp,stopIteration->sk
open PySem.Builtin.Tuple renaming tupleExact->ly,tupleItemsOf->vk
open PySem.Challenge renaming pw_nearorders_k06_least_spans_and_best_rows->aa
open PySem.EntryCells renaming newEntry->yk
open PySem.F renaming plainAttrs_list->kj,args_tuple_add_2->rj,entry_tuple_add->sd,slot_tuple_add->sv,excBase_ValueError->xc,slot_list_append->xl,type_list_append->xm,slot_tuple_index->xr,slot_list_count->ye
open PySem.Heap renaming get?_push_of_some->ak,lt_size->aq,get?_push_size->bc,size_push->fg,SameBut->jf,get?_update_self->ka,get?_update_other->lh,get?_update_ne->ql,ExtBut->Aa
open PySem.Heap.SameBut renaming update->ow,refl->uw
open PySem.IsL renaming update->zk
open PySem.NameKind renaming free->cb,cell->dz
open PySem.Obj renaming mapSeq->nu,data_mapFields->vv,isFreed_of_fields->zy
open PySem.PassesOwn renaming leaving->zc
open PySem.SeqAt renaming EqAt->kv,RcAt->ub
open PySem.SetTable renaming insertAt->jq,turns->ug,below->uh,sizeAbove->ze
open PySem.Shared renaming TypeIs->vc
open PySem.Str renaming ofString->nh
open PySem.Value renaming ref->ja,none->jy,isInt_shape->oh,builtin->ve,bool->Ae,type->Af
open PySem.W renaming Frag->ao,kitOne->di,subIn->kg,keepIn->ki,kla_obj->kz,CodeHd->md,envX->nv,fnOf->qd,kla_fn->qk,tabObj->uq,methodObj->vh,codeIn->xb,kitCls->xf,excIn->xk,cellsFrom_some->yi,nsIn->ym,hideAll_size->yv,hideAll_none->yw,hideAll_get->yy,of_hideAll->zh
open PySem.Walks renaming list->uc
open PySem.pickOrder renaming go->xv
open Sum renaming inl->wm,inr->wo
set_option Elab.async false
set_option linter.all false
set_option maxRecDepth 100000
set_option maxHeartbeats 4000000
namespace L2.Mr
open PySem PySem.Spec PySem.Calls PyProof.Rows PySem.W
def QH (o:Obj):Bool:=match o.cls,o.data with
 | .none,.fields _=>false
 |_,_=>true
def nU (h:cx):List ah->Frag
 | []=>[]
 |a::as=>match h.get? a with
  |some o=>match QH o with
   |true=>(a,o)::nU h as
   |false=>nU h as
  |none=>nU h as
def sO (h:cx):Frag:=nU h (bf h.objs.size)
theorem vW (h:cx):∀as,(nU h as).In h
 | [],_,_,e=>nomatch e
 |a::as,b,o,e=>by
  unfold nU at e
  split at e
  ·rename_i o' q
   split at e
   ·rw[je]at e
    cases z:b==a with
    |true=>rw[z]at e;cases e;rw[eq_of_beq z];exact q
    |false=>rw[z]at e;exact vW h as b o e
   ·exact vW h as b o e
  ·exact vW h as b o e
theorem vX (h:cx):∀as,noTabs (nU h as)=true
 | []=>rfl
 |a::as=>by
  unfold nU
  split
  ·split
   ·rename_i q;show(_&&_)=true;rw[fe];refine⟨?_,vX h as⟩;exact q
   ·exact vX h as
  ·exact vX h as
def cW (K:Frag) (f:ah):Option bq:=match K.lookup f with
 |some o=>match o.data with
  | .func fd=>some { fd with kwdefaults:=.none,doc:=.none,pyModule:=.none,annotations:=none,closureTuple:=.none }
  |_=>none
 |none=>none
theorem QI {K:Frag}{f:ah}{n q:Str}{A:km}{B:List gz}{S:gh}{dV cd:af}(h:cW K f=some (fnOf n q A B S dV .none .none .none none cd .none)):
  ∃(oc:af) (od:Option ah) (kV dc pm:af) (an:Option ah) (ct:af) (sl:Array (Option af)),K.lookup f=some ⟨oc,od,.func (fnOf n q A B S dV kV dc pm an cd ct),sl⟩:=by
 unfold cW at h
 split at h
 ·rename_i o e
  split at h
  ·rename_i fd q;obtain⟨oc,od,dt,sl⟩:=o;cases fd;simp only[yq,FuncData.mk.injEq]at h;obtain⟨rfl,rfl,rfl,rfl,rfl,rfl,rfl,rfl,_,_,_,_,rfl,_,rfl⟩:=h;simp only at q;subst q;exact⟨_,_,_,_,_,_,_,_,e⟩
  ·cases h
 ·cases h
theorem qK {F:List (Frag->Bool)}{K:Frag}(h:F.all (λf=>f K)=true) (i:Nat) {f:Frag->Bool}(e:F[i]?=some f):f K=true:=gu.mp h f (cu e)
theorem QJ {l m:List (Option bq)}(h:l=m) (i:Nat) {a b:Option bq}(e:l[i]?=some a) (e':m[i]?=some b):a=b:=by subst h;rw[e]at e';exact cw e'
def AS (K:Frag) (q:ah):Bool:=match K.lookup q with
 |some ⟨_,_,.cls _,_⟩=>true
 |_=>false
theorem QK {K:Frag}{q:ah}(h:AS K q=true):∃lo ld lc ls,K.lookup q=some ⟨lo,ld,.cls lc,ls⟩:=by
 unfold AS at h
 split at h
 ·exact⟨_,_,_,_,by assumption⟩
 ·cases h
def AU (K:Frag) (n:Str) (v:Int):Bool:=match nsIn K dj n with
 |some (some (.int i _))=>i==v
 |_=>false
theorem QL {K:Frag}{n:Str}{v:Int}(h:AU K n v=true):∃t,nsIn K dj n=some (some (.int v t)):=by
 unfold AU at h
 split at h
 ·rename_i i t e;rw[eq_of_beq h]at e;exact⟨t,e⟩
 ·cases h
theorem AV (p:bj) (w:cq) (N:Nat) {α:Type}(f:ag->α):(openEnds treeTable p w N).map f=(((Fast.tw10274390034422433532 Fast.tw14364793385576792824 (opening p) w N (PySem.start (opening p)).1 (PySem.start (opening p)).2).bind (Fast.tw14289696077712309145 p)).bind λs₀=>match s₀.heap.isNs dj&&s₀.gens.size==0 with
 |true=>(Fast.tw14082659384304107361 Fast.tw14364793385576792824 p w s₀.heap.objs.size (s₀.heap.nsMap dj "__annotations__") N s₀ (topStub p)).bind λs₁=>match staticsOk (importedModules p.main.body) s₀.heap s₁.heap&&namesBound p s₁.heap&&gensDone s₁&&laidKept s₀.heap s₁.heap with
   |true=>some s₁
   |false=>none
 |false=>none).map f:=by
 rw[<-Fast.te10274390034422433532,<-Fast.te14364793385576792824,<-Fast.te14289696077712309145,<-Fast.te14082659384304107361];rfl
abbrev QM:List af:=[.type "ValueError",.type "Exception",.type "BaseException",.type "object"]
def QN (s:gz) (cd:ah):Option bq:=match s with
 | .FunctionDef n a b _ _ _ sc _ _ _=>some (fnOf n n a b sc .none .none .none .none none (.ref cd) .none)
 |_=>none
def fE (p:bj) (i:Nat) (cd:ah):Option bq:=QN (p.main.body.getD i (.Pass ⟨0,0,0,0⟩)) cd
def nR (K:Frag) (n:Str) (a:ah):Bool:=decide (nsIn K dj n=some (some (.ref a)))
def nN (K:Frag) (n:Str):Bool:=decide (nsIn K dj n=some none)
def sI (K:Frag) (a b:af) (v:Bool):Bool:=decide (subIn K a b=some v)
def kI (K:Frag) (a b:ah) (v:Bool):Bool:=decide (kitOne K (.ref a) (.ref b)=some v)
theorem dA {F:List (Frag->Bool)}{K:Frag}(h:F.all (λf=>f K)=true) (i:Nat) {g:Frag->Prop}[∀K,Decidable (g K)] (e:F[i]?=some (λK=>decide (g K))):g K:=of_decide_eq_true (qK h i e)
end L2.Mr
namespace L2.Mr.K06
open PySem PySem.Spec PySem.Calls PySem.W PyProof.Rows L2.Mr
def vw:bj:={ aa with main:={ aa.main with body:=List.filterMap (λi=>aa.main.body[i]?) [1,2,3,4,5,6,7,8,9,10,11,12,14,15,16,18,19,20,21,22,23,24,25,26,27,28,30,31,32,33,35,36,37,38,39,41,42,43,44,45,46,47,48,49,50,51,52,53] } }
def Xw:ag->Bool:=λs=>xlAt vw [] s&&recOk (RowW.records (OpenRow.toRowW PySem.Challenge.rw_nearorders_k06_least_spans_and_best_rows.row)) s
def obF:List (Frag->Bool):=[(nR · "is_whole" 166),(nR · "is_between" 173),(nR · "is_rising" 178),(nR · "is_thing" 185),(nR · "are_things" 190),(nR · "is_pair" 197),(nR · "are_pairs" 202),(nR · "has_alike" 207),(nR · "is_complete" 212),(nR · "is_order" 219),(nR · "need_order" 226),(nR · "are_loose" 233),(nR · "loose_pairs" 238),(nR · "may_come" 243),(nR · "all_rows" 248),(nR · "apart" 255),(nR · "greatest_apart" 260),(nR · "rows_with_spans" 265),(nR · "least_span" 270),(nR · "spans" 275),(nR · "best_rows" 280),(nR · "first_best" 287),(nR · "_law_cell_at" 294),(nR · "_law_state" 301),(nR · "_law_take" 308),(nR · "_law_mixed_row" 315),(nR · "_law_closed" 320),(nR · "_law_order" 325),(nR · "_law_rows" 330),(nR · "_law_loose" 337),(nR · "_law_span" 342),(nR · "_law_bad_order" 349),(nR · "_law_same" 354),(nR · "_law_refused" 359),(nR · "law" 364),(nR · "NoOrder" 37),(nR · "NoNumber" 49),(nR · "NoPairs" 61),(nR · "Round" 73),(nR · "NoThing" 85),(nR · "NoRow" 97),(nR · "TooMany" 109),(nR · "TooFew" 121),(nR · "NoText" 133),(nR · "NoLine" 145),(nR · "NoDeed" 157),(nR · "NearError" 24),(nN · "ValueError"),(nN · "abs"),(nN · "all"),(nN · "any"),(nN · "bool"),(nN · "int"),(nN · "isinstance"),(nN · "len"),(nN · "list"),(nN · "max"),(nN · "min"),(nN · "range"),(nN · "set"),(nN · "sorted"),(nN · "tuple"),(nN · "zip"),(codeIn · (.ref 165) "is_whole"),(codeIn · (.ref 172) "is_between"),(codeIn · (.ref 177) "is_rising"),(codeIn · (.ref 184) "is_thing"),(codeIn · (.ref 189) "are_things"),(codeIn · (.ref 196) "is_pair"),(codeIn · (.ref 201) "are_pairs"),(codeIn · (.ref 206) "has_alike"),(codeIn · (.ref 211) "is_complete"),(codeIn · (.ref 218) "is_order"),(codeIn · (.ref 225) "need_order"),(codeIn · (.ref 232) "are_loose"),(codeIn · (.ref 237) "loose_pairs"),(codeIn · (.ref 242) "may_come"),(codeIn · (.ref 247) "all_rows"),(codeIn · (.ref 254) "apart"),(codeIn · (.ref 259) "greatest_apart"),(codeIn · (.ref 264) "rows_with_spans"),(codeIn · (.ref 269) "least_span"),(codeIn · (.ref 274) "spans"),(codeIn · (.ref 279) "best_rows"),(codeIn · (.ref 286) "first_best"),(codeIn · (.ref 293) "_law_cell_at"),(codeIn · (.ref 300) "_law_state"),(codeIn · (.ref 307) "_law_take"),(codeIn · (.ref 314) "_law_mixed_row"),(codeIn · (.ref 319) "_law_closed"),(codeIn · (.ref 324) "_law_order"),(codeIn · (.ref 329) "_law_rows"),(codeIn · (.ref 336) "_law_loose"),(codeIn · (.ref 341) "_law_span"),(codeIn · (.ref 348) "_law_bad_order"),(codeIn · (.ref 353) "_law_same"),(codeIn · (.ref 358) "_law_refused"),(codeIn · (.ref 363) "law"),(keepIn · (.ref 166)),(keepIn · (.ref 173)),(keepIn · (.ref 178)),(keepIn · (.ref 185)),(keepIn · (.ref 190)),(keepIn · (.ref 197)),(keepIn · (.ref 202)),(keepIn · (.ref 207)),(keepIn · (.ref 212)),(keepIn · (.ref 219)),(keepIn · (.ref 226)),(keepIn · (.ref 233)),(keepIn · (.ref 238)),(keepIn · (.ref 243)),(keepIn · (.ref 248)),(keepIn · (.ref 255)),(keepIn · (.ref 260)),(keepIn · (.ref 265)),(keepIn · (.ref 270)),(keepIn · (.ref 275)),(keepIn · (.ref 280)),(keepIn · (.ref 287)),(keepIn · (.ref 294)),(keepIn · (.ref 301)),(keepIn · (.ref 308)),(keepIn · (.ref 315)),(keepIn · (.ref 320)),(keepIn · (.ref 325)),(keepIn · (.ref 330)),(keepIn · (.ref 337)),(keepIn · (.ref 342)),(keepIn · (.ref 349)),(keepIn · (.ref 354)),(keepIn · (.ref 359)),(keepIn · (.ref 364)),(AU · "MOST_THINGS" 6),λK=>decide (tabIn K "law" = some (363,361)),(sI · (.ref 37) (.ref 24) true),(sI · (.ref 49) (.ref 24) true),(sI · (.ref 61) (.ref 24) true),(sI · (.ref 73) (.ref 24) true),(sI · (.ref 85) (.ref 24) true),(sI · (.ref 97) (.ref 24) true),(sI · (.ref 109) (.ref 24) true),(sI · (.ref 121) (.ref 24) true),(sI · (.ref 133) (.ref 24) true),(sI · (.ref 145) (.ref 24) true),(sI · (.ref 157) (.ref 24) true),(kI · 37 37 true),(kI · 37 49 false),(kI · 37 61 false),(kI · 37 73 false),(kI · 37 85 false),(kI · 37 97 false),(kI · 37 109 false),(kI · 37 121 false),(kI · 37 133 false),(kI · 37 145 false),(kI · 37 157 false),λK=>decide (findIn K (.ref 37) "__getattribute__" = some (some (.builtin "BaseException.__getattribute__"))),λK=>decide (findIn K (.ref 37) "__getattr__" = some none),λK=>decide (findIn K (.ref 37) "__class__" = some (some (.builtin "object.__class__"))),λK=>decide (mroIn K 37 (.type "object")=some true),(sI · (.ref 37) (.type "BaseException") true),λK=>decide (kitCls K (.ref 37) (.ref 37)=some true),(AS · 37),(excIn · 37 QM "ValueError.__new__"),λK=>decide (kitOne K (.ref 37) (.type "ValueError")=some true),(sI · (.ref 24) (.type "BaseException") true),(sI · (.type "type") (.type "tuple") false),λK=>decide (kitCls K (.ref 24) (.ref 24)=some true)]
def AW (K:Frag):List (Option bq):=[cW K 166,cW K 173,cW K 178,cW K 185,cW K 190,cW K 197,cW K 202,cW K 207,cW K 212,cW K 219,cW K 226,cW K 233,cW K 238,cW K 243,cW K 248,cW K 255,cW K 260,cW K 265,cW K 270,cW K 275,cW K 280,cW K 287,cW K 294,cW K 301,cW K 308,cW K 315,cW K 320,cW K 325,cW K 330,cW K 337,cW K 342,cW K 349,cW K 354,cW K 359,cW K 364]
def AX:List (Option bq):=[fE aa 14 165,fE aa 15 172,fE aa 16 177,fE aa 19 184,fE aa 20 189,fE aa 21 196,fE aa 22 201,fE aa 23 206,fE aa 24 211,fE aa 25 218,fE aa 26 225,fE aa 27 232,fE aa 28 237,fE aa 30 242,fE aa 31 247,fE aa 32 254,fE aa 33 259,fE aa 35 264,fE aa 36 269,fE aa 37 274,fE aa 38 279,fE aa 39 286,fE aa 41 293,fE aa 42 300,fE aa 43 307,fE aa 44 314,fE aa 45 319,fE aa 46 324,fE aa 47 329,fE aa 48 336,fE aa 49 341,fE aa 50 348,fE aa 51 353,fE aa 52 358,fE aa 53 363]
def ob (K:Frag):Bool×List (Option bq):=(obF.all (λf=>f K),AW K)
abbrev obE:Bool×List (Option bq):=(true,AX)
theorem GK {α β γ:Type}{o:Option α}{f:α->β}{g:α->γ}{a:β}{b:γ}(h1:o.map f=some a) (h2:o.map g=some b):o.map (λs=>(f s,g s))=some (a,b):=by
 cases o with
 |none=>cases h1
 |some s=>cases h1;cases h2;rfl
theorem QO (w:cq):(openEnds treeTable aa w 8000).map (λs=>openSeen vw [] (importedModules (aa).main.body) Xw true s)=some (openGood vw []):=by rw[AV,Fast.te4187177175401517315];kernel_rfl
theorem QP (w:cq):(openEnds treeTable aa w 8000).map (λs=>obF.all (λf=>f (sO s.heap)))=some true:=by rw[AV];kernel_rfl
theorem QQ (w:cq):(openEnds treeTable aa w 8000).map (λs=>AW (sO s.heap))=some AX:=by rw[AV];kernel_rfl
theorem left:LeftO aa vw [] Xw (λs=>ob (sO s.heap)) (λ_=>obE) 8000:=λw=>GK (QO w) (GK (QP w) (QQ w))
end L2.Mr.K06
namespace L2
open PySem PySem.Spec PyProof.Rows
abbrev iN:=Sum Int Str
def GL:iN->af->Bool
 | .inl k,v=>Value.isInt k v
 | .inr x,v=>Value.isStrOf x v
def QR (w:cq):iN->Int
 | .inl k=>hashInt k
 | .inr x=>hashStr w x
theorem mU:∀{k:iN}{v:af},GL k v=true->(∃i t,k=wm i/\v=Value.int i t)∨(∃x t,k=wo x/\v=Value.str x t)
 | .inl i,v,h=>by obtain⟨t,e⟩:=oh (k:=i) (v:=v) h;exact .inl ⟨i,t,rfl,e⟩
 | .inr x,v,h=>by obtain⟨t,e⟩:=Value.isStrOf_shape (x:=x) (v:=v) h;exact .inr ⟨x,t,rfl,e⟩
theorem QS (a b:Int):decide ((wm a:iN)=wm b)=(a==b):=by
 by_cases e:a=b
 ·subst e;simp
 ·have h:¬ (wm a:iN)=wm b:=λq=>e (Sum.inl.inj q);rw[decide_eq_false h];exact(beq_eq_false_iff_ne.mpr e).symm
theorem QT (a b:Str):decide ((wo a:iN)=wo b)=decide (a=b):=by
 by_cases e:a=b
 ·subst e;simp
 ·have h:¬ (wo a:iN)=wo b:=λq=>e (Sum.inr.inj q);rw[decide_eq_false h,decide_eq_false e]
theorem QU (a:Int) (b:Str):decide ((wm a:iN)=wo b)=false:=decide_eq_false (λq=>nomatch q)
theorem QV (a:Str) (b:Int):decide ((wo a:iN)=wm b)=false:=decide_eq_false (λq=>nomatch q)
def AY (prog:bj) (w:cq):PySem.KeyKind prog w iN where
 is:=GL
 hash:=QR w
 inj:=λv a b ha hb=>by
  rcases mU ha with⟨i,t,rfl,rfl⟩|⟨x,t,rfl,rfl⟩
  ·rcases mU hb with⟨j,u,rfl,e⟩|⟨y,u,rfl,e⟩
   ·injection e with e1 _;rw[e1]
   ·exact nomatch e
  ·rcases mU hb with⟨j,u,rfl,e⟩|⟨y,u,rfl,e⟩
   ·exact nomatch e
   ·injection e with e1 _;rw[e1]
 byValue:=λk v h=>by rcases mU h with⟨i,t,rfl,rfl⟩|⟨x,t,rfl,rfl⟩ <;> rfl
 pyHash:=λhv h=>by
  rcases mU hv with⟨i,t,rfl,rfl⟩|⟨x,t,rfl,rfl⟩
  ·exact wpAny_pyHash_int h
  ·exact wpAny_pyHash_str h
 eqBool:=λhu hv h=>by
  rcases mU hu with⟨i,t,rfl,rfl⟩|⟨x,t,rfl,rfl⟩
  ·rcases mU hv with⟨j,u,rfl,rfl⟩|⟨y,u,rfl,rfl⟩
   ·rw[QS]at h;exact yf h
   ·rw[QU]at h;exact SeqAt.EqAt.int_str i t y u _ _ _ _ h
  ·rcases mU hv with⟨j,u,rfl,rfl⟩|⟨y,u,rfl,rfl⟩
   ·rw[QV]at h;exact SeqAt.EqAt.str_int x t j u _ _ _ _ h
   ·rw[QT]at h;exact wpAny_eqBool_str h
 «strs»:=λk x t v h=>by
  rcases mU h with⟨i,u,rfl,e⟩|⟨y,u,rfl,e⟩
  ·exact nomatch e
  ·injection e with e1 _;subst e1
   cases v <;> rfl
inductive V where
 |non|bl (b:Bool)|int (i:Int)|str (x:Str)|byt (b:Array UInt8)|flt (b:UInt64)|ref (a:ah)|ty (n:String)
 deriving DecidableEq
def RelV:V->af->Prop
 | .non,u=>u=jy
 | .bl b,u=>u=Ae b
 | .int i,u=>∃t,u=Value.int i t
 | .str x,u=>∃t,u=Value.str x t
 | .byt b,u=>∃t,u=Value.bytes b t
 | .flt b,u=>∃t,u=Value.float b t
 | .ref a,u=>u=ja a
 | .ty n,u=>u=Af n
abbrev Bd:List V->List af->Prop:=Paired RelV
theorem Bd.length {xs:List V}{us:List af}(r:Bd xs us):xs.length=us.length:=Paired.length r
theorem Bd.get:∀{xs:List V}{us:List af}{i:Nat}{x:V},Bd xs us->xs[i]?=some x->∃u,us[i]?=some u/\RelV x u
 |_,_,_,_,.nil,e=>by simp at e
 |_,_,0,_,.cons r _,e=>by simp at e;subst e;exact⟨_,rfl,r⟩
 |_,_,i+1,x,.cons _ t,e=>by obtain⟨u,h1,h2⟩:=Bd.get (i:=i) (x:=x) t (by simpa using e);exact⟨u,by simpa using h1,h2⟩
theorem Bd.set {x:V}{u:af}(r:RelV x u):∀{xs:List V}{us:List af}(i:Nat),Bd xs us->Bd (xs.set i x) (us.set i u)
 |_,_,_,.nil=>.nil
 |_,_,0,.cons _ t=>.cons r t
 |_,_,i+1,.cons q t=>.cons q (Bd.set r i t)
theorem Bd.append:∀{xs ys:List V}{us ws:List af},Bd xs us->Bd ys ws->Bd (xs++ys) (us++ws)
 |_,_,_,_,.nil,s=>s
 |_,_,_,_,.cons r t,s=>.cons r (Bd.append t s)
theorem Bd.take:∀{xs:List V}{us:List af}(n:Nat),Bd xs us->Bd (xs.take n) (us.take n)
 |_,_,0,_=>.nil
 |_,_,_+1,.nil=>.nil
 |_,_,n+1,.cons r t=>.cons r (Bd.take n t)
theorem Bd.drop:∀{xs:List V}{us:List af}(n:Nat),Bd xs us->Bd (xs.drop n) (us.drop n)
 |_,_,0,r=>r
 |_,_,_+1,.nil=>.nil
 |_,_,n+1,.cons _ t=>Bd.drop n t
def GN:Option V->Option af->Prop
 |some v,some u=>RelV v u
 |none,none=>True
 |_,_=>False
def KV {κ:Type}:List (κ×V)->List (κ×af)->Prop:=Paired λ(p:κ×V) (q:κ×af)=>p.1=q.1/\RelV p.2 q.2
def kV:iN->V
 | .inl i=>.int i
 | .inr x=>.str x
inductive HO where
 |lst (xs:List V)
 |tup (xs:List V)
 |dK (kvs:List (iN×V))|dT (kvs:List (List iN×V))
 |set (S:Int->Bool) (n:Nat)
 |ins (C dx:ah) (fs:List (Str×V))
 |own (x:ah)
 |xd (fs:List (Str×V))
 |met (f x:ah)
 |rng (lo hi:Int)
 |frz (o:Obj) (u:HO)
 |tbl (ps:Array af)
 |ext (φ:cx->Prop)
abbrev Hp:=ah->Option HO
def aT (H:Hp) (a:ah) (o:HO):Hp:=λb=>if b=a then some o else H b
theorem dF {H:Hp}{a:ah}{o:HO}:aT H a o a=some o:=by unfold aT;rw[if_pos rfl]
theorem bW {H:Hp}{a b:ah}{o:HO}(h:b≠a):aT H a o b=H b:=by unfold aT;rw[if_neg h]
theorem nV {H:Hp}{a b:ah}{o u:HO}(h:H a=some o) (h':H b=some u) (d:o≠u):a≠b:=by intro e;subst e;rw[h]at h';exact d (cw h')
theorem fW {H:Hp}{a b:ah}{o:HO}(h:H a=some o) (h':H b=none):a≠b:=by intro e;subst e;rw[h]at h';cases h'
def Bx (h:cx) (a:ah) (items:Array af):Prop:=∃o,h.get? a=some o/\o.cls=.type "tuple"/\o.dict=none/\∃n,o.data=.seq items n
theorem Bx.tup {h:cx}{a:ah}{items:Array af}(x:Bx h a items):zg h a items:=let ⟨o,e,c,_,d⟩:=x;⟨o,e,c,d⟩
theorem Bx.lt {h:cx}{a:ah}{items:Array af}(x:Bx h a items):a<h.objs.size:=let ⟨_,e,_⟩:=x;aq e
theorem Bx.new (h:cx) (items:Array af):Bx (h.push { cls:=.type "tuple",data:=.seq items }) h.objs.size items:=⟨_,bc _ rfl,rfl,rfl,_,rfl⟩
section
variable(P:bj) (w:cq)
def Bh (H:Hp) (h:cx) (a:ah):HO->Prop
 | .lst xs=>xs.length<=cf/\∃(its:List af) (n:Nat),Bd xs its/\h.get? a=some { cls:=.type "list",data:=.seq its.toArray n }
 | .tup xs=>xs.length<=cf/\∃its:List af,Bd xs its/\Bx h a its.toArray
 | .dK kvs=>kvs.length<=cf/\(a==sysModules)=false/\∃vs,KV kvs vs/\h.DictOf (AY P w) a vs
 | .dT kvs=>kvs.length<=cf/\(a==sysModules)=false/\∃xs:List (List iN×ah×af),
   Paired (λ(p:List iN×V) (q:List iN×ah×af)=>p.1=q.1/\H q.2.1=some (.tup (p.1.map kV))/\RelV p.2 q.2.2) kvs xs /\
   ∃o es ep,h.get? a=some o/\o.ExactDict/\o.data=.dict es ep/\es.toList=xs.map (entryOfKey (tupleKind (AY P w)))/\(xs.map (·.1)).Nodup
 | .set S n=>h.SetOf (intKind P w) a S n
 | .ins C dx fs=>H dx=some (.own a)/\fs.length<=1000/\dx≠a/\h.get? a=some (PySem.W.instObj C dx) /\
   ∃mA,h.Ns1 dx mA/\(∀f,GN (fs.lookup f) (mA f))/\PySem.Within mA (fs.map (·.1))
 | .own _=>∃o,h.get? a=some o
 | .xd fs=>∃mA,h.Ns1 a mA/\∀f,GN (fs.lookup f) (mA f)
 | .rng lo hi=>∃t u v,h.get? a=some { cls:=.type "range",data:=.fields #[.int lo t,.int hi u,.int 1 v] }
 | .frz o u=>h.get? a=some o/\Bh H h a u
 | .tbl ps=>h.get? a=some { cls:=.none,data:=.fields ps }
 | .met f x=>h.get? a=some (vh (.ref f) (.ref x))
 | .ext φ=>φ h/\(∃o,h.get? a=some o)/\∀h1 h2:cx,φ h1->(∀o,h1.get? a=some o->h2.get? a=some o)->φ h2
def Ci (H:Hp) (h:cx):Prop:=∀a o,H a=some o->Bh P w H h a o
end
section
variable{P:bj}{w:cq}{H H':Hp}{h h':cx}{a:ah}{o:HO}
theorem Bh.lt (x:Bh P w H h a o):a<h.objs.size:=by
 cases o with
 |lst xs=>obtain⟨_,_,_,_,e⟩:=x;exact aq e
 |tup xs=>obtain⟨_,_,_,p⟩:=x;exact p.lt
 |dK kvs=>obtain⟨_,_,_,_,o,_,_,e,_⟩:=x;exact aq e
 |dT kvs=>obtain⟨_,_,_,_,o,_,_,e,_⟩:=x;exact aq e
 |set S n=>obtain⟨o,_,_,_,e,_⟩:=x;exact aq e
 |ins C dx fs=>obtain⟨_,_,_,e,_⟩:=x;exact aq e
 |own y=>obtain⟨_,e⟩:=x;exact aq e
 |xd fs=>obtain⟨_,⟨_,_,_,e,_⟩,_⟩:=x;exact aq e
 |rng lo hi=>obtain⟨_,_,_,e⟩:=x;exact aq e
 |frz ob u=>obtain⟨e,_⟩:=x;exact aq e
 |tbl ps=>exact aq (show h.get? a=some _ from x)
 |met f y=>exact aq (show h.get? a=some _ from x)
 |ext φ=>obtain⟨_,⟨_,e⟩,_⟩:=x;exact aq e
theorem Paired.mapP {α β:Type}{F G:α->β->Prop}:∀{l₁:List α}{l₂:List β},Paired F l₁ l₂->(∀a b,F a b->G a b)->Paired G l₁ l₂
 |_,_,.nil,_=>.nil
 |_,_,.cons r t,f=>.cons (f _ _ r) (Paired.mapP t f)
theorem Bh.stay (x:Bh P w H h a o) (k:∀b u,(b=a∨H b=some (.own a))->h.get? b=some u->h'.get? b=some u)
  (ho:∀b,H b=some (.own a)->H' b=some (.own a)) (ht:∀b xs,H b=some (.tup xs)->H' b=some (.tup xs)):Bh P w H' h' a o:=by
 induction o with
 |lst xs=>obtain⟨z,its,n,r,e⟩:=x;exact⟨z,its,n,r,k _ _ (.inl rfl) e⟩
 |tup xs=>obtain⟨z,its,r,ob,e,c⟩:=x;exact⟨z,its,r,ob,k _ _ (.inl rfl) e,c⟩
 |dK kvs=>obtain⟨z,y,vs,r,ob,es,ep,e,c⟩:=x;exact⟨z,y,vs,r,ob,es,ep,k _ _ (.inl rfl) e,c⟩
 |dT kvs=>obtain⟨z,y,xs,r,ob,es,ep,e,c⟩:=x;exact⟨z,y,xs,Paired.mapP r λp q z=>⟨z.1,ht _ _ z.2.1,z.2.2⟩,ob,es,ep,k _ _ (.inl rfl) e,c⟩
 |set S n=>obtain⟨ob,es,ep,t,e,c⟩:=x;exact⟨ob,es,ep,t,k _ _ (.inl rfl) e,c⟩
 |ins C dx fs=>obtain⟨d,z,ne,e,mA,⟨od,es,ep,e2,c⟩,r⟩:=x;exact⟨ho _ d,z,ne,k _ _ (.inl rfl) e,mA,⟨od,es,ep,k _ _ (.inr d) e2,c⟩,r⟩
 |own y=>obtain⟨ob,e⟩:=x;exact⟨ob,k _ _ (.inl rfl) e⟩
 |xd fs=>obtain⟨mA,⟨od,es,ep,e,c⟩,r⟩:=x;exact⟨mA,⟨od,es,ep,k _ _ (.inl rfl) e,c⟩,r⟩
 |rng lo hi=>obtain⟨t,u,v,e⟩:=x;exact⟨t,u,v,k _ _ (.inl rfl) e⟩
 |frz ob u ih=>obtain⟨e,q⟩:=x;exact⟨k _ _ (.inl rfl) e,ih q⟩
 |tbl ps=>have e:h.get? a=some { cls:=.none,data:=.fields ps }:=x;show h'.get? a=some { cls:=.none,data:=.fields ps };exact k a _ (.inl rfl) e
 |met f y=>have e:h.get? a=some (vh (.ref f) (.ref y)):=x;show h'.get? a=some (vh (.ref f) (.ref y));exact k a _ (.inl rfl) e
 |ext φ=>obtain⟨p,⟨o,e⟩,st⟩:=x;exact⟨st _ _ p λo q=>k _ _ (.inl rfl) q,⟨o,k _ _ (.inl rfl) e⟩,st⟩
theorem Ci.lt (x:Ci P w H h) (e:H a=some o):a<h.objs.size:=(x a o e).lt
theorem Ci.fresh (x:Ci P w H h) (e:h.objs.size<=a):H a=none:=by
 cases q:H a with
 |none=>rfl
 |some u=>exact absurd (av (x.lt q) e) (ij _)
theorem Ci.kept (x:Ci P w H h) (k:∀b u,h.get? b=some u->h'.get? b=some u):Ci P w H h':=λa o e=>(x a o e).stay (λb u _ q=>k b u q) (λ_ q=>q) λ_ _ q=>q
theorem Ci.laid (x:Ci P w H h) (k:∀b u,h.get? b=some u->h'.get? b=some u) (hp:h.objs.size<=a) (new:Bh P w (aT H a o) h' a o):Ci P w (aT H a o) h':=λb u e=>by
 have hn:=x.fresh hp
 by_cases hb:b=a
 ·subst hb;rw[dF]at e;cases e;exact new
 ·rw[bW hb]at e;exact(x b u e).stay (λc v _ q=>k c v q) (λc q=>by rw[bW (fW q hn)];exact q) λc xs q=>by rw[bW (fW q hn)];exact q
end
def Rd (H:Hp) (a:ah) (u:HO):Prop:=H a=some u∨∃o,H a=some (.frz o u)
theorem Rd.ok {P:bj}{w:cq}{H:Hp}{h:cx}{a:ah}{u:HO}(r:Rd H a u) (x:Ci P w H h):Bh P w H h a u:=by
 rcases r with r|⟨o,r⟩
 ·exact x a u r
 ·obtain⟨_,q⟩:=x a _ r;exact q
def vY:Option HO->Prop
 |some (.lst _)=>True
 |some (.dK _)=>True
 |some (.dT _)=>True
 |some (.set _ _)=>True
 |some (.ins _ _ _)=>True
 |some (.ext _)=>True
 |_=>False
section
variable{P:bj}{w:cq}{H:Hp}{h h':cx}{x e:ah}{o':HO}
theorem Ci.write (ok:Ci P w H h) (mu:vY (H x)) (he:e=x∨H e=some (.own x)) (k:∀b u,b≠e->h.get? b=some u->h'.get? b=some u) (heo:∃u,h'.get? e=some u)
  (new:Bh P w (aT H x o') h' x o'):Ci P w (aT H x o') h':=λb u q=>by
 have nown:∀c y,H c=some (.own y)->c≠x:=λc y r z=>by subst z;rw[r]at mu;exact mu
 have ntup:∀c xs,H c=some (.tup xs)->c≠x:=λc xs r z=>by subst z;rw[r]at mu;exact mu
 by_cases hb:b=x
 ·subst hb;rw[dF]at q;cases q;exact new
 ·rw[bW hb]at q
  by_cases hbe:b=e
  ·have q':H b=some (.own x):=by
    rcases he with z|z
    ·exact absurd (hbe.trans z) hb
    ·rw[hbe];exact z
   rw[q]at q';cases q';obtain⟨v,hv⟩:=heo;exact⟨v,by rw[hbe];exact hv⟩
  ·refine(ok b u q).stay (λc v hc r=>k c v ?_ r) (λc r=>by rw[bW (nown c b r)];exact r) λc xs r=>by rw[bW (ntup c xs r)];exact r
   rcases hc with rfl|hc
   ·exact hbe
   ·rintro rfl
    rcases he with z|z
    ·exact nown c b hc z
    ·rw[hc]at z;cases z;exact hb rfl
end
structure Un (fs ex:List ah) (H H':Hp) (h h':cx):Prop where
 keep:∀b o,h.get? b=some o->H b=none->b∉fs->b∉ex->h'.get? b=some o
 slot:∀b o,h.get? b=some o->H b=none->b∈fs->b∉ex->∃sl,h'.get? b=some { o with slots:=sl }
 free:∀b o,h.get? b=some o->H b=none->b∉ex->H' b=none
 there:∀b o,h.get? b=some o->b∉ex->∃o',h'.get? b=some o'
 tups:∀b xs,H b=some (.tup xs)->H' b=some (.tup xs)
 frzs:∀b o u,H b=some (.frz o u)->H' b=some (.frz o u)
 tbls:∀b ps,H b=some (.tbl ps)->∃more,H' b=some (.tbl (ps++more))
section
variable{fs fs' ex ex':List ah}{H H1 H2:Hp}{h h1 h2 h':cx}{a x e:ah}{o:HO}
theorem Un.any (u:Un fs ex H H1 h h1) {b:ah}{ob:Obj}(q:h.get? b=some ob) (n:H b=none) (hx:b∉ex):∃sl,h1.get? b=some { ob with slots:=sl }:=by
 by_cases hb:b∈fs
 ·exact u.slot b ob q n hb hx
 ·exact⟨ob.slots,u.keep b ob q n hb hx⟩
theorem Un.kept (k:∀b u,h.get? b=some u->h'.get? b=some u):Un fs ex H H h h':=⟨λb ob q _ _ _=>k b ob q,λb ob q _ _ _=>⟨ob.slots,k b ob q⟩,λ_ _ _ n _=>n,λb ob q _=>⟨ob,k b ob q⟩,λ_ _ q=>q,λ_ _ _ q=>q,λ_ ps q=>⟨#[],by rw[q];simp⟩⟩
theorem Un.refl:Un fs ex H H h h:=Un.kept λ_ _ q=>q
theorem Un.laid (k:∀b u,h.get? b=some u->h'.get? b=some u) (hp:h.objs.size<=a) (hn:H a=none):Un fs ex H (aT H a o) h h' where
 keep:=λb u q _ _ _=>k b u q
 slot:=λb u q _ _ _=>⟨u.slots,k b u q⟩
 free:=λb u q n _=>by rw[bW (az (av (aq q) hp))];exact n
 there:=λb u q _=>⟨u,k b u q⟩
 tups:=λb xs q=>by rw[bW (fW q hn)];exact q
 frzs:=λb u xs q=>by rw[bW (fW q hn)];exact q
 tbls:=λb ps q=>⟨#[],by rw[bW (fW q hn),q];simp⟩
theorem Un.write (mu:vY (H x)) (he:e=x∨H e=some (.own x)) (k:∀b u,b≠e->h.get? b=some u->h'.get? b=some u) (heo:∃u,h'.get? e=some u):Un fs ex H (aT H x o) h h':=by
 have hx:∀b,H b=none->b≠x:=λb n z=>by subst z;rw[n]at mu;exact mu
 have hb:∀b,H b=none->b≠e:=λb n z=>by
  subst z
  rcases he with r|r
  ·exact hx b n r
  ·rw[n]at r;cases r
 have hm:∀b u,H b=some u->¬ vY (some u)->b≠x:=λb u q nm z=>by subst z;rw[q]at mu;exact nm mu
 refine⟨λb u q n _ _=>k b u (hb b n) q,λb u q n _ _=>⟨u.slots,k b u (hb b n) q⟩,λb u q n _=>by rw[bW (hx b n)];exact n,λb u q _=>?_,
  λb xs q=>by rw[bW (hm b _ q λz=>z)];exact q,λb u xs q=>by rw[bW (hm b _ q λz=>z)];exact q,λb ps q=>⟨#[],by rw[bW (hm b _ q λz=>z),q];simp⟩⟩
 by_cases hbe:b=e
 ·subst hbe;exact heo
 ·exact⟨u,k b u hbe q⟩
end
def vZ (h:cx) (H:Hp):List ah:=(bf h.objs.size).filter λa=>(H a).isSome
def kN (h:cx) (H:Hp):cx:=PySem.W.hideAll h (vZ h H)
theorem QW (h:cx) (H:Hp):(kN h H).objs.size=h.objs.size:=yv _ _
theorem QX {h:cx}{H:Hp}{b:ah}{o:Obj}(e:h.get? b=some o) (n:H b=none):(kN h H).get? b=some o:=yy _ e λhm=>by have q:(H b).isSome=true:=(gn.mp hm).2;rw[n]at q;simp at q
theorem QY {h:cx}{H:Hp}{b:ah}{o:Obj}(e:(kN h H).get? b=some o):h.get? b=some o/\H b=none:=by
 have e':h.get? b=some o:=zh (vZ h H) e;refine⟨e', ?_⟩
 cases q:H b with
 |none=>rfl
 |some x=>have hm:b∈vZ h H:=gn.mpr ⟨bx.mpr (aq e'),by simp[q]⟩;have z:(kN h H).get? b=none:=yw (vZ h H) hm;rw[z]at e;cases e
structure Mod (K:ao) (mg:Str->Option af) (base:cx):Prop where
 kin:K.In base
 glob:base.Ns dj mg
 blt:∃mb,base.Ns builtinsNs mb/\∀x:Str,x ≠ "__name__"->mb x=dy x
 nolimit:base.NoLimit
structure Cx where
 prog:bj
 w:cq
 K:ao
 mg:Str->Option af
 base:cx
 A:cm
 N:Au
 s₀:ag
 H₀:Hp
 env:Env
 outer:List Env
 stack:List Env
 ex:List ah
 fn:Str->Bool
 calm:Bool
 pn:List (ah×Obj)
 xe:af->ag->Prop
def dZ (l:List Env):List ah:=l.filterMap (·.frame)
abbrev Cx.fs (X:Cx):List ah:=dZ X.outer
def mV (sc:gh) (x:Str):Prop:=sc.names.lookup x=some .local∨sc.names.lookup x=some .cell∨sc.names.lookup x=some .free
def lL (sc:gh) (x:Str):Prop:=sc.names.lookup x=some .local∨sc.names.lookup x=some .cell
def GO (env:Env) (h:cx) (m:Str->Option af) (x:Str) (u:af):Prop:=(env.kindOf x=some .local/\m x=some u)∨((env.kindOf x=some .cell∨env.kindOf x=some .free)/\∃c,env.cells.lookup x=some c/\h.IsCell c (some u))
structure Cx.Ok (X:Cx):Prop where
 mod:Mod X.K X.mg X.base
 kind:X.env.scope.kind=.function
 glob:X.env.globals=dj
 blt:X.env.builtins=builtinsNs
 above:X.s₀.heap.objs.size<=X.env.locals
 inj:∀x y c,X.env.cells.lookup x=some c->X.env.cells.lookup y=some c->x=y
 has:∀x,(X.env.kindOf x=some .cell∨X.env.kindOf x=some .free)->∃c,X.env.cells.lookup x=some c
 cab:∀x c,X.fn x=true->X.env.cells.lookup x=some c->X.s₀.heap.objs.size<=c
 hd:X.calm=true->X.A.handled=none
 frames:X.A.frames=some X.stack
 stk:X.stack=X.outer∨(X.stack=X.env::X.outer/\X.env.frame=some X.env.locals)
 exf:∀b∈X.ex,b≠X.env.locals/\∀x c,X.env.cells.lookup x=some c->c≠b
 bs:∀b o,X.base.get? b=some o->X.s₀.heap.get? b=some o/\X.H₀ b=none
 bsz:X.base.objs.size<=X.s₀.heap.objs.size
 noex:∀b o,X.base.get? b=some o->b∉X.ex
 exfs:∀b∈X.ex,b∉X.fs
 funs:X.s₀.heap.FunFrames X.base X.outer
 frf:∀b∈X.fs,X.H₀ b=none
structure Inv (X:Cx) (pins:List (ah×Obj)) (σ:List (Option V)) (H:Hp) (s:ag):Prop where
 ok:X.Ok
 os:s.os=X.s₀.os
 bare:ue s.gens
 base:Un X.fs X.ex X.H₀ H X.s₀.heap s.heap
 loc:∃m,s.heap.Ns X.env.locals m/\∀(i:Nat) (x:Str) (v:V),X.N[i]?=some x->σ[i]?=some (some v)->mV X.env.scope x->∃u,RelV v u/\GO X.env s.heap m x u
 cell:∀x c,X.env.cells.lookup x=some c->∃v,s.heap.IsCell c v
 free:H X.env.locals=none
 freeC:∀x c,X.env.cells.lookup x=some c->H c=none
 pin:∀p∈X.pn++pins,s.heap.get? p.1=some p.2/\H p.1=none/\p.1≠X.env.locals/\p.1∉X.fs/\∀v,p.2.data≠.cell v
 hok:Ci X.prog X.w H s.heap
 len:σ.length=X.N.length
section
variable{X:Cx}{pins:List (ah×Obj)}{σ:List (Option V)}{H H':Hp}{s:ag}{h':cx}
theorem Cx.Ok.nofr (ok:X.Ok) {b:ah}{o:Obj}(e:X.base.get? b=some o):b∉X.fs:=λhb=>by have:=(ok.funs.mem hb).1;rw[e]at this;cases this
theorem Inv.bs (I:Inv X pins σ H s):∀b o,X.base.get? b=some o->s.heap.get? b=some o/\H b=none:=λb o e=>⟨I.base.keep b o (I.ok.bs b o e).1 (I.ok.bs b o e).2 (I.ok.nofr e) (I.ok.noex b o e),I.base.free b o (I.ok.bs b o e).1 (I.ok.bs b o e).2 (I.ok.noex b o e)⟩
theorem Inv.bk (I:Inv X pins σ H s):∀b o,X.base.get? b=some o->s.heap.get? b=some o:=λb o e=>(I.bs b o e).1
theorem Inv.mod (I:Inv X pins σ H s):Mod X.K X.mg X.base:=I.ok.mod
theorem Inv.kIn (I:Inv X pins σ H s):X.K.In s.heap:=I.ok.mod.kin.keeps I.bk
theorem Inv.lt (I:Inv X pins σ H s):X.env.locals<s.heap.objs.size:=let ⟨_,hn,_⟩:=I.loc;hn.lt
theorem Inv.sz (I:Inv X pins σ H s):X.s₀.heap.objs.size<=s.heap.objs.size:=df I.ok.above (iq I.lt)
theorem Inv.nofs (I:Inv X pins σ H s) {a:ah}(h:s.heap.objs.size<=a):a∉X.fs:=λhb=>by obtain⟨_,o,ho,_⟩:=I.ok.funs.mem hb;exact absurd (av (aq ho) (df I.sz h)) (ij _)
theorem Inv.cne (I:Inv X pins σ H s):∀x c,X.env.cells.lookup x=some c->c≠X.env.locals:=λx c e z=>by obtain⟨v,o,ho,hd⟩:=I.cell x c e;obtain⟨m,⟨o',es,ep,Es,Cy,_⟩,_⟩:=I.loc;rw[z,Es]at ho;cases ho;rw[Cy]at hd;cases hd
theorem Inv.funs (I:Inv X pins σ H s):s.heap.FunFrames X.base X.outer:=by
 have all:∀(l:List Env),(∀b∈dZ l,b∈X.fs)->X.s₀.heap.FunFrames X.base l->s.heap.FunFrames X.base l:=by
  intro l
  induction l with
  |nil=>intro _ _;trivial
  |cons env r ih=>intro hs hl;obtain⟨hk,⟨L,o,hf,hn,ho,hd⟩,hr⟩:=hl;have hL:L∈X.fs:=hs L (by unfold dZ;rw[br,hf];exact bg);obtain⟨sl,e⟩:=I.base.slot L o ho (I.ok.frf L hL) hL λz=>I.ok.exfs L z hL;exact⟨hk,⟨L,_,hf,hn,e,hd⟩,ih (λb hb=>hs b (by unfold dZ;rw[br,hf];exact au _ hb)) hr⟩
 exact all X.outer (λ_ hb=>hb) I.ok.funs
theorem Inv.stack (I:Inv X pins σ H s):s.heap.FunFrames X.base X.stack:=by
 rcases I.ok.stk with e|⟨e,hf⟩
 ·rw[e];exact I.funs
 ·rw[e];obtain⟨m,hn,_⟩:=I.loc;refine .cons (by rw[I.ok.kind];decide) hf hn ?_ I.funs;exact Heap.get?_none_of_le (df I.ok.bsz I.ok.above)
theorem Inv.stkSub (I:Inv X pins σ H s):∀b∈dZ X.stack,b∈X.env.locals::X.fs:=λb hb=>by
 rcases I.ok.stk with e|⟨e,hf⟩
 ·rw[e]at hb;exact au _ hb
 ·rw[e]at hb;unfold dZ at hb;rw[br,hf]at hb;exact hb
theorem Inv.stkFree (I:Inv X pins σ H s):∀b∈dZ X.stack,H b=none:=λb hb=>by
 rcases bh.mp (I.stkSub b hb)with e|hb
 ·rw[e];exact I.free
 ·obtain⟨_,o,ho,_⟩:=I.ok.funs.mem hb;exact I.base.free b o ho (I.ok.frf b hb) λz=>I.ok.exfs b z hb
theorem Inv.step {g':Array GenState}{t':Nat}{d':Drawn}{ch:List ah}(I:Inv X pins σ H s)
  (Eg:∀b∈ch,(b∈X.ex∨X.s₀.heap.objs.size<=b)/\b≠X.env.locals/\(∀x c,X.env.cells.lookup x=some c->c≠b)/\∀p∈X.pn++pins,p.1≠b)
  (keep:∀b o,b≠X.env.locals->b∉X.fs->b∉ch->s.heap.get? b=some o->H b=none->h'.get? b=some o)
  (slot:∀b o,b≠X.env.locals->b∈X.fs->b∉ch->s.heap.get? b=some o->H b=none->∃sl,h'.get? b=some { o with slots:=sl }) (free:∀b o,b∉ch->s.heap.get? b=some o->H b=none->H' b=none)
  (there:∀b o,b∉ch->s.heap.get? b=some o->∃o',h'.get? b=some o')
  (tups:∀b xs,H b=some (.tup xs)->H' b=some (.tup xs)) (frzs:∀b o u,H b=some (.frz o u)->H' b=some (.frz o u)) (tbls:∀b ps,H b=some (.tbl ps)->∃more,H' b=some (.tbl (ps++more)))
  (ns:∀m,s.heap.Ns X.env.locals m->h'.Ns X.env.locals m) (hok:Ci X.prog X.w H' h') (hg:ue g'):
  Inv X pins σ H' { s with heap:=h',gens:=g',drawn:=d',toks:=t' }:=by
 have neL:∀b o,X.s₀.heap.get? b=some o->b≠X.env.locals:=λb o e=>az (av (aq e) I.ok.above);have neC:∀b o,X.s₀.heap.get? b=some o->b∉X.ex->b∉ch:=λb o e hx hb=>by
  rcases(Eg b hb).1 with z|z
  ·exact hx z
  ·exact absurd (av (aq e) z) (ij _)
 have cellK:∀x c,X.env.cells.lookup x=some c->∀v,s.heap.IsCell c v->h'.IsCell c v:=λx c e v ⟨o,ho,hd⟩=>by
  have nch:c∉ch:=λz=>(Eg c z).2.2.1 x c e rfl
  by_cases hc:c∈X.fs
  ·obtain⟨sl,q⟩:=slot c o (I.cne x c e) hc nch ho (I.freeC x c e);exact⟨_,q,hd⟩
  ·exact⟨o,keep c o (I.cne x c e) hc nch ho (I.freeC x c e),hd⟩
 refine⟨I.ok,I.os,hg,⟨λb o e n hb hx=>?_,λb o e n hb hx=>?_,λb o e n hx=>?_,λb o e hx=>?_,λb xs e=>tups b xs (I.base.tups b xs e),λb o xs e=>frzs b o xs (I.base.frzs b o xs e),λb ps e=>?_⟩, ?_,λx c e=>?_, ?_,λx c e=>?_,λp hp=>?_,hok,I.len⟩
 ·exact keep b o (neL b o e) hb (neC b o e hx) (I.base.keep b o e n hb hx) (I.base.free b o e n hx)
 ·obtain⟨sl,e1⟩:=I.base.slot b o e n hb hx;obtain⟨sl',e2⟩:=slot b _ (neL b o e) hb (neC b o e hx) e1 (I.base.free b o e n hx);exact⟨sl',e2⟩
 ·obtain⟨o',e1⟩:=I.base.there b o e hx;exact free b o' (neC b o e hx) e1 (I.base.free b o e n hx)
 ·obtain⟨o',e1⟩:=I.base.there b o e hx;exact there b o' (neC b o e hx) e1
 ·obtain⟨m1,e1⟩:=I.base.tbls b ps e;obtain⟨m2,e2⟩:=tbls b _ e1;exact⟨m1++m2,by rw[e2,Array.append_assoc]⟩
 ·obtain⟨m,hn,hl⟩:=I.loc;refine⟨m,ns m hn,λi x v e1 e2 e3=>?_⟩;obtain⟨u,r,l⟩:=hl i x v e1 e2 e3;refine⟨u,r, ?_⟩
  rcases l with l|⟨k,c,e,z⟩
  ·exact .inl l
  ·exact .inr ⟨k,c,e,cellK x c e _ z⟩
 ·obtain⟨v,z⟩:=I.cell x c e;exact⟨v,cellK x c e v z⟩
 ·obtain⟨m,⟨o,_,_,ho,_⟩,_⟩:=I.loc;exact free _ o (λz=>(Eg _ z).2.1 rfl) ho I.free
 ·obtain⟨v,o,ho,hd⟩:=I.cell x c e;exact free c o (λz=>(Eg c z).2.2.1 x c e rfl) ho (I.freeC x c e)
 ·obtain⟨e,n,ne,nf,d⟩:=I.pin p hp;have nch:p.1∉ch:=λz=>(Eg p.1 z).2.2.2 p hp rfl;exact⟨keep p.1 p.2 ne nf nch e n,free p.1 p.2 nch e n,ne,nf,d⟩
theorem Inv.un {t':Nat}(I:Inv X pins σ H s) (u:Un X.fs [] H H' s.heap h') (hok:Ci X.prog X.w H' h'):Inv X pins σ H' { s with heap:=h',toks:=t' }:=by obtain⟨m,⟨o,es,ep,ho,r⟩,_⟩:=id I.loc;obtain⟨sl,hL⟩:=u.any ho I.free (by simp);exact I.step (g':=s.gens) (d':=s.drawn) (ch:=[]) (λ_ z=>nomatch z) (λb o _ hb _ e n=>u.keep b o e n hb (by simp)) (λb o _ hb _ e n=>u.slot b o e n hb (by simp)) (λb o _ e n=>u.free b o e n (by simp)) (λb o _ e=>u.there b o e (by simp)) u.tups u.frzs u.tbls (λm' hm=>by obtain⟨o',es',ep',Es,r'⟩:=hm;rw[ho]at Es;cases Es;exact⟨_,es',ep',hL,r'⟩) hok I.bare
theorem Inv.call {g':Array GenState}{t':Nat}{d':Drawn}{ch:List ah}(I:Inv X pins σ H s) (u:Un (dZ X.stack) ch H H' s.heap h') (hok:Ci X.prog X.w H' h') (hg:ue g')
  (Eg:∀b∈ch,(b∈X.ex∨X.s₀.heap.objs.size<=b)/\b≠X.env.locals/\(∀x c,X.env.cells.lookup x=some c->c≠b)/\∀p∈X.pn++pins,p.1≠b):
  Inv X pins σ H' { s with heap:=h',gens:=g',drawn:=d',toks:=t' }:=by
 obtain⟨m,⟨o,es,ep,ho,r⟩,_⟩:=id I.loc;obtain⟨sl,hL⟩:=u.any ho I.free λz=>(Eg _ z).2.1 rfl;exact I.step (ch:=ch) Eg (λb o hL hb hc e n=>u.keep b o e n (λz=>(bh.mp (I.stkSub b z)).elim hL hb) hc) (λb o _ _ hc e n=>u.any e n hc) (λb o hc e n=>u.free b o e n hc) (λb o hc e=>u.there b o e hc) u.tups u.frzs u.tbls (λm' hm=>by obtain⟨o',es',ep',Es,r'⟩:=hm;rw[ho]at Es;cases Es;exact⟨_,es',ep',hL,r'⟩) hok hg
theorem Inv.turned {t':Nat}{it:ah}(I:Inv X pins σ H s) (k:∀b o,b≠it->s.heap.get? b=some o->h'.get? b=some o) (hn:H it=none) (hL:it≠X.env.locals)
  (h1:it∈X.ex∨X.s₀.heap.objs.size<=it) (h2:∀x c,X.env.cells.lookup x=some c->c≠it) (h3:∀p∈X.pn++pins,p.1≠it):Inv X pins σ H { s with heap:=h',toks:=t' }:=by
 have nit:∀b u,H b=some u->b≠it:=λb u e z=>by rw[z,hn]at e;cases e
 refine I.step (g':=s.gens) (d':=s.drawn) (ch:=[it]) (λb hb=>?_) (λb o _ _ hc e _=>k b o (λz=>hc (by simp[z])) e) (λb o _ _ hc e _=>⟨o.slots,k b o (λz=>hc (by simp[z])) e⟩) (λ_ _ _ _ n=>n)
  (λb o hc e=>⟨o,k b o (λz=>hc (by simp[z])) e⟩) (λ_ _ e=>e) (λ_ _ _ e=>e) (λb ps e=>⟨#[],by rw[e];simp⟩) (λm hm=>?_) (λb u e=>?_) I.bare
 ·have e:b=it:=by simpa using hb
  subst e;exact⟨h1,hL,h2,h3⟩
 ·obtain⟨o,es,ep,ho,r⟩:=hm;exact⟨o,es,ep,k _ o (dh hL) ho,r⟩
 ·refine(I.hok b u e).stay (λc v hc q=>k c v ?_ q) (λ_ q=>q) λ_ _ q=>q
  rcases hc with z|z
  ·rw[z];exact nit b u e
  ·exact nit c _ z
theorem Inv.tok (I:Inv X pins σ H s) (t:Nat):Inv X pins σ H { s with toks:=t }:=I.un (h':=s.heap) (t':=t) Un.refl I.hok
theorem Inv.kept {t':Nat}(I:Inv X pins σ H s) (k:∀b u,s.heap.get? b=some u->h'.get? b=some u):Inv X pins σ H { s with heap:=h',toks:=t' }:=I.un (Un.kept k) (I.hok.kept k)
theorem Inv.laid {a:ah}{o:HO}{t':Nat}(I:Inv X pins σ H s) (k:∀b u,s.heap.get? b=some u->h'.get? b=some u) (hp:s.heap.objs.size<=a) (new:Bh X.prog X.w (aT H a o) h' a o):
  Inv X pins σ (aT H a o) { s with heap:=h',toks:=t' }:=I.un (Un.laid k hp (I.hok.fresh hp)) (I.hok.laid k hp new)
theorem Inv.write {x e:ah}{o:HO}{t':Nat}(I:Inv X pins σ H s) (mu:vY (H x)) (he:e=x∨H e=some (.own x)) (k:∀b u,b≠e->s.heap.get? b=some u->h'.get? b=some u) (heo:∃u,h'.get? e=some u)
  (new:Bh X.prog X.w (aT H x o) h' x o):Inv X pins σ (aT H x o) { s with heap:=h',toks:=t' }:=I.un (Un.write mu he k heo) (I.hok.write mu he k heo new)
theorem Inv.pins_of {pins':List (ah×Obj)}(I:Inv X pins σ H s) (h:∀p∈pins',s.heap.get? p.1=some p.2/\H p.1=none/\p.1≠X.env.locals/\p.1∉X.fs/\∀v,p.2.data≠.cell v):Inv X pins' σ H s:=⟨I.ok,I.os,I.bare,I.base,I.loc,I.cell,I.free,I.freeC,λp hp=>(cz.mp hp).elim (λz=>I.pin p (ic _ z)) (h p),I.hok,I.len⟩
theorem AZ {N:Au}(hN:N.Nodup) {i j:Nat}{x:Str}(a:N[i]?=some x) (b:N[j]?=some x):i=j:=by obtain⟨h1,e1⟩:=ax.mp a;obtain⟨h2,e2⟩:=ax.mp b;exact(List.getElem_inj hN).mp (e1.trans e2.symm)
theorem GP {M:yr}{A:cm}{E:af->ag->Prop}{i:Nat}{x:Str}{v:V}{u:af}{Q:Unit->ag->Prop}(I:Inv X pins σ H s) (hN:X.N.Nodup) (hi:X.N[i]?=some x) (hx:lL X.env.scope x) (r:RelV v u)
  (h:∀s',Inv X pins (σ.set i (some v)) H s'->(∃a,jf a s.heap s'.heap/\(a=X.env.locals∨X.env.cells.lookup x=some a))->Q () s') (hf:X.fn x=true∨X.env.scope.names.lookup x=some .local:=by first|exact .inl rfl|exact .inr rfl|assumption):wpAny M A (storeName X.env x u) Q E s:=by
 obtain⟨m,hn,hl⟩:=id I.loc;have hcls:(X.env.scope.kind==.class||(X.env.scope.kind==.module&&X.env.locals != X.env.globals))=false:=by rw[I.ok.kind];rfl
 have hiσ:i<σ.length:=by rw[I.len];exact(ax.mp hi).1
 have cne:=I.cne;have tracked:∀{a:ah}{h':cx},(∃o,s.heap.get? a=some o/\H a=none)->jf a s.heap h'->Ci X.prog X.w H h':=λ{a h'} ha hs b ob e=>by
  obtain⟨_,_,hfree⟩:=ha;refine(I.hok b ob e).stay (λc w' hc q=>(hs.2 c ?_).trans q) (λ_ q=>q) λ_ _ q=>q
  rintro rfl
  rcases hc with rfl|hc
  ·rw[hfree]at e;cases e
  ·rw[hfree]at hc;cases hc
 rcases hx with hk|hk
 ·refine wpAny_storeName_local hk hn (λh' hn' hs=>?_) hcls;obtain⟨oL,_,_,hoL,_⟩:=id hn;refine h _ ⟨I.ok,I.os,I.bare,⟨λb o e n hb hx=>?_,λb o e n hb hx=>?_,I.base.free,λb o e hx=>?_,I.base.tups,I.base.frzs,I.base.tbls⟩,⟨_,hn',λj y v' e1 e2 e3=>?_⟩,λy c e=>?_,I.free,I.freeC,λp hp=>?_,tracked ⟨oL,hoL,I.free⟩ hs,by simpa using I.len⟩ ⟨_,hs,.inl rfl⟩
  ·exact(hs.2 b (az (av (aq e) I.ok.above))).trans (I.base.keep b o e n hb hx)
  ·obtain⟨sl,e1⟩:=I.base.slot b o e n hb hx;exact⟨sl,(hs.2 b (az (av (aq e) I.ok.above))).trans e1⟩
  ·obtain⟨o',e1⟩:=I.base.there b o e hx;exact⟨o',(hs.2 b (az (av (aq e) I.ok.above))).trans e1⟩
  ·by_cases hj:j=i
   ·subst hj;rw[hi]at e1;cases e1;rw[dg hiσ]at e2;cases e2;exact⟨u,r,.inl ⟨hk,by simp⟩⟩
   ·rw[dw (dh hj)]at e2;obtain⟨u',r',q⟩:=hl j y v' e1 e2 e3;refine⟨u',r', ?_⟩
    rcases q with⟨k,e⟩|⟨k,c,e,z⟩
    ·refine .inl ⟨k, ?_⟩;have:y≠x:=λe=>hj (AZ hN e1 (e▸hi));simp[this,e]
    ·exact .inr ⟨k,c,e,z.sameBut hs (cne y c e)⟩
  ·obtain⟨w',z⟩:=I.cell y c e;exact⟨w',z.sameBut hs (cne y c e)⟩
  ·obtain⟨e,n,ne,nf,d⟩:=I.pin p hp;exact⟨(hs.2 p.1 ne).trans e,n,ne,nf,d⟩
 ·have hfn:X.fn x=true:=by
   rcases hf with z|z
   ·exact z
   ·rw[z]at hk;cases hk
  obtain⟨c,hc⟩:=I.ok.has x (.inl hk);obtain⟨w',z⟩:=I.cell x c hc;refine wpAny_storeName_cell I.ok.kind hk hc z (λh' hc' hs=>?_);obtain⟨oc,hoc,hocd⟩:=id z;refine h { s with heap:=h' } ⟨I.ok,I.os,I.bare,⟨λb o e n hb hx=>?_,λb o e n hb hx=>?_,I.base.free,λb o e hx=>?_,I.base.tups,I.base.frzs,I.base.tbls⟩,⟨m,hn.sameBut hs (dh (cne x c hc)),λj y v' e1 e2 e3=>?_⟩,λy c' e=>?_,I.free,I.freeC,λp hp=>?_,tracked ⟨oc,hoc,I.freeC x c hc⟩ hs,by simpa using I.len⟩ ⟨c,hs,.inr hc⟩
  ·exact(hs.2 b (az (av (aq e) (I.ok.cab x c hfn hc)))).trans (I.base.keep b o e n hb hx)
  ·obtain⟨sl,e1⟩:=I.base.slot b o e n hb hx;exact⟨sl,(hs.2 b (az (av (aq e) (I.ok.cab x c hfn hc)))).trans e1⟩
  ·obtain⟨o',e1⟩:=I.base.there b o e hx;exact⟨o',(hs.2 b (az (av (aq e) (I.ok.cab x c hfn hc)))).trans e1⟩
  ·by_cases hj:j=i
   ·subst hj;rw[hi]at e1;cases e1;rw[dg hiσ]at e2;cases e2;exact⟨u,r,.inr ⟨.inl hk,c,hc,hc'⟩⟩
   ·rw[dw (dh hj)]at e2;obtain⟨u',r',q⟩:=hl j y v' e1 e2 e3;refine⟨u',r', ?_⟩
    rcases q with q|⟨k,c',e,z'⟩
    ·exact .inl q
    ·refine .inr ⟨k,c',e,z'.sameBut hs ?_⟩
     rintro rfl
     exact hj (AZ hN e1 (I.ok.inj _ _ _ e hc▸hi))
  ·by_cases hcc:c'=c
   ·subst hcc;exact⟨_,hc'⟩
   ·obtain⟨w2,z2⟩:=I.cell y c' e;exact⟨w2,z2.sameBut hs hcc⟩
  ·obtain⟨e,n,ne,nf,d⟩:=I.pin p hp;refine⟨(hs.2 p.1 ?_).trans e,n,ne,nf,d⟩;intro q;rw[q,hoc]at e;have q':oc=p.2:=cw e;exact d w' (by rw[<-q'];exact hocd)
theorem A0 {M:yr}{A:cm}{E:af->ag->Prop}{i:Nat}{x:Str}{v:V}{u:af}{Q:Unit->ag->Prop}(I:Inv X pins σ H s) (hN:X.N.Nodup) (hi:X.N[i]?=some x) (hx:lL X.env.scope x) (r:RelV v u)
  (h:∀s',Inv X pins (σ.set i (some v)) H s'->Q () s') (hf:X.fn x=true∨X.env.scope.names.lookup x=some .local:=by first|exact .inl rfl|exact .inr rfl|assumption):wpAny M A (storeName X.env x u) Q E s:=
 GP I hN hi hx r (λs' I' _=>h s' I') hf
theorem Inv.call' {s':ag}{ch:List ah}(I:Inv X pins σ H s) (ho:s'.os=s.os) (u:Un (dZ X.stack) ch H H' s.heap s'.heap) (hok:Ci X.prog X.w H' s'.heap) (hg:ue s'.gens)
  (Eg:∀b∈ch,(b∈X.ex∨X.s₀.heap.objs.size<=b)/\b≠X.env.locals/\(∀x c,X.env.cells.lookup x=some c->c≠b)/\∀p∈X.pn++pins,p.1≠b):Inv X pins σ H' s':=by
 obtain⟨h',g',d',t',o'⟩:=s';have e:o'=s.os:=ho;subst e;exact I.call (g':=g') (t':=t') (d':=d') u hok hg Eg
end
abbrev XK:=af->Option ah->Hp->Prop
abbrev St:=List (Option V)
abbrev VK:=V->Hp->Prop
abbrev TE:=St->Hp->VK->Prop
abbrev TT:=St->Hp->(Bool->Hp->Prop)->Prop
abbrev TA:=St->Hp->(List V->Hp->Prop)->Prop
structure Ends where
 nx:St->Hp->Prop
 rt:VK
 bk:St->Hp->Prop:=λ_ _=>False
 ct:St->Hp->Prop:=λ_ _=>False
abbrev TS:=Ends->St->Hp->Prop
def EP (X:Cx) (pins:List (ah×Obj)) (σ:St) (Q:VK) (u:af) (s':ag):Prop:=∃v H',Inv X pins σ H' s'/\RelV v u/\Q v H'
def TP (X:Cx) (pins:List (ah×Obj)) (σ:St) (Q:Bool->Hp->Prop) (b:Bool) (s':ag):Prop:=∃H',Inv X pins σ H' s'/\Q b H'
def AP (X:Cx) (pins:List (ah×Obj)) (σ:St) (Q:List V->Hp->Prop) (us:List af) (s':ag):Prop:=∃vs H',Inv X pins σ H' s'/\Bd vs us/\Q vs H'
def SP (X:Cx) (pins:List (ah×Obj)) (D:Ends) (f:Flow) (s':ag):Prop:=
 match f with
 | .next=>∃σ' H',Inv X pins σ' H' s'/\D.nx σ' H'
 | .brk=>∃σ' H',Inv X pins σ' H' s'/\D.bk σ' H'
 | .cont=>∃σ' H',Inv X pins σ' H' s'/\D.ct σ' H'
 | .ret u=>∃v σ' H',Inv X pins σ' H' s'/\RelV v u/\D.rt v H'
def PE (X:Cx) (e:bo) (t:TE):Prop:=∀(pins:List (ah×Obj)) (s:ag) (σ:St) (H:Hp) (Q:VK),Inv X pins σ H s->t σ H Q->wpAny (model X.prog X.w) X.A (eval e X.env) (EP X pins σ Q) X.xe s
def PT (X:Cx) (e:bo) (t:TT):Prop:=∀(pins:List (ah×Obj)) (s:ag) (σ:St) (H:Hp) (Q:Bool->Hp->Prop),Inv X pins σ H s->t σ H Q->wpAny (model X.prog X.w) X.A (isTrue e X.env (eval e X.env)) (TP X pins σ Q) X.xe s
def PW (X:Cx) (e:bo) (t:TT):Prop:=∀(whole:Sem af) (pins:List (ah×Obj)) (s:ag) (σ:St) (H:Hp) (Q:Bool->Hp->Prop),Inv X pins σ H s->t σ H Q->wpAny (model X.prog X.w) X.A (isTrue e X.env whole) (TP X pins σ Q) X.xe s
theorem PW.pt {X:Cx}{e:bo}{t:TT}(h:PW X e t):PT X e t:=h _
def PA (X:Cx) (es:List bo) (t:TA):Prop:=∀(pos:Pos) (pins:List (ah×Obj)) (s:ag) (σ:St) (H:Hp) (Q:List V->Hp->Prop),Inv X pins σ H s->t σ H Q->wpAny (model X.prog X.w) X.A (spliced (backTo pos (ar es X.env))) (AP X pins σ Q) X.xe s
def PS (X:Cx) (st:gz) (t:TS):Prop:=∀(pins:List (ah×Obj)) (s:ag) (σ:St) (H:Hp) (D:Ends),Inv X pins σ H s->t D σ H->wpAny (model X.prog X.w) X.A (exec st X.env) (SP X pins D) X.xe s
def Fe (X:Cx) (st:List gz) (t:TS):Prop:=∀(pins:List (ah×Obj)) (s:ag) (σ:St) (H:Hp) (D:Ends),Inv X pins σ H s->t D σ H->wpAny (model X.prog X.w) X.A (execs st X.env) (SP X pins D) X.xe s
theorem bD {α:Type}{t:Sem α}{Q Q':α->ag->Prop}{M:yr}{A:cm}{E:af->ag->Prop}{s:ag}(h:wpAny M A t Q E s) (hQ:∀a s,Q a s->Q' a s):wpAny M A t Q' E s:=ku h hQ λ_ _ x=>x
section
variable{X:Cx}
def QZ (i:Nat):TE:=λσ H Q=>∃v,σ[i]?=some (some v)/\Q v H
def tC (v:V):TE:=λ_ H Q=>Q v H
theorem wB {i:Nat}{x:Str}{pos:Pos}(hN:X.N[i]?=some x) (hv:mV X.env.scope x) (hd:(x==("__debug__" : Str))=false:=by decide) (hcd:(x==("__classdict__" : Str))=false:=by decide):PE X (.Name x pos) (QZ i):=by
 intro pins s σ H Q I h;obtain⟨v,e,h⟩:=h;obtain⟨m,hn,hl⟩:=I.loc;obtain⟨u,r,l⟩:=hl i x v hN e hv;have fin:EP X pins σ Q u s:=⟨v,H,I,r,h⟩
 rcases l with⟨hk,hm⟩|⟨hk,c,hc,hcell⟩
 ·exact wpAny_Name (wpAny_loadName_local I.ok.kind hk hn hm fin) hd
 ·rcases hk with hk|hk
  ·exact wpAny_Name (wpAny_loadName_cell I.ok.kind hk hc hcell fin) hd
  ·exact wpAny_Name (wpAny_loadName_free I.ok.kind hk hc hcell fin hcd) hd
theorem GQ {i j pos}:PE X (.Constant (.int i) j pos) (tC (.int i)):=λ_ _ _ H _ I h=>wpAny_Constant_int ⟨.int i,H,I.tok _,⟨_,rfl⟩,h⟩
theorem Q0 {b j pos}:PE X (.Constant (.bool b) j pos) (tC (.bl b)):=λ_ _ _ H _ I h=>Constant_bool ⟨.bl b,H,I,rfl,h⟩
theorem GR {j pos}:PE X (.Constant .none j pos) (tC .non):=λ_ _ _ H _ I h=>Constant_none ⟨.non,H,I,rfl,h⟩
theorem Q2 {x j pos}:PE X (.Constant (.str x) j pos) (tC (.str x)):=λ_ _ _ H _ I h=>Calls.Constant_str ⟨.str x,H,I.tok _,⟨_,rfl⟩,h⟩
def Gl (X:Cx) (x:Str):Prop:=X.env.kindOf x=some .globalImplicit
theorem wC {E:af->ag->Prop}{pins:List (ah×Obj)}{s:ag}{σ:St}{H:Hp}{x:Str}{u:af}{pos:Pos}{Q:af->ag->Prop}(I:Inv X pins σ H s) (hg:Gl X x) (hm:X.mg x=some u) (h:Q u s)
  (hd:(x==("__debug__" : Str))=false:=by decide):wpAny (model X.prog X.w) X.A (eval (.Name x pos) X.env) Q E s:=
 Calls.Name_function_global I.ok.kind hg (Calls.loadGlobal_global (by rw[I.ok.glob];exact I.mod.glob.keeps I.bk) hm h) hd
theorem nW {E:af->ag->Prop}{pins:List (ah×Obj)}{s:ag}{σ:St}{H:Hp}{x:Str}{u:af}{pos:Pos}{Q:af->ag->Prop}(I:Inv X pins σ H s) (hg:Gl X x) (hm:X.mg x=none) (hv:dy x=some u) (h:Q u s)
  (hn:x ≠ "__name__" := by decide) (hd:(x==("__debug__" : Str))=false:=by decide):wpAny (model X.prog X.w) X.A (eval (.Name x pos) X.env) Q E s:=by
 obtain⟨mb,h1,h2⟩:=I.mod.blt;exact Calls.Name_function_global I.ok.kind hg (Calls.loadGlobal_builtin (by rw[I.ok.glob];exact I.mod.glob.keeps I.bk) hm (by rw[I.ok.blt];exact h1.keeps I.bk) ((h2 x hn).trans hv) h) hd
theorem GS {x:Str}{v:V}{u:af}{pos:Pos}(hg:Gl X x) (hm:X.mg x=some u) (r:RelV v u) (hd:(x==("__debug__" : Str))=false:=by decide):PE X (.Name x pos) (tC v):=λ_ _ _ H _ I h=>wC I hg hm ⟨v,H,I,r,h⟩ hd
variable{a b:bo}{ta tb:TE}{pos:Pos}
def tB (t:TE):TT:=λσ H Q=>t σ H λx H1=>∃c,x=.bl c/\Q c H1
variable{tA tB':TT}{rest:List bo}
def GU (t u:TT):TT:=λσ H Q=>t σ H λc H1=>if c=true then u σ H1 Q else Q false H1
def GV (t u:TT):TT:=λσ H Q=>t σ H λc H1=>if c=true then Q true H1 else u σ H1 Q
def Q3 (t:TT):TT:=λσ H Q=>t σ H λc H1=>Q (!c) H1
theorem Q4 (ha:PT X a tA):PW X (.BoolOp .And [a] pos) tA:=by
 intro wh pins s σ H Q I h;refine isTrue_and (bD (ha pins s σ H Q I h) λc s1 e=>?_)
 cases c with
 |true=>exact isTrue_and_nil e
 |false=>exact e
theorem Q5 (ha:PT X a tA):PW X (.BoolOp .Or [a] pos) tA:=by
 intro wh pins s σ H Q I h;refine isTrue_or (bD (ha pins s σ H Q I h) λc s1 e=>?_)
 cases c with
 |false=>exact isTrue_or_nil e
 |true=>exact e
theorem Q6 (ha:PT X a tA) (hb:PW X (.BoolOp .And (b::rest) pos) tB'):PW X (.BoolOp .And (a::b::rest) pos) (GU tA tB'):=by
 intro wh pins s σ H Q I h;refine isTrue_and (bD (ha pins s σ H _ I h) λc s1 ⟨H1,I1,q1⟩=>?_)
 cases c with
 |true=>exact hb wh pins s1 σ H1 Q I1 q1
 |false=>exact⟨H1,I1,q1⟩
theorem Q7 (ha:PT X a tA) (hb:PW X (.BoolOp .Or (b::rest) pos) tB'):PW X (.BoolOp .Or (a::b::rest) pos) (GV tA tB'):=by
 intro wh pins s σ H Q I h;refine isTrue_or (bD (ha pins s σ H _ I h) λc s1 ⟨H1,I1,q1⟩=>?_)
 cases c with
 |true=>exact⟨H1,I1,q1⟩
 |false=>exact hb wh pins s1 σ H1 Q I1 q1
theorem Q8 (ha:PT X a tA):PT X (.UnaryOp .Not a pos) (Q3 tA):=by intro pins s σ H Q I h;exact isTrue_not (ha pins s σ H (λc H1=>Q (!c) H1) I h)
def Q9 (ta tb:TE):TE:=λσ H Q=>ta σ H λx H1=>∃c,x=.bl c/\if c=true then tb σ H1 Q else Q (.bl false) H1
def RA (ta:TE):TE:=λσ H Q=>ta σ H λx H1=>∃c,x=.bl c/\Q (.bl (!c)) H1
theorem RC {op} {t:TE}(h:PE X a t):PE X (.BoolOp op [a] pos) t:=λpins s σ H Q I hw=>BoolOp_one (h pins s σ H Q I hw)
theorem RD (ha:PE X a ta) (hb:PE X (.BoolOp .And (b::rest) pos) tb):PE X (.BoolOp .And (a::b::rest) pos) (Q9 ta tb):=by
 intro pins s σ H Q I h;refine BoolOp_and (bD (ha pins s σ H _ I h) λv s1 ⟨x,H1,I1,r1,q1⟩=>?_);obtain⟨c,rfl,q1⟩:=q1;cases r1;refine kn ?_
 cases c with
 |true=>exact hb pins s1 σ H1 Q I1 q1
 |false=>exact⟨.bl false,H1,I1,rfl,q1⟩
theorem RE (ha:PE X a ta):PE X (.UnaryOp .Not a pos) (RA ta):=by intro pins s σ H Q I h;refine UnaryOp_ (bD (ha pins s σ H _ I h) λv s1 ⟨x,H1,I1,r1,q1⟩=>?_);obtain⟨c,rfl,q1⟩:=q1;cases r1;exact not_of (kn ⟨.bl (!c),H1,I1,rfl,q1⟩)
end
def Bs (K:ao) (H:Hp) (a:ah) (xs:List V):Prop:=
 Rd H a (.lst xs) ∨
  ∃(o:Obj) (its:Array af) (n:Nat),K.lookup a=some o/\o.cls=.type "list"/\o.dict=none/\o.data=.seq its n/\its.size<=cf/\Bd xs its.toList
def Bp (K:ao) (H:Hp) (a:ah) (xs:List V):Prop:=
 Rd H a (.tup xs) ∨
  ∃(o:Obj) (its:Array af) (n:Nat),K.lookup a=some o/\o.cls=.type "tuple"/\o.data=.seq its n/\its.size<=cf/\Bd xs its.toList
def RF:af->Option V
 | .none=>some .non
 | .bool b=>some (.bl b)
 | .int i _=>some (.int i)
 | .str x _=>some (.str x)
 | .bytes b _=>some (.byt b)
 | .float b _=>some (.flt b)
 | .ref a=>some (.ref a)
 | .type n=>some (.ty n)
 |_=>none
theorem RelV.abs {x:V}{u:af}(r:RelV x u):RF u=some x:=by
 cases x with
 |non=>cases r;rfl
 |bl _=>cases r;rfl
 |int _=>obtain⟨t,rfl⟩:=r;rfl
 |str _=>obtain⟨t,rfl⟩:=r;rfl
 |byt _=>obtain⟨t,rfl⟩:=r;rfl
 |flt _=>obtain⟨t,rfl⟩:=r;rfl
 |ref _=>cases r;rfl
 |ty _=>cases r;rfl
theorem RelV.inj {x y:V}{u:af}(r:RelV x u) (q:RelV y u):x=y:=cw (r.abs.symm.trans q.abs)
theorem Bd.inj:∀{xs ys:List V}{us:List af},Bd xs us->Bd ys us->xs=ys
 |_,_,_,.nil,.nil=>rfl
 |_,_,_,.cons r t,.cons r' t'=>by rw[r.inj r',Bd.inj t t']
section
variable{X:Cx}{pins:List (ah×Obj)}{σ:St}{H:Hp}{s:ag}{a:ah}{xs ys:List V}
theorem Bs.of {K:ao}(h:H a=some (.lst xs)):Bs K H a xs:=.inl (.inl h)
theorem Bp.of {K:ao}(h:H a=some (.tup xs)):Bp K H a xs:=.inl (.inl h)
theorem Inv.list (I:Inv X pins σ H s) (h:Bs X.K H a xs):∃its:List af,Bd xs its/\PlainL s.heap a its.toArray/\xs.length<=cf:=by
 rcases h with h|⟨o,its,n,hk,hc,hd,hs,hz,r⟩
 ·obtain⟨z,its,n,r,e⟩:=h.ok I.hok;exact⟨its,r,⟨_,n,e,rfl,rfl,rfl⟩,z⟩
 ·refine⟨its.toList,r,⟨o,n,I.kIn a o hk,hc,hd,by simpa using hs⟩, ?_⟩;have e:=r.length;simp only[nc]at e;omega
theorem Inv.tuple (I:Inv X pins σ H s) (h:Bp X.K H a xs):∃its:List af,Bd xs its/\zg s.heap a its.toArray/\xs.length<=cf:=by
 rcases h with h|⟨o,its,n,hk,hc,hs,hz,r⟩
 ·obtain⟨z,its,r,p⟩:=h.ok I.hok;exact⟨its,r,p.tup,z⟩
 ·refine⟨its.toList,r,⟨o,I.kIn a o hk,hc,n,by simpa using hs⟩, ?_⟩;have e:=r.length;simp only[nc]at e;omega
theorem Inv.list_inj (I:Inv X pins σ H s) (h:Bs X.K H a xs) (h':Bs X.K H a ys):xs=ys:=by
 obtain⟨its,r,⟨o,n,e,_,_,d⟩,_⟩:=I.list h;obtain⟨its',r',⟨o',n',e',_,_,d'⟩,_⟩:=I.list h';rw[e]at e';cases e';rw[d]at d';injection d' with d1 _;have:its=its':=by simpa using congrArg Array.toList d1
 subst this;exact r.inj r'
theorem Inv.tuple_inj (I:Inv X pins σ H s) (h:Bp X.K H a xs) (h':Bp X.K H a ys):xs=ys:=by
 obtain⟨its,r,⟨o,e,_,n,d⟩,_⟩:=I.tuple h;obtain⟨its',r',⟨o',e',_,n',d'⟩,_⟩:=I.tuple h';rw[e]at e';cases e';rw[d]at d';injection d' with d1 _;have:its=its':=by simpa using congrArg Array.toList d1
 subst this;exact r.inj r'
end
abbrev Cx.wish (X:Cx) (E:af->ag->Prop):Cx:={ X with xe:=E }
abbrev Cx.nox (X:Cx):Cx:=X.wish λ_ _=>False
theorem Cx.Ok.wish {X:Cx}(ok:X.Ok) (E:af->ag->Prop):(X.wish E).Ok:=⟨ok.mod,ok.kind,ok.glob,ok.blt,ok.above,ok.inj,ok.has,ok.cab,ok.hd,ok.frames,ok.stk,ok.exf,ok.bs,ok.bsz,ok.noex,ok.exfs,ok.funs,ok.frf⟩
theorem Cx.Ok.unwish {X:Cx}{E:af->ag->Prop}(ok:(X.wish E).Ok):X.Ok:=⟨ok.mod,ok.kind,ok.glob,ok.blt,ok.above,ok.inj,ok.has,ok.cab,ok.hd,ok.frames,ok.stk,ok.exf,ok.bs,ok.bsz,ok.noex,ok.exfs,ok.funs,ok.frf⟩
section
variable{X:Cx}{pins:List (ah×Obj)}{σ:St}{H:Hp}{s:ag}{E:af->ag->Prop}
theorem Inv.wish (I:Inv X pins σ H s) (E:af->ag->Prop):Inv (X.wish E) pins σ H s:=⟨I.ok.wish E,I.os,I.bare,I.base,I.loc,I.cell,I.free,I.freeC,I.pin,I.hok,I.len⟩
theorem Inv.unwish (I:Inv (X.wish E) pins σ H s):Inv X pins σ H s:=⟨I.ok.unwish,I.os,I.bare,I.base,I.loc,I.cell,I.free,I.freeC,I.pin,I.hok,I.len⟩
end
section
variable{X:Cx}{st:gz}{rest:List gz}{t u:TS}{e:bo}{te:TE}{pos:Pos}
def RG:TS:=λD σ H=>D.nx σ H
def RH (t u:TS):TS:=λD σ H=>t { D with nx:=u D } σ H
theorem RI:Fe X [] RG:=λ_ _ σ H _ I h=>oi ⟨σ,H,I,h⟩
theorem RJ (h1:PS X st t) (h2:Fe X rest u):Fe X (st::rest) (RH t u):=by
 intro pins s σ H D I h;refine qh (bD (h1 pins s σ H { D with nx:=u D } I h) λf s1 q=>?_)
 cases f with
 |next=>obtain⟨σ',H',I',q⟩:=q;exact h2 pins s1 σ' H' D I' q
 |ret v=>exact q
 |brk=>exact q
 |cont=>exact q
theorem GW (h1:PS X st t):Fe X [st] t:=by
 intro pins s σ H D I h;refine qh (bD (h1 pins s σ H D I h) λf s1 q=>?_)
 cases f with
 |next=>exact oi q
 |ret v=>exact q
 |brk=>exact q
 |cont=>exact q
theorem Inv.quiet {pins:List (ah×Obj)}{σ:St}{H:Hp}{s:ag}(I:Inv X pins σ H s):interactive X.env=false:=by simp[interactive,I.ok.kind]
def RK (te:TE):TS:=λD σ H=>te σ H λ_ H1=>D.nx σ H1
theorem RM (he:PE X e te) (hs:swapsWith e none pos.line X.env=pure false:=by rfl):PS X (.Expr e pos) (RK te):=by intro pins s σ H D I h;exact wpAny_Expr_any (bD (he pins s σ H _ I h) λv s1 ⟨x,H1,I1,r1,q1⟩=>⟨σ,H1,I1,q1⟩) I.quiet hs
def RN (te:TE):TS:=λD σ H=>te σ H D.rt
theorem RO (he:PE X e te):PS X (.Return (some e) pos) (RN te):=by intro pins s σ H D I h;exact wpAny_Return_some (bD (he pins s σ H _ I h) λv s1 ⟨x,H1,I1,r1,q1⟩=>⟨x,σ,H1,I1,r1,q1⟩)
def RP (c:TT) (t u:TS):TS:=λD σ H=>c σ H λb H1=>if b=true then t D σ H1 else u D σ H1
theorem RQ {c:bo}{a b:List gz}{tc:TT}(hc:PT X c tc) (ha:Fe X a t) (hb:Fe X b u):PS X (.If c a b pos) (RP tc t u):=by
 intro pins s σ H D I h;refine wpAny_If (bD (hc pins s σ H _ I h) λd s1 ⟨H1,I1,q1⟩=>?_)
 cases d with
 |true=>exact ha pins s1 σ H1 D I1 q1
 |false=>exact hb pins s1 σ H1 D I1 q1
end
abbrev TG:=V->St->Hp->(St->Hp->Prop)->Prop
abbrev mW:=List V->St->Hp->(St->Hp->Prop)->Prop
def PG (X:Cx) (target:bo) (t:TG):Prop:=
 ∀(pins:List (ah×Obj)) (s:ag) (σ:St) (H:Hp) (v:V) (u:af) (Q:St->Hp->Prop),Inv X pins σ H s->RelV v u->t v σ H Q->
  wpAny (model X.prog X.w) X.A (assign target X.env u) (λ_ s'=>∃σ' H',Inv X pins σ' H' s'/\Q σ' H') X.xe s
def PGs (X:Cx) (ts:List bo) (t:mW):Prop:=
 ∀(pins:List (ah×Obj)) (s:ag) (σ:St) (H:Hp) (vs:List V) (us:List af) (Q:St->Hp->Prop),Inv X pins σ H s->Bd vs us->t vs σ H Q->
  wpAny (model X.prog X.w) X.A (assignInOrder ((assignEach ts X.env).map (·.2)) us) (λ_ s'=>∃σ' H',Inv X pins σ' H' s'/\Q σ' H') X.xe s
abbrev A1:=V->V->V->Hp->(Hp->Prop)->Prop
def GX (X:Cx) (t:A1):Prop:=
 ∀(pins:List (ah×Obj)) (s:ag) (σ:St) (H:Hp) (o i v:V) (ov iv u:af) (Q:Hp->Prop),Inv X pins σ H s->RelV o ov->RelV i iv->RelV v u->t o i v H Q->
  wpAny (model X.prog X.w) X.A (setItem ov iv u) (λ_ s'=>∃H',Inv X pins σ H' s'/\Q H') X.xe s
section
variable{X:Cx}{pos:Pos}
def A2 (i:Nat):TG:=λv σ H Q=>Q (σ.set i (some v)) H
theorem RR {i:Nat}{x:Str}(hN:X.N.Nodup) (hi:X.N[i]?=some x) (hx:lL X.env.scope x) (hf:X.fn x=true∨X.env.scope.names.lookup x=some .local:=by first|exact .inl rfl|exact .inr rfl|assumption):PG X (.Name x pos) (A2 i):=by intro pins s σ H v u Q I r h;exact wpAny_assign_Name (A0 I hN hi hx r (λs' I'=>⟨_,H,I',h⟩) hf)
def RS:mW:=λvs σ H Q=>vs=[]/\Q σ H
def RT (t:TG) (u:mW):mW:=λvs σ H Q=>∃v r,vs=v::r/\t v σ H λσ' H'=>u r σ' H' Q
theorem RU:PGs X [] RS:=by intro pins s σ H vs us Q I r h;obtain⟨e,h⟩:=h;subst e;cases r;exact assignInOrder_nil ⟨σ,H,I,h⟩
theorem RV {e:bo}{es:List bo}{t:TG}{u:mW}(h1:PG X e t) (h2:PGs X es u)
  (hs:(assignEach (e::es) X.env).map (·.2)=assign e X.env::(assignEach es X.env).map (·.2):=by rfl):PGs X (e::es) (RT t u):=by
 intro pins s σ H vs us Q I r h;obtain⟨v,vr,e1,h⟩:=h;subst e1
 cases r with
 |cons r rr=>rw[hs];refine assignInOrder_cons (bD (h1 pins s σ H _ _ _ I r h) λ_ s1 ⟨σ1,H1,I1,q1⟩=>?_);exact h2 pins s1 σ1 H1 _ _ Q I1 rr q1
def RW (K:ao) (n:Nat) (t:mW):TG:=λv σ H Q=>∃a xs,v=.ref a/\Bp K H a xs/\xs.length=n/\t xs σ H Q
theorem RX {es:List bo}{k:Nat}{t:mW}{n:Nat}(hc:X.calm=true) (h:PGs X es t)
  (hn:(assignEach es X.env).length=n:=by rfl) (Fb:(assignEach es X.env).findIdx? (·.1)=none:=by rfl):PG X (.Tuple es k pos) (RW X.K n t):=by
 intro pins s σ H v u Q I r hw;obtain⟨a,xs,e1,hq,hl,hw⟩:=hw;subst e1;cases r;obtain⟨its,rv,ht,hz⟩:=I.tuple hq;refine assign_Tuple_tuple (I.ok.hd hc) ht (by simp[hn,<-hl,rv.length]) Fb λh' hx=>?_;have I1:Inv X pins σ H { s with heap:=h' }:=I.kept (t':=s.toks) λb o e=>hx b o (az (aq e)) e;exact h pins _ σ H xs _ Q I1 (by simpa using rv) hw
def RY (to ti:TE) (t:A1):TG:=λv σ H Q=>to σ H λo H1=>ti σ H1 λi H2=>t o i v H2 λH3=>Q σ H3
theorem RZ {o i:bo}{to ti:TE}{t:A1}(ho:PE X o to) (hi:PE X i ti) (hs:GX X t)
  (ha:∀v,assign (.Subscript o i pos) X.env v=(do
   let ov <-holding [v] (eval o X.env)
   let iv <-holding [v,ov] (eval i X.env)
   standAt pos
   holding [v,ov,iv] (setItem ov iv v)
   release [v,ov,iv] []):=by intro _;rfl):PG X (.Subscript o i pos) (RY to ti t):=by
 intro pins s σ H v u Q I r h;rw[ha];refine ae (gw (bD (ho pins s σ H _ I h) λov s1 ⟨x,H1,I1,r1,q1⟩=>?_));refine ae (gw (bD (hi pins s1 σ H1 _ I1 q1) λiv s2 ⟨y,H2,I2,r2,q2⟩=>?_));refine ae (ui (ae (gw (bD (hs pins s2 σ H2 x y v ov iv u _ I2 r1 r2 r q2) λ_ s3 ⟨H3,I3,q3⟩=>?_))));exact wpAny_release ⟨σ,H3,I3,q3⟩
def wD (te:TE) (g:TG):TS:=λD σ H=>te σ H λx H1=>g x σ H1 D.nx
theorem GY {tg e:bo}{te:TE}{g:TG}(he:PE X e te) (hg:PG X tg g) (hs:swapsWithSole [tg] e pos.line X.env=pure false:=by rfl) (hw:swappedStores [tg] e X.env=pure none:=by rfl)
  (h1:(assignEach [tg] X.env).map (·.2)=[assign tg X.env]:=by rfl):PS X (.Assign [tg] e pos) (wD te g):=by
 intro pins s σ H D I h;refine wpAny_Assign_stores (bD (he pins s σ H _ I h) λv s1 ⟨x,H1,I1,r1,q1⟩=>?_) hs hw;rw[h1];exact bD (hg pins s1 σ H1 x v _ I1 r1 q1) λ_ s2 q=>q
theorem A3 {i:Nat}{x:Str}{e:bo}{te:TE}{pos':Pos}(hN:X.N.Nodup) (hi:X.N[i]?=some x) (hx:lL X.env.scope x) (he:PE X e te) (hs:swapsWith e (some (.Name x pos')) pos.line X.env=pure false:=by rfl) (hf:X.fn x=true∨X.env.scope.names.lookup x=some .local:=by first|exact .inl rfl|exact .inr rfl|assumption):
  PS X (.Assign [.Name x pos'] e pos) (wD te (A2 i)):=by
 intro pins s σ H D I h;refine wpAny_Assign_Name (bD (he pins s σ H _ I h) λv s1 ⟨y,H1,I1,r1,q1⟩=>?_) hs;exact A0 I1 hN hi hx r1 (λs2 I2=>⟨_,H1,I2,q1⟩) hf
end
section
variable{X:Cx}{pos:Pos}
def R0 (c:TT) (tb:TS):TS:=λD σ H=>∃W:Nat->St->Hp->Prop,(∃m,W m σ H)/\∀m σ H,W m σ H->
 c σ H λb H1=>if b=true then ∃N:St->Hp->Prop,(∀σ' H',N σ' H'->∃m',m'<m/\W m' σ' H')/\tb { D with nx:=N,ct:=N,bk:=D.nx } σ H1 else D.nx σ H1
theorem R3 {c:bo}{body:List gz}{tc:TT}{tb:TS}(hp:yg (model X.prog X.w) X.A X.env X.xe) (hc:PT X c tc) (hb:Fe X body tb):PS X (.While c body [] pos) (R0 tc tb):=by
 intro pins s σ H D I h;obtain⟨W,⟨m0,w0⟩,turn⟩:=h;refine wpAny_While (codeAny_whileLoop (λn s'=>∃σ' H',Inv X pins σ' H' s'/\W n σ' H') ?_ m0 ⟨σ,H,I,w0⟩)
 rintro n s1 ⟨σ1,H1,I1,w1⟩
 refine mn hp (bD (hc pins s1 σ1 H1 _ I1 (turn n σ1 H1 w1)) λb s2 ⟨H2,I2,q2⟩=>?_)
 cases b with
 |true=>
  obtain⟨N,hN,q2⟩:=q2;rw[if_pos rfl];refine mn hp (bD (hb pins s2 σ1 H2 _ I2 q2) λf s3 q3=>?_)
  cases f with
  |next=>obtain⟨σ3,H3,I3,n3⟩:=q3;obtain⟨m',hm,w3⟩:=hN σ3 H3 n3;exact⟨m',hm,σ3,H3,I3,w3⟩
  |cont=>obtain⟨σ3,H3,I3,n3⟩:=q3;obtain⟨m',hm,w3⟩:=hN σ3 H3 n3;exact⟨m',hm,σ3,H3,I3,w3⟩
  |brk=>exact q3
  |ret v=>exact q3
 |false=>rw[if_neg ie];exact oi ⟨σ1,H2,I2,q2⟩
end
structure It where
 go:Nat->Hp->Prop
 yld:Nat->Hp->V->Hp->Prop
 stop:Nat->Hp->Prop
def dN (X:Cx) (pins:List (ah×Obj)) (H:Hp) (b:ah):Prop:=H b=none/\b≠X.env.locals/\b∉X.fs/\(b∈X.ex∨X.s₀.heap.objs.size<=b)/\(∀x c,X.env.cells.lookup x=some c->c≠b)/\∀p∈X.pn++pins,p.1≠b
theorem Inv.fpOk {X:Cx}{pins:List (ah×Obj)}{σ:St}{H H':Hp}{s:ag}{b:ah}(I:Inv X pins σ H s) (hb:s.heap.objs.size<=b) (hn:H' b=none):dN X pins H' b:=by
 refine⟨hn,jn (av I.lt hb),I.nofs hb,.inr (df I.sz hb),λx c e z=>?_,λp hp z=>?_⟩
 ·obtain⟨v,q⟩:=I.cell x c e;exact absurd (av q.lt (by rw[z];exact hb)) (ij _)
 ·exact absurd (av (aq (I.pin p hp).1) (by rw[z];exact hb)) (ij _)
structure Turn (P:bj) (w:cq) (K:ao) (tg:bo) (J:It) (fp:List ah) (it:ah) (tn:Nat->cx->Prop):Prop where
 mem:it∈fp
 obj:∀i h,tn i h->∀b∈fp,∃o,h.get? b=some o/\∀v,o.data≠.cell v
 keep:∀i h h',tn i h->(∀b∈fp,∀o,h.get? b=some o->h'.get? b=some o)->tn i h'
 item:∀(X:Cx),X.prog=P->X.w=w->X.K=K->X.calm=true->∀(i:Nat) (pins:List (ah×Obj)) (s:ag) (σ:St) (H:Hp) (E:af->ag->Prop),Inv X pins σ H s->(∀b∈fp,dN X pins H b)->tn i s.heap->J.go i H->
  wpAny (model P w) X.A (pyNext (.ref it)) (λr s1=>∃u,r=some u /\
   wpAny (model P w) X.A (letOwnedTupleGo tg (.ref it) u) (λ_ s2=>∃x H',Inv X pins σ H' s2/\RelV x u/\J.yld i H x H'/\tn (i+1) s2.heap/\∀b∈fp,H' b=none) E s1) E s
 done:∀(X:Cx),X.prog=P->X.w=w->X.K=K->X.calm=true->∀(i:Nat) (pins:List (ah×Obj)) (s:ag) (σ:St) (H:Hp) (E:af->ag->Prop),Inv X pins σ H s->(∀b∈fp,dN X pins H b)->tn i s.heap->J.stop i H->
  wpAny (model P w) X.A (pyNext (.ref it)) (λr s1=>r=none/\Inv X pins σ H s1) E s
 self:∀(A:cm) (i:Nat) (s:ag) (Q:af->ag->Prop) (E:af->ag->Prop),tn i s.heap->Q (.ref it) s->wpAny (model P w) A (pyIter (.ref it)) Q E s
abbrev TI:=St->Hp->(It->Hp->Prop)->Prop
def GZ (X:Cx) (pins:List (ah×Obj)) (σ:St) (tg:bo) (R:It->Hp->Prop) (itv:af) (s2:ag):Prop:=∃(it:ah) (fp:List ah) (tn:Nat->cx->Prop) (J:It) (H':Hp),itv=.ref it/\Inv X pins σ H' s2/\Turn X.prog X.w X.K tg J fp it tn/\tn 0 s2.heap/\(∀b∈fp,dN X pins H' b)/\R J H'
def PI (X:Cx) (tg iter:bo) (wi:TI):Prop:=
 ∀(pins:List (ah×Obj)) (s:ag) (σ:St) (H:Hp) (R:It->Hp->Prop),Inv X pins σ H s->wi σ H R->
  wpAny (model X.prog X.w) X.A (eval iter X.env) (λv s1=>wpAny (model X.prog X.w) X.A (pyIter v) (GZ X pins σ tg R) X.xe s1) X.xe s
theorem A4 {M:yr}{A:cm}{E:af->ag->Prop}{s:ag}{tg:bo}{it:ah}{u:af}{o:Obj}{n:String}{vs:Array af}{Q:Unit->ag->Prop}(ho:s.heap.get? it=some o) (hc:o.cls=.type n) (hd:o.data=.fields vs)
  (hn:["enumerate","zip","dict_itemiterator","dict_reverseitemiterator","odict_iterator","itertools.zip_longest","itertools.pairwise"].contains n=false) (hQ:Q () s):wpAny M A (letOwnedTupleGo tg (.ref it) u) Q E s:=by
 unfold letOwnedTupleGo
 cases tg <;> first
  |exact ai hQ
  |(cases u <;> first
    |exact ai hQ
    |(refine ae (wpAny_load ho ?_);rw[hc,hd];show wpAny M A (if(["enumerate","zip","dict_itemiterator","dict_reverseitemiterator","odict_iterator","itertools.zip_longest","itertools.pairwise"].contains n&&vs[0]?==some (rawInt _))=true then _ else _) Q E s;rw[if_neg (by intro h;rw[hn,Bool.false_and]at h;cases h)];exact ai hQ))
def G1 (K:ao) (a:ah):It:=⟨λi H=>∃xs x,Bs K H a xs/\xs[i]?=some x,λi H x H'=>H'=H/\∀xs,Bs K H a xs->xs[i]?=some x,λi H=>∃xs,Bs K H a xs/\xs.length<=i⟩
def A5 (K:ao) (a:ah):It:=⟨λi H=>∃xs x,Bp K H a xs/\xs[i]?=some x,λi H x H'=>H'=H/\∀xs,Bp K H a xs->xs[i]?=some x,λi H=>∃xs,Bp K H a xs/\xs.length<=i⟩
def sP (lo:Int) (n:Nat):It:=⟨λi _=>i<n,λi H x H'=>H'=H/\x=.int (lo+i),λi _=>n<=i⟩
theorem R4 {P:bj}{w:cq}{K:ao}{tg:bo}(a it:ah):Turn P w K tg (G1 K a) [it] it (λi h=>h.IsListIter it a i) where
 mem:=by simp
 obj:=λi h st b hb=>by
  have e:b=it:=by simpa using hb
  subst e;obtain⟨o,e,c,d⟩:=st;exact⟨o,e,λv z=>by rw[d]at z;cases z⟩
 keep:=λi h h' st k=>st.at λo e=>k it (by simp) o e
 item:=by intro X hP hw hK hc i pins s σ H E I hf st hg;subst hP hw hK;obtain⟨xs,x,hq,hx⟩:=hg;obtain⟨its,rv,p,hz⟩:=I.list hq;obtain⟨u,hu,ru⟩:=rv.get hx;obtain⟨f0,f1,f2,f3,f4,f5⟩:=hf it (by simp);refine wpAny_pyNext_list_item st p.isList (x:=u) (by simpa using hu) λh' Dp sb=>?_;have I1:Inv X pins σ H { s with heap:=h' }:=I.turned (t':=s.toks) (λb o hb e=>(sb.2 b hb).trans e) f0 f1 f3 f4 f5;obtain⟨o,e,c,d⟩:=id Dp;exact⟨u,rfl,A4 (s:={ s with heap:=h' }) e c d (by decide) ⟨x,H,I1,ru,⟨rfl,λys hy=>by rw[I.list_inj hy hq];exact hx⟩,Dp,λb hb=>(hf b hb).1⟩⟩
 done:=by intro X hP hw hK hc i pins s σ H E I hf st hg;subst hP hw hK;obtain⟨xs,hq,hx⟩:=hg;obtain⟨its,rv,p,hz⟩:=I.list hq;obtain⟨f0,f1,f2,f3,f4,f5⟩:=hf it (by simp);have hl:=rv.length;exact wpAny_pyNext_list_end (I.ok.hd hc) st p.isList (by simp;omega) λh' eb=>⟨rfl,I.turned (t':=s.toks) (λb o hb e=>eb b o hb e) f0 f1 f3 f4 f5⟩
 self:=λ_ _ _ _ _ st h=>wpAny_pyIter_listiter st h
theorem R5 {P:bj}{w:cq}{K:ao}{tg:bo}(a it:ah):Turn P w K tg (A5 K a) [it] it (λi h=>h.IsTupleIter it a i) where
 mem:=by simp
 obj:=λi h st b hb=>by
  have e:b=it:=by simpa using hb
  subst e;obtain⟨o,e,c,d⟩:=st;exact⟨o,e,λv z=>by rw[d]at z;cases z⟩
 keep:=λi h h' st k=>st.at λo e=>k it (by simp) o e
 item:=by intro X hP hw hK hc i pins s σ H E I hf st hg;subst hP hw hK;obtain⟨xs,x,hq,hx⟩:=hg;obtain⟨its,rv,p,hz⟩:=I.tuple hq;obtain⟨u,hu,ru⟩:=rv.get hx;obtain⟨f0,f1,f2,f3,f4,f5⟩:=hf it (by simp);refine wpAny_pyNext_tuple_item st (show s.heap.IsTuple a its.toArray from p) (x:=u) (by simpa using hu) λh' Dp sb=>?_;have I1:Inv X pins σ H { s with heap:=h' }:=I.turned (t':=s.toks) (λb o hb e=>(sb.2 b hb).trans e) f0 f1 f3 f4 f5;obtain⟨o,e,c,d⟩:=id Dp;exact⟨u,rfl,A4 (s:={ s with heap:=h' }) e c d (by decide) ⟨x,H,I1,ru,⟨rfl,λys hy=>by rw[I.tuple_inj hy hq];exact hx⟩,Dp,λb hb=>(hf b hb).1⟩⟩
 done:=by intro X hP hw hK hc i pins s σ H E I hf st hg;subst hP hw hK;obtain⟨xs,hq,hx⟩:=hg;obtain⟨its,rv,p,hz⟩:=I.tuple hq;obtain⟨f0,f1,f2,f3,f4,f5⟩:=hf it (by simp);have hl:=rv.length;exact wpAny_pyNext_tuple_end (I.ok.hd hc) st (show s.heap.IsTuple a its.toArray from p) (by simp;omega) λh' eb=>⟨rfl,I.turned (t':=s.toks) (λb o hb e=>eb b o hb e) f0 f1 f3 f4 f5⟩
 self:=λ_ _ _ _ _ st h=>wpAny_pyIter_tupleiter st h
theorem R6 {P:bj}{w:cq}{K:ao}{tg:bo}(it:ah) (lo:Int) (n:Nat):Turn P w K tg (sP lo n) [it] it (λi h=>IsRangeIter h it (lo+(i:Nat)*1) ((n:Int) - (i:Nat)) 1) where
 mem:=by simp
 obj:=λi h st b hb=>by
  have e:b=it:=by simpa using hb
  subst e;exact⟨_,st,λv z=>by
   have z':Data.fields _=Data.cell v:=z
   cases z'⟩
 keep:=λi h h' st k=>k it (by simp) _ st
 item:=by intro X hP hw hK hc i pins s σ H E I hf st hg;subst hP hw hK;obtain⟨f0,f1,f2,f3,f4,f5⟩:=hf it (by simp);have W:=Walks.range (prog:=X.prog) (w:=X.w) (I.ok.hd hc) it lo 1 n;refine W.item i s _ _ hg st λv h' tk hv Dp kk=>?_;obtain⟨t,rfl⟩:=hv;have I1:Inv X pins σ H { s with heap:=h',toks:=tk }:=I.turned (λb o hb e=>kk b o (by simpa using hb) e) f0 f1 f3 f4 f5;refine⟨_,rfl,A4 (s:={ s with heap:=h',toks:=tk }) (n := "range_iterator") Dp rfl rfl (by decide) ⟨.int (lo+i),H,I1,⟨t, ?_⟩,⟨rfl,rfl⟩,Dp,λb hb=>(hf b hb).1⟩⟩;rw[Int.mul_one]
 done:=by intro X hP hw hK hc i pins s σ H E I hf st hg;subst hP hw hK;obtain⟨f0,f1,f2,f3,f4,f5⟩:=hf it (by simp);exact wpAny_pyNext_range_end (I.ok.hd hc) st (by have:n<=i:=hg;omega) λh' eb=>⟨rfl,I.turned (t':=s.toks) (λb o hb e=>eb b o hb e) f0 f1 f3 f4 f5⟩
 self:=λ_ _ _ _ _ st h=>wpAny_pyIter_rangeiter st h
section
variable{X:Cx}{tg:bo}
def R7 (K:ao) (tl:TE):TI:=λσ H R=>tl σ H λx H1=>∃a,x=.ref a/\(∃xs,Bs K H1 a xs)/\R (G1 K a) H1
def R8 (K:ao) (tl:TE):TI:=λσ H R=>tl σ H λx H1=>∃a,x=.ref a/\(∃xs,Bp K H1 a xs)/\R (A5 K a) H1
theorem R9 {l:bo}{tl:TE}(hl:PE X l tl):PI X tg l (R7 X.K tl):=by
 intro pins s σ H R I h;refine bD (hl pins s σ H _ I h) λv s1 ⟨x,H1,I1,r1,q1⟩=>?_;obtain⟨a,e,⟨xs,hq⟩,q⟩:=q1;subst e;cases r1;obtain⟨its,rv,p,hz⟩:=I1.list hq;refine kq p.isList ?_;refine⟨s1.heap.objs.size,[s1.heap.objs.size],_,_,H1,rfl,I1.kept (t':=s1.toks) λb o e=>ak _ e,R4 a _,⟨_,bc _ rfl,rfl,rfl⟩,λb hb=>?_,q⟩;have e:b=s1.heap.objs.size:=by simpa using hb
 subst e;exact I1.fpOk (aj _) (I1.hok.fresh (aj _))
theorem SA {l:bo}{tl:TE}(hl:PE X l tl):PI X tg l (R8 X.K tl):=by
 intro pins s σ H R I h;refine bD (hl pins s σ H _ I h) λv s1 ⟨x,H1,I1,r1,q1⟩=>?_;obtain⟨a,e,⟨xs,hq⟩,q⟩:=q1;subst e;cases r1;obtain⟨its,rv,p,hz⟩:=I1.tuple hq;refine sr (show s1.heap.IsTuple a its.toArray from p) ?_;refine⟨s1.heap.objs.size,[s1.heap.objs.size],_,_,H1,rfl,I1.kept (t':=s1.toks) λb o e=>ak _ e,R5 a _,⟨_,bc _ rfl,rfl,rfl⟩,λb hb=>?_,q⟩;have e:b=s1.heap.objs.size:=by simpa using hb
 subst e;exact I1.fpOk (aj _) (I1.hok.fresh (aj _))
theorem G2 {pins:List (ah×Obj)}{σ:St}{H:Hp}{s:ag}{R:It->Hp->Prop}{E:af->ag->Prop}{lo hi:Int}{t u v:Tok}{tk:Nat}(I:Inv X pins σ H s) (h1 : -(2 ^ 62)<=lo) (h2:lo<2 ^ 62) (h3 : -(2 ^ 62)<=hi) (h4:hi<2 ^ 62)
  (q:R (sP lo (hi - lo).toNat) H):wpAny (model X.prog X.w) X.A (pyIter (.ref s.heap.objs.size)) (GZ X pins σ tg R) E { s with heap:=s.heap.push { cls:=.type "range",data:=.fields #[.int lo t,.int hi u,.int 1 v] },toks:=tk }:=by
 refine wpAny_pyIter_range (IsRange.new ..) (small_one h1 h2 h3 h4) ?_;have I1:Inv X pins σ H { s with heap:=s.heap.push { cls:=.type "range",data:=.fields #[.int lo t,.int hi u,.int 1 v] },toks:=tk }:=I.kept λb o e=>ak _ e;refine⟨(s.heap.push { cls:=.type "range",data:=.fields #[.int lo t,.int hi u,.int 1 v] }).objs.size,[(s.heap.push { cls:=.type "range",data:=.fields #[.int lo t,.int hi u,.int 1 v] }).objs.size],_,_,H,rfl,
  I1.kept (t':=tk) λb o e=>ak _ e,R6 _ lo (hi - lo).toNat, ?_,λb hb=>?_,q⟩
 ·have e1:lo+((0:Nat):Int)*1=lo:=by simp
  have e2:(((hi - lo).toNat:Nat):Int) - ((0:Nat):Int)=Builtin.Range.rangeSize lo hi 1:=by rw[rangeSize_one];split <;> omega
  show IsRangeIter _ _ (lo+((0:Nat):Int)*1) ((((hi - lo).toNat:Nat):Int) - ((0:Nat):Int)) 1;rw[e1,e2];exact bc _ rfl
 ·have e:b=(s.heap.push { cls:=.type "range",data:=.fields #[.int lo t,.int hi u,.int 1 v] }).objs.size:=by simpa using hb
  subst e;exact I1.fpOk (aj _) (I1.hok.fresh (aj _))
def SD (ta:TA):TI:=λσ H R=>ta σ H λvs H1=>∃j:Int,vs=[.int j]/\-(2 ^ 62)<=j/\j<2 ^ 62/\R (sP 0 j.toNat) H1
def SE (ta:TA):TI:=λσ H R=>ta σ H λvs H1=>∃i j:Int,vs=[.int i,.int j]/\(-(2 ^ 62)<=i/\i<2 ^ 62/\-(2 ^ 62)<=j/\j<2 ^ 62)/\R (sP i (j - i).toNat) H1
theorem SF {a:bo}{ta:TA}{p pos:Pos}(hg:Gl X "range") (hm:X.mg "range" = none) (ha:PA X [a] ta) (hs:ar [a] X.env=[(false,eval a X.env)]:=by rfl):PI X tg (.Call (.Name "range" p) [a] [] pos) (SD ta):=by
 intro pins s σ H R I h;refine Call_ (nW I hg hm boot_range (jr (bD (ha pos pins s σ H _ I h) λus s1 ⟨vs,H1,I1,r1,q1⟩=>?_) hs rfl));obtain⟨j,e,q1,q2,q⟩:=q1;subst e
 cases r1 with
 |cons r rr=>cases rr;obtain⟨t,rfl⟩:=r;exact call_range_1 (G2 I1 (by omega) (by omega) q1 q2 (by simpa using q))
theorem SG {a b:bo}{ta:TA}{p pos:Pos}(hg:Gl X "range") (hm:X.mg "range" = none) (ha:PA X [a,b] ta) (hs:ar [a,b] X.env=[(false,eval a X.env),(false,eval b X.env)]:=by rfl) (hs2:ar [b] X.env=[(false,eval b X.env)]:=by rfl):
  PI X tg (.Call (.Name "range" p) [a,b] [] pos) (SE ta):=by
 intro pins s σ H R I h;refine Call_ (nW I hg hm boot_range (jr (bD (ha pos pins s σ H _ I h) λus s1 ⟨vs,H1,I1,r1,q1⟩=>?_) (by rw[hs,hs2]) (by rw[hs2];rfl)));obtain⟨i,j,e,⟨q1,q2,q3,q4⟩,q⟩:=q1;subst e
 cases r1 with
 |cons r rr=>
  cases rr with
  |cons r' rr=>cases rr;obtain⟨t,rfl⟩:=r;obtain⟨t',rfl⟩:=r';exact call_range_2 (G2 I1 q1 q2 q3 q4 q)
def SH (wi:TI) (g:TG) (tb:TS):TS:=λD σ H=>wi σ H λJ H1=>∃W:Nat->Nat->St->Hp->Prop,(∃m,W 0 m σ H1)/\∀i m σ H,W i m σ H->
 (J.stop i H/\D.nx σ H)∨(J.go i H/\∃N:St->Hp->Prop,(∀σ' H',N σ' H'->∃m',m'<m/\W (i+1) m' σ' H')/\∀x H',J.yld i H x H'->g x σ H' λσ2 H2=>tb { D with nx:=N,ct:=N,bk:=D.nx } σ2 H2)
def jW (fp:List ah) (h:cx):List (ah×Obj):=fp.filterMap λb=>(h.get? b).map λo=>(b,o)
theorem qM {fp:List ah}{h:cx}{b:ah}{o:Obj}(hb:b∈fp) (e:h.get? b=some o):(b,o)∈jW fp h:=jz.mpr ⟨b,hb,by rw[e];rfl⟩
theorem A6 {fp:List ah}{h:cx}{p:ah×Obj}(hp:p∈jW fp h):p.1∈fp/\h.get? p.1=some p.2:=by
 obtain⟨b,hb,e⟩:=jz.mp hp
 cases q:h.get? b with
 |none=>rw[q]at e;cases e
 |some o=>rw[q]at e;have e':(b,o)=p:=cw e;subst e';exact⟨hb,q⟩
theorem Inv.pinned {pins:List (ah×Obj)}{σ:St}{H:Hp}{s:ag}{fp:List ah}(I:Inv X pins σ H s) (hf:∀b∈fp,dN X pins H b) (ho:∀b∈fp,∃o,s.heap.get? b=some o/\∀v,o.data≠.cell v):Inv X (pins++jW fp s.heap) σ H s:=I.pins_of λp hp=>(cz.mp hp).elim (λz=>I.pin p (cn _ z)) λz=>by obtain⟨hb,e⟩:=A6 z;obtain⟨f0,f1,f2,_⟩:=hf p.1 hb;obtain⟨o,e',d⟩:=ho p.1 hb;rw[e]at e';cases e';exact⟨e,f0,f1,f2,d⟩
theorem Inv.unpinned {pins pl:List (ah×Obj)}{σ:St}{H:Hp}{s:ag}(I:Inv X (pins++pl) σ H s):Inv X pins σ H s:=I.pins_of λp hp=>I.pin p (cn _ (ic _ hp))
theorem SI {iter:bo}{body:List gz}{wi:TI}{g:TG}{tb:TS}{pos:Pos}(hp:yg (model X.prog X.w) X.A X.env X.xe) (hc:X.calm=true) (hi:PI X tg iter wi) (hg:PG X tg g) (hb:Fe X body tb)
  (hs:∀x,foldedSetIterable iter X.env x=pure x:=by intro _;rfl):PS X (.For tg iter body [] pos) (SH wi g tb):=by
 intro pins s σ H D I h;refine wpAny_For (bD (hi pins s σ H _ I h) λv s1 h1=>bD h1 λitv s2 h2=>?_) hs;obtain⟨it,fp,tn,J,H2,e,I2,T,st2,f2,W,⟨m0,w0⟩,turn⟩:=h2;subst e;have stat:∀{H':Hp},(∀b∈fp,H' b=none)->∀b∈fp,dN X pins H' b:=λhn b hb=>⟨hn b hb,(f2 b hb).2⟩
 refine codeAny_forLoop_any (λn s'=>∃i σ' H',Inv X pins σ' H' s'/\tn i s'.heap/\(∀b∈fp,H' b=none)/\W i n σ' H') ?_ m0 ⟨0,σ,H2,I2,st2,λb hb=>(f2 b hb).1,w0⟩
 rintro n s3 ⟨i,σ3,H3,I3,st3,fr3,w3⟩
 rcases turn i n σ3 H3 w3 with⟨stop,qn⟩|⟨go,N,hN,step⟩
 ·refine mn hp (bD (T.done X rfl rfl rfl hc i pins s3 σ3 H3 X.xe I3 (stat fr3) st3 stop) λr s4 ⟨hr,I4⟩=>?_);subst hr;exact oi ⟨σ3,H3,I4,qn⟩
 ·refine mn hp (bD (T.item X rfl rfl rfl hc i pins s3 σ3 H3 X.xe I3 (stat fr3) st3 go) λr s4 ⟨u,hr,h4⟩=>?_);subst hr;refine mn hp (bD h4 λ_ s5 ⟨x,H5,I5,r5,y5,st5,fr5⟩=>?_);have I5':=I5.pinned (stat fr5) (T.obj _ _ st5);refine mn hp (bD (hg _ s5 σ3 H5 x u _ I5' r5 (step x H5 y5)) λ_ s6 ⟨σ6,H6,I6,q6⟩=>?_);refine mn hp (bD (hb _ s6 σ6 H6 _ I6 q6) λf s7 q7=>?_);have again:∀{σ7:St}{H7:Hp},Inv X (pins++jW fp s5.heap) σ7 H7 s7->N σ7 H7->∃m,m<n/\∃i σ' H',Inv X pins σ' H' s7/\tn i s7.heap/\(∀b∈fp,H' b=none)/\W i m σ' H':=λ{σ7 H7} I7 n7=>by obtain⟨m',hm,w7⟩:=hN σ7 H7 n7;refine⟨m',hm,i+1,σ7,H7,I7.unpinned,T.keep _ _ _ st5 λb hb o e=>(I7.pin (b,o) (cn _ (cn _ (qM hb e)))).1,λb hb=>?_,w7⟩;obtain⟨o,e,d⟩:=T.obj _ _ st5 b hb;exact(I7.pin (b,o) (cn _ (cn _ (qM hb e)))).2.1
  cases f with
  |next=>obtain⟨σ7,H7,I7,n7⟩:=q7;exact again I7 n7
  |cont=>obtain⟨σ7,H7,I7,n7⟩:=q7;exact again I7 n7
  |brk=>obtain⟨σ7,H7,I7,q7⟩:=q7;exact⟨σ7,H7,I7.unpinned,q7⟩
  |ret v=>obtain⟨x7,σ7,H7,I7,r7,q7⟩:=q7;exact⟨x7,σ7,H7,I7.unpinned,r7,q7⟩
end
abbrev R2:=V->V->Hp->VK->Prop
def Cg (X:Cx) (f:af->af->Sem af) (r:R2):Prop:=
 ∀(pins:List (ah×Obj)) (s:ag) (σ:St) (H:Hp) (x y:V) (v u:af) (Q:VK),Inv X pins σ H s->RelV x v->RelV y u->r x y H Q->
  wpAny (model X.prog X.w) X.A (f v u) (EP X pins σ Q) X.xe s
def wF (X:Cx) (f:af->Sem af) (r:V->Hp->VK->Prop):Prop:=
 ∀(pins:List (ah×Obj)) (s:ag) (σ:St) (H:Hp) (x:V) (v:af) (Q:VK),Inv X pins σ H s->RelV x v->r x H Q->
  wpAny (model X.prog X.w) X.A (f v) (EP X pins σ Q) X.xe s
def Bi (X:Cx) (f:af) (r:List V->Hp->VK->Prop):Prop:=
 ∀(pins:List (ah×Obj)) (s:ag) (σ:St) (H:Hp) (xs:List V) (us:List af) (Q:VK),Inv X pins σ H s->Bd xs us->r xs H Q->
  wpAny (model X.prog X.w) X.A (call f us) (EP X pins σ Q) X.xe s
def SJ (X:Cx) (r:V->Hp->(Bool->Hp->Prop)->Prop):Prop:=
 ∀(pins:List (ah×Obj)) (s:ag) (σ:St) (H:Hp) (x:V) (v:af) (Q:Bool->Hp->Prop),Inv X pins σ H s->RelV x v->r x H Q->
  wpAny (model X.prog X.w) X.A (truthy v) (TP X pins σ Q) X.xe s
def sQ (r:R2) (ta tb:TE):TE:=λσ H Q=>ta σ H λx H1=>tb σ H1 λy H2=>r x y H2 Q
def SK (r:V->Hp->VK->Prop) (ta:TE):TE:=λσ H Q=>ta σ H λx H1=>r x H1 Q
def rI (C:Int->Int->Prop) (g:Int->Int->V):R2:=λx y H Q=>∃i j,x=.int i/\y=.int j/\C i j/\Q (g i j) H
def jX (g:Int->Int->V):R2:=λx y H Q=>∃i j,x=.int i/\y=.int j/\Q (g i j) H
def rU (g:Int->V):V->Hp->VK->Prop:=λx H Q=>∃i,x=.int i/\Q (g i) H
section
variable{X:Cx}{a b c:bo}{ta tb tc:TE}{pos:Pos}
theorem A7 (ha:PE X a ta) (hb:PE X b tb) {pins:List (ah×Obj)}{s:ag}{σ:St}{H:Hp}{R:V->V->Hp->Prop}(I:Inv X pins σ H s)
  (h:ta σ H λx H1=>tb σ H1 λy H2=>R x y H2) {Q:af->ag->Prop}{f:af->af->Sem af}
  (hf:∀v u s2 x y H2,Inv X pins σ H2 s2->RelV x v->RelV y u->R x y H2->wpAny (model X.prog X.w) X.A (f v u) Q X.xe s2):
  wpAny (model X.prog X.w) X.A (eval a X.env) (λv s₁=>wpAny (model X.prog X.w) X.A (eval b X.env) (λu s₂=>wpAny (model X.prog X.w) X.A (f v u) Q X.xe s₂) X.xe s₁) X.xe s:=by
 refine bD (ha pins s σ H _ I h) λv s1 ⟨x,H1,I1,r1,q1⟩=>?_;refine bD (hb pins s1 σ H1 _ I1 q1) λu s2 ⟨y,H2,I2,r2,q2⟩=>?_;exact hf v u s2 x y H2 I2 r1 r2 q2
theorem SN {op:Operator}{r:R2}(ho:Cg X (binaryOp op) r) (ha:PE X a ta) (hb:PE X b tb):PE X (.BinOp a op b pos) (sQ r ta tb):=by intro pins s σ H Q I h;exact wpAny_BinOp (A7 ha hb I h λv u s2 x y H2 I2 rx ry q=>ho pins s2 σ H2 x y v u Q I2 rx ry q)
theorem SO {op:UnaryOp}{r:V->Hp->VK->Prop}(ho:wF X (unaryOp op) r) (ha:PE X a ta):PE X (.UnaryOp op a pos) (SK r ta):=by intro pins s σ H Q I h;exact UnaryOp_ (bD (ha pins s σ H _ I h) λv s1 ⟨x,H1,I1,r1,q1⟩=>ho pins s1 σ H1 x v Q I1 r1 q1)
theorem wG {f:af->af->Sem af}{C:Int->Int->Prop}{g:Int->Int->Int}
  (rule:∀(i j:Int) (t u:Tok) (s:ag) (Q:af->ag->Prop) (E:af->ag->Prop),C i j->Q (.int (g i j) s.toks) { s with toks:=s.toks+1 }->wpAny (model X.prog X.w) X.A (f (.int i t) (.int j u)) Q E s):
  Cg X f (rI C λi j=>.int (g i j)):=by
 intro pins s σ H x y v u Q I rx ry h;obtain⟨i,j,rfl,rfl,hc,q⟩:=h;obtain⟨t,rfl⟩:=rx;obtain⟨t',rfl⟩:=ry;exact rule i j t t' s _ _ hc ⟨.int (g i j),H,I.tok _,⟨_,rfl⟩,q⟩
theorem G3 {f:af->af->Sem af}{g:Int->Int->Int}
  (rule:∀(i j:Int) (t u:Tok) (s:ag) (Q:af->ag->Prop) (E:af->ag->Prop),Q (.int (g i j) s.toks) { s with toks:=s.toks+1 }->wpAny (model X.prog X.w) X.A (f (.int i t) (.int j u)) Q E s):
  Cg X f (jX λi j=>.int (g i j)):=by
 intro pins s σ H x y v u Q I rx ry h;obtain⟨i,j,rfl,rfl,q⟩:=h;obtain⟨t,rfl⟩:=rx;obtain⟨t',rfl⟩:=ry;exact rule i j t t' s _ _ ⟨.int (g i j),H,I.tok _,⟨_,rfl⟩,q⟩
theorem wH {f:af->af->Sem af}{g:Int->Int->Bool}
  (rule:∀(i j:Int) (t u:Tok) (s:ag) (Q:af->ag->Prop) (E:af->ag->Prop),Q (.bool (g i j)) s->wpAny (model X.prog X.w) X.A (f (.int i t) (.int j u)) Q E s):
  Cg X f (jX λi j=>.bl (g i j)):=by
 intro pins s σ H x y v u Q I rx ry h;obtain⟨i,j,rfl,rfl,q⟩:=h;obtain⟨t,rfl⟩:=rx;obtain⟨t',rfl⟩:=ry;exact rule i j t t' s _ _ ⟨.bl (g i j),H,I,rfl,q⟩
def A8 (i j:Int):Prop:=0<=j/\j<=1000000/\i.natAbs<2 ^ 64
def CMul (i j:Int):Prop:=(-(2 ^ 64)<i/\i<2 ^ 64)∨(-(2 ^ 64)<j/\j<2 ^ 64)
theorem CMul.ok {i j:Int}(h:CMul i j):IntMulOk i j:=by
 rcases h with⟨h1,h2⟩|⟨h1,h2⟩
 ·exact .of_left (intBits_le_64 h1 h2)
 ·exact .of_right (intBits_le_64 h1 h2)
theorem op_add:Cg X (binaryOp .Add) (jX λi j=>.int (i+j)):=G3 λ_ _ _ _ _ _ _ q=>add_int q
theorem SQ:Cg X (binaryOp .Sub) (jX λi j=>.int (i - j)):=G3 λ_ _ _ _ _ _ _ q=>sub_int q
theorem SS:Cg X (binaryOp .Mult) (rI CMul λi j=>.int (i*j)):=wG λ_ _ _ _ _ _ _ hc q=>mul_int q hc.ok
theorem SU:Cg X (binaryOp .Mod) (rI (λ_ j=>0<j) λi j=>.int (i % j)):=wG λi j _ _ _ _ _ hc q=>by have h1:(0:Int)<j:=hc;exact mod_int' (by omega) (by rw[Int.fmod_eq_emod_of_nonneg i (by omega)];exact q)
theorem SV:Cg X (binaryOp .Pow) (rI A8 λi j=>.int (i ^ j.toNat)):=wG λ_ _ _ _ _ _ _ hc q=>pow_int_small hc.1 hc.2.1 hc.2.2 q
theorem SX {f:af->Sem af}{g:Int->Int}
  (rule:∀(i:Int) (t:Tok) (s:ag) (Q:af->ag->Prop) (E:af->ag->Prop),Q (.int (g i) s.toks) { s with toks:=s.toks+1 }->wpAny (model X.prog X.w) X.A (f (.int i t)) Q E s):
  wF X f (rU λi=>.int (g i)):=by
 intro pins s σ H x v Q I rx h;obtain⟨i,rfl,q⟩:=h;obtain⟨t,rfl⟩:=rx;exact rule i t s _ _ ⟨.int (g i),H,I.tok _,⟨_,rfl⟩,q⟩
theorem SY:wF X (unaryOp .USub) (rU λi=>.int (-i)):=SX λ_ _ _ _ _ q=>neg_int q
end
section
variable{X:Cx}{a b c:bo}{ta tb tc:TE}{pos:Pos}
theorem G4:Cg X (compareOp .Lt) (jX λi j=>.bl (decide (i<j))):=wH λ_ _ _ _ _ _ _ q=>lt_int q
theorem G5:Cg X (compareOp .LtE) (jX λi j=>.bl (decide (i<=j))):=wH λ_ _ _ _ _ _ _ q=>le_int q
theorem G6:Cg X (compareOp .Gt) (jX λi j=>.bl (decide (j<i))):=wH λ_ _ _ _ _ _ _ q=>gt_int q
theorem S0:Cg X (compareOp .GtE) (jX λi j=>.bl (decide (j<=i))):=wH λ_ _ _ _ _ _ _ q=>ge_int q
theorem Cg.or {f:af->af->Sem af}{r r':R2}(h:Cg X f r) (h':Cg X f r'):Cg X f (λx y H Q=>r x y H Q∨r' x y H Q):=by
 intro pins s σ H x y v u Q I rx ry q
 rcases q with q|q
 ·exact h pins s σ H x y v u Q I rx ry q
 ·exact h' pins s σ H x y v u Q I rx ry q
theorem mX (b:bo) {op:CmpOp}(h:op≠.In:=by decide) (h2:op≠.NotIn:=by decide):behindInMarks op b=false:=by
 have e1:(op==CmpOp.In)=false:=by cases op <;> first|rfl|exact absurd rfl h
 have e2:(op==CmpOp.NotIn)=false:=by cases op <;> first|rfl|exact absurd rfl h2
 cases b <;> simp[behindInMarks,e1,e2]
theorem S1 {op:CmpOp}{r:R2}(ho:Cg X (compareOp op) r) (ha:PE X a ta) (hb:PE X b tb) (hm:behindInMarks op b=false):PE X (.Compare a [op] [b] pos) (sQ r ta tb):=by intro pins s σ H Q I h;exact wpAny_Compare1 (A7 ha hb I h λv u s2 x y H2 I2 rx ry q=>ho pins s2 σ H2 x y v u Q I2 rx ry q) hm
def S3 (t:TE):TT:=λσ H Q=>t σ H λx H'=>∃k,x=.bl k/\Q k H'
theorem S4 {op:CmpOp}{r:R2}(ho:Cg X (compareOp op) r) (ha:PE X a ta) (hb:PE X b tb) (hm:behindInMarks op b=false):PT X (.Compare a [op] [b] pos) (S3 (sQ r ta tb)):=by intro pins s σ H Q I h;refine wpAny_isTrue_Compare1 (bD (ha pins s σ H _ I h) λv s1 ⟨x,H1,I1,r1,q1⟩=>bD (hb pins s1 σ H1 _ I1 q1) λu s2 ⟨y,H2,I2,r2,q2⟩=>bD (ho pins s2 σ H2 x y v u _ I2 r1 r2 q2) λc s3 ⟨z,H3,I3,r3,k,e,q3⟩=>?_) hm;subst e;cases r3;exact kn ⟨H3,I3,q3⟩
def G7 (r r':R2) (ta tb tc:TE):TE:=λσ H Q=>ta σ H λx H1=>tb σ H1 λy H2=>r x y H2 λz H3=>∃k,z=.bl k /\
 (if k=true then tc σ H3 λw' H4=>r' y w' H4 Q else Q (.bl false) H3)
theorem S5 {op op':CmpOp}{r r':R2}(ho:Cg X (compareOp op) r) (Es:Cg X (compareOp op') r') (ha:PE X a ta) (hb:PE X b tb) (hc:PE X c tc)
  (hm:lastMarks [op,op'] [b,c]=false:=by with_unfolding_all rfl):PE X (.Compare a [op,op'] [b,c] pos) (G7 r r' ta tb tc):=by
 intro pins s σ H Q I h;refine Compare_chain (bD (ha pins s σ H _ I h) λv s1 ⟨x,H1,I1,r1,q1⟩=>chain_link (bD (hb pins s1 σ H1 _ I1 q1) λu s2 ⟨y,H2,I2,r2,q2⟩=>bD (ho pins s2 σ H2 x y v u _ I2 r1 r2 q2) λd s3 ⟨z,H3,I3,r3,k,e,q3⟩=>?_)) hm;subst e;cases r3;refine kn ?_
 cases k with
 |false=>exact ite_ff ⟨.bl false,H3,I3,rfl,q3⟩
 |true=>exact ite_tt (chain_last (bD (hc pins s3 σ H3 _ I3 q3) λw' s4 ⟨z',H4,I4,r4,q4⟩=>Es pins s4 σ H4 y z' u w' Q I4 r2 r4 q4))
def G8 (K:ao) (x:V) (H:Hp) (k:Bool):Prop:=
 match x with
 | .non=>k=false
 | .bl b=>k=b
 | .int i=>k=(i != 0)
 | .str y=>y.length<=cf/\k=((y.length:Int) != 0)
 | .byt y=>y.size<=cf/\k=((y.size:Int) != 0)
 | .ref p=>(∃xs,Bs K H p xs/\k=!xs.isEmpty)∨(∃xs,Bp K H p xs/\k=!xs.isEmpty)∨∃kvs,H p=some (.dK kvs)/\k=!kvs.isEmpty
 |_=>False
theorem S6 {κ:Type}{kvs:List (κ×V)}{vs:List (κ×af)}(r:KV kvs vs):(!vs.isEmpty)=!kvs.isEmpty:=by cases r <;> rfl
theorem G9 {xs:List V}{its:List af}(r:Bd xs its):(!its.toArray.isEmpty)=!xs.isEmpty:=by cases r <;> simp
theorem qN:(cf:Nat)<2 ^ 63:=by rw[kr];decide
theorem S7:SJ X (λx H Q=>∃k,G8 X.K x H k/\Q k H):=by
 intro pins s σ H x v Q I rx h;obtain⟨k,e,q⟩:=h;have hl:=qN;have hs:cf=16777216:=kr
 cases x with
 |non=>cases rx;have e':k=false:=e;subst e';exact truthy_none ⟨H,I,q⟩
 |bl b=>cases rx;have e':k=b:=e;subst e';exact kn ⟨H,I,q⟩
 |int i=>obtain⟨t,rfl⟩:=rx;have e':k=(i != 0):=e;subst e';exact PySem.P.truthy_int ⟨H,I,q⟩
 |str y=>obtain⟨t,rfl⟩:=rx;obtain⟨hy,e'⟩:y.length<=cf/\k=((y.length:Int) != 0):=e;subst e';exact PySem.P.truthy_str (by omega) ⟨H,I.tok _,q⟩
 |byt y=>obtain⟨t,rfl⟩:=rx;obtain⟨hy,e'⟩:y.size<=cf/\k=((y.size:Int) != 0):=e;subst e';exact PySem.W.truthy_bytes (by omega) ⟨H,I.tok _,q⟩
 |ref p=>
  cases rx;have e':(∃xs,Bs X.K H p xs/\k=!xs.isEmpty)∨(∃xs,Bp X.K H p xs/\k=!xs.isEmpty)∨∃kvs,H p=some (.dK kvs)/\k=!kvs.isEmpty:=e
  rcases e' with⟨xs,hx,e'⟩|⟨xs,hx,e'⟩|⟨kvs,hx,e'⟩
  ·subst e';obtain⟨its,r,pl,hz⟩:=I.list hx;have hlen:=r.length;exact wpAny_truthy_list pl.isList (by simp only[aw];omega) ⟨H,I.tok _,by rw[G9 r];exact q⟩
  ·subst e';obtain⟨its,r,pl,hz⟩:=I.tuple hx;have hlen:=r.length;exact truthy_tuple pl (by simp only[aw];omega) ⟨H,I.tok _,by rw[G9 r];exact q⟩
  ·subst e';obtain⟨hz,hS,vs,r,m⟩:kvs.length<=cf/\(p==sysModules)=false/\∃vs,KV kvs vs/\s.heap.DictOf (AY X.prog X.w) p vs:=I.hok p _ hx;have hlen:kvs.length=vs.length:=Paired.length r;exact wpAny_truthy_dict hS m (by omega) ⟨H,I.tok _,by rw[S6 r];exact q⟩
 |_=>exact(show False from e).elim
theorem S8 (ha:PE X a ta) (he:∀whole,isTrue a X.env whole=(do let v <-whole;standAt a.pos;holding [v] (truthy v))):
  PT X a (λσ H Q=>ta σ H λx H'=>∃k,G8 X.K x H' k/\Q k H'):=by
 intro pins s σ H Q I h;exact isTrue_plain (bD (ha pins s σ H _ I h) λv s1 ⟨x,H1,I1,r1,q1⟩=>S7 pins s1 σ H1 x v Q I1 r1 q1) (he _)
theorem iX {x:V}{us:List af}(r:Bd [x] us):∃u,us=[u]/\RelV x u:=by
 cases r with
 |cons r1 r2=>cases r2;exact⟨_,rfl,r1⟩
theorem qO {x y:V}{us:List af}(r:Bd [x,y] us):∃u w',us=[u,w']/\RelV x u/\RelV y w':=by
 cases r with
 |cons r1 r2=>
  cases r2 with
  |cons r3 r4=>cases r4;exact⟨_,_,rfl,r1,r3⟩
theorem S9:Bi X (.builtin "abs") (λxs H Q=>∃i,xs=[.int i]/\Q (.int (if i<0 then -i else i)) H):=by intro pins s σ H xs us Q I r h;obtain⟨i,rfl,q⟩:=h;obtain⟨u,rfl,t,rfl⟩:=iX r;exact call_abs_int λu tk=>⟨.int (if i<0 then -i else i),H,I.tok _,⟨_,rfl⟩,q⟩
theorem TB (hc:X.calm=true):Bi X (.builtin "max") (λxs H Q=>∃i j,xs=[.int i,.int j]/\Q (.int (if j>i then j else i)) H):=by
 intro pins s σ H xs us Q I r h;obtain⟨i,j,rfl,q⟩:=h;obtain⟨u,w',rfl,⟨t,rfl⟩,⟨t',rfl⟩⟩:=qO r;refine max_two_ints (I.ok.hd hc) λh' tk k=>⟨_,H,I.kept k, ?_,q⟩
 by_cases hj:j>i
 ·rw[if_pos hj,if_pos hj];exact⟨_,rfl⟩
 ·rw[if_neg hj,if_neg hj];exact⟨_,rfl⟩
theorem TF (hc:X.calm=true):Bi X (.builtin "min") (λxs H Q=>∃i j,xs=[.int i,.int j]/\Q (.int (if j<i then j else i)) H):=by
 intro pins s σ H xs us Q I r h;obtain⟨i,j,rfl,q⟩:=h;obtain⟨u,w',rfl,⟨t,rfl⟩,⟨t',rfl⟩⟩:=qO r;refine min_two_ints (I.ok.hd hc) λh' tk k=>⟨_,H,I.kept k, ?_,q⟩
 by_cases hj:j<i
 ·rw[if_pos hj,if_pos hj];exact⟨_,rfl⟩
 ·rw[if_neg hj,if_neg hj];exact⟨_,rfl⟩
end
section
variable{prog:bj}{w:cq}{A:cm}{E:af->ag->Prop}{s:ag}{K:ao}{x dx C f:ah}{mA:Str->Option af}{name:Str}{v:af}
end
section
variable{P:bj}{w:cq}{H H':Hp}{h h':cx}{a C dx:ah}{fs fs':List (Str×V)}
end
section
variable{X:Cx}{pins:List (ah×Obj)}{σ:St}{H:Hp}{s:ag}{a C dx:ah}{fs:List (Str×V)}{f:Str}{v:V}{A:cm}{E:af->ag->Prop}
end
section
variable{X:Cx}{o e value:bo}{f:Str}{pos pos' tpos:Pos}{ta tv:TE}
end
section
variable{X:Cx}{pins:List (ah×Obj)}{σ:St}{H:Hp}{s:ag}{A:cm}{E:af->ag->Prop}{Q:af->ag->Prop}{c:af}{b:Bool}
end
structure Bt (k:Nat) (A:cm):Prop where
 hd:A.handled=none
 dp:A.depth+3*k+5<recursionLimit
 un:A.units+16*k+200<cLine
theorem Bt.mono {j k:Nat}{A:cm}(r:Bt k A) (h:j<=k):Bt j A:=⟨r.hd,by have:=r.dp;omega,by have:=r.un;omega⟩
theorem Bt.deeper {k:Nat}{A:cm}(r:Bt (k+1) A) (env:Env):Bt k (A.deeper env):=⟨r.hd,by have:=r.dp;show A.depth+1+3*k+5<_;omega,by have:=r.un;show A.units+3+16*k+200<_;omega⟩
theorem Bt.depth {k:Nat}{A:cm}(r:Bt k A):A.depth<recursionLimit:=by have:=r.dp;omega
theorem Bt.units {k:Nat}{A:cm}(r:Bt k A):A.units+64<cLine:=by have:=r.un;omega
def HC:TA:=λ_ H Q=>Q [] H
def HD (ta:TE) (tr:TA):TA:=λσ H Q=>ta σ H λx H1=>tr σ H1 λxs H2=>Q (x::xs) H2
section
variable{X:Cx}{e:bo}{es:List bo}{te:TE}{t:TA}{pos:Pos}
theorem jH:PA X [] HC:=λ_ _ _ _ H Q I h=>Calls.spliced_nil ⟨[],H,I,.nil,h⟩
theorem iE (ha:PE X e te) (hr:PA X es t) (hs:ar (e::es) X.env=(false,eval e X.env)::ar es X.env:=by rfl):PA X (e::es) (HD te t):=by intro pos pins s σ H Q I h;rw[hs];show wpAny _ _ (spliced ((false,eval e X.env)::backTo pos (ar es X.env))) _ _ s;refine Calls.spliced_cons (bD (ha pins s σ H _ I h) λu s1 ⟨x,H1,I1,r1,q1⟩=>?_);exact bD (hr pos pins s1 σ H1 _ I1 q1) λus s2 ⟨xs,H2,I2,r2,q2⟩=>⟨x::xs,H2,I2,.cons r1 r2,q2⟩
def TH (t:TA):TE:=λσ H Q=>t σ H λxs H1=>xs.length<=cf/\∀p,H1 p=none->Q (.ref p) (aT H1 p (.tup xs))
def TJ (t:TA):TE:=λσ H Q=>t σ H λxs H1=>xs.length<=cf/\∀p,H1 p=none->Q (.ref p) (aT H1 p (.lst xs))
theorem HE {x1} (h:PA X es t):PE X (.Tuple es x1 pos) (TH t):=by intro pins s σ H Q I hq;refine wpAny_Tuple_spliced (bD (h pos pins s σ H _ I hq) λus s1 ⟨xs,H1,I1,r,z,q⟩=>⟨by rw[<-r.length];exact z, ?_⟩);have hf:H1 s1.heap.objs.size=none:=I1.hok.fresh (aj _);refine⟨.ref s1.heap.objs.size,aT H1 s1.heap.objs.size (.tup xs),I1.laid (t':=s1.toks) (λb u e=>ak _ e) (aj _) ?_,rfl,q _ hf⟩;exact⟨z,us,r,⟨_,bc _ rfl,rfl,rfl,_,rfl⟩⟩
theorem TL (h:PA X es t):PE X (.List es pos) (TJ t):=by intro pins s σ H Q I hq;refine wpAny_List_spliced (bD (h pos pins s σ H _ I hq) λus s1 ⟨xs,H1,I1,r,z,q⟩=>⟨by rw[<-r.length];exact z, ?_⟩);have hf:H1 s1.heap.objs.size=none:=I1.hok.fresh (aj _);refine⟨.ref s1.heap.objs.size,aT H1 s1.heap.objs.size (.lst xs),I1.laid (t':=s1.toks) (λb u e=>ak _ e) (aj _) ?_,rfl,q _ hf⟩;exact⟨z,us,0,r,bc _ rfl⟩
end
abbrev Sp:=List V->Hp->VK->XK->Prop
abbrev mY:=List Env->Hp->ag->XK->af->ag->Prop
structure Env0 (P:bj) (w:cq) (K:ao) (mg:Str->Option af) (base:cx) (A:cm) (outer:List Env) (s:ag) (H:Hp):Prop where
 frames:A.frames=some outer
 mod:Mod K mg base
 bs:∀b o,base.get? b=some o->s.heap.get? b=some o/\H b=none
 bsz:base.objs.size<=s.heap.objs.size
 funs:s.heap.FunFrames base outer
 frf:∀b∈dZ outer,H b=none
 hok:Ci P w H s.heap
 bare:ue s.gens
def CE (outer:List Env) (P:bj) (w:cq) (H:Hp) (s:ag) (Q:VK) (u:af) (s':ag):Prop:=∃v H',s'.os=s.os/\ue s'.gens/\Un (dZ outer) [] H H' s.heap s'.heap/\Ci P w H' s'.heap/\RelV v u/\Q v H'
def CR (CX:mY) (outer:List Env) (P:bj) (w:cq) (H:Hp) (s:ag) (Q:VK) (E:XK) (r:yh) (s':ag):Prop:=
 match r with
 | .ok (.ret u)=>CE outer P w H s Q u s'
 | .ok _=>False
 | .error e=>CX outer H s E e s'
structure Bg (P:bj) (w:cq) (K:ao) (mg:Str->Option af) (base:cx) (CX:mY) (k:Nat) (f:ah) (fd:bq) (ps:Au) (sp:Sp):Prop where
 len:∀vs H Q E,sp vs H Q E->vs.length=ps.length
 run:∀(A:cm) (outer:List Env) (s:ag) (H:Hp) (args:Args) (us:List af) (vs:List V) (Q:VK) (E:XK),Bt k A->Env0 P w K mg base A outer s H->yz s fd args (ps.zip us)->Bd vs us->sp vs H Q E->
  codeAny (model P w) A (.call (.ref f) args) (CR CX outer P w H s Q E) s
section
variable{X:Cx}{pins:List (ah×Obj)}{σ:St}{H:Hp}{s s':ag}
theorem Inv.env0 (I:Inv X pins σ H s):Env0 X.prog X.w X.K X.mg X.base X.A X.stack s H:=⟨I.ok.frames,I.ok.mod,I.bs,df I.ok.bsz I.sz,I.stack,I.stkFree,I.hok,I.bare⟩
theorem Inv.after {Q:VK}{u:af}(I:Inv X pins σ H s) (h:CE X.stack X.prog X.w H s Q u s'):EP X pins σ Q u s':=by obtain⟨v,H',os,bare,un,hok,r,q⟩:=h;obtain⟨hh,g,d,t,os'⟩:=s';obtain rfl:os'=s.os:=os;exact⟨v,H',I.call (h':=hh) (g':=g) (d':=d) (t':=t) (ch:=[]) un hok bare (λb z=>absurd z (by simp)),r,q⟩
end
def TM (sp:Sp) (dvs:List V) (E:XK) (t:TA):TE:=λσ H Q=>t σ H λvs H1=>sp (vs++dvs) H1 Q E
def Binds (K:ao) (fd:bq) (ps:Au) (ds:List af):Prop:=∀(s:ag) (us:List af),K.In s.heap->(us++ds).length=ps.length->yz s fd ⟨us,[]⟩ (ps.zip (us++ds))
theorem Binds.all {K:ao}{fd:bq}{ps:Au}(h:∀us:List af,us.length=ps.length->bindArgs fd ⟨us,[]⟩=pure (ps.zip us)):Binds K fd ps []:=λs us _ hl=>by rw[qe]at hl ⊢;exact .of_eq (h us hl)
def A9 (CX:mY) (X:Cx) (E:XK):Prop:=∀(pins:List (ah×Obj)) (σ:St) (H:Hp) (s:ag) (e:af) (s':ag),Inv X pins σ H s->CX X.stack H s E e s'->X.xe e s'
section
variable{X:Cx}{CX:mY}{k:Nat}{f C:ah}{fd:bq}{ps:Au}{sp:Sp}{dvs:List V}{ds:List af}{E:XK}{x m:Str}{p pos apos:Pos}{e o:bo}{es:List bo}{ta:TE}{t:TA}
theorem TN {pins:List (ah×Obj)}{σ:St}{H:Hp}{s:ag}{Q:VK}{us:List af}{vs:List V}(F:Bg X.prog X.w X.K X.mg X.base CX k f fd ps sp) (hr:Bt k X.A) (hb:Binds X.K fd ps ds) (hd:Bd dvs ds) (hx:A9 CX X E)
  (I:Inv X pins σ H s) (r:Bd vs us) (h:sp (vs++dvs) H Q E):wpAny (model X.prog X.w) X.A (call (.ref f) us) (EP X pins σ Q) X.xe s:=by
 have r2:Bd (vs++dvs) (us++ds):=r.append hd;have hl:(us++ds).length=ps.length:=by rw[<-r2.length];exact F.len _ _ _ _ h
 refine zi (rz (F.run X.A X.stack s H ⟨us,[]⟩ (us++ds) (vs++dvs) Q E hr I.env0 (hb s us I.kIn hl) r2 h) λr s' hq=>?_)
 cases r with
 |error e=>exact hx pins σ H s e s' I hq
 |ok fl=>
  cases fl with
  |ret u=>exact I.after hq
  |next=>exact jh hq
  |brk=>exact jh hq
  |cont=>exact jh hq
theorem HF (F:Bg X.prog X.w X.K X.mg X.base CX k f fd ps sp) (hr:Bt k X.A) (hg:Gl X x) (hm:X.mg x=some (.ref f)) (hk:ki X.K (.ref f)=true) (hb:Binds X.K fd ps ds) (hd:Bd dvs ds) (hx:A9 CX X E)
  (ha:PA X (e::es) t) (Dq:(x==("__debug__" : Str))=false:=by decide) (he:ar (e::es) X.env=(false,eval e X.env)::ar es X.env:=by rfl) (Cj:(backTo pos (ar es X.env)).any (·.1)=false:=by rfl):
  PE X (.Call (.Name x p) (e::es) [] pos) (TM sp dvs E t):=by
 intro pins s σ H Q I h;refine ou (wC I hg hm ?_ Dq);refine PySem.W.callWith_K (h₀:=X.base) I.ok.mod.kin hk (bD (ha pos pins s σ H _ I h) λus s1 ⟨vs,H1,I1,r,q⟩=>⟨I1.kIn, ?_⟩) he Cj;exact TN F hr hb hd hx I1 r q
end
section
variable{X:Cx}{CX:mY}{k:Nat}{f C:ah}{fd:bq}{ps ks:Au}{sp:Sp}{E:XK}{x m:Str}{p pos apos kpos:Pos}{e o:bo}{es:List bo}{kws:List Keyword}{te ta:TE}{t tk:TA}{nm:Option Str}
variable{g:List af->List af->List af}{gV:List V->List V->List V}
end
structure Bb (N P:Au) (sc:gh):Prop where
 kind:sc.kind=.function
 co:sc.isCoroutine=false
 gen:sc.isGenerator=false
 nd:N.Nodup
 pre:N.take P.length=P
 par:∀x∈P,sc.names.lookup x=some .local∨sc.names.lookup x=some .cell
 nofree:∀y∈sc.names,y.2≠.free
theorem HG {kindOf:Str->Option lj}{x:Str}:∀{binds:List (Str×af)}{m:Str->Option af},(∀v,(x,v)∉binds)->bindL kindOf binds m x=m x
 | [],_,_=>rfl
 |(n,v)::r,m,h=>by
  unfold bindL;rw[HG λw hw=>h w (au _ hw)]
  split
  ·have:x≠n:=by rintro rfl;exact h v bg
   simp[this]
  ·rfl
theorem HH {kindOf:Str->Option lj}{x:Str}:∀{binds:List (Str×af)}{m:Str->Option af},(∀v,(x,v)∉binds)->bindC kindOf binds m x=m x
 | [],_,_=>rfl
 |(n,v)::r,m,h=>by
  unfold bindC;rw[HH λw hw=>h w (au _ hw)]
  split
  ·rfl
  ·have:x≠n:=by rintro rfl;exact h v bg
   simp[this]
theorem HI {kindOf:Str->Option lj}{x:Str}{v:af}:∀{P:Au}{vs:List af}{i:Nat}{m:Str->Option af},P.Nodup->P[i]?=some x->vs[i]?=some v->kindOf x=some .local->
  bindL kindOf (P.zip vs) m x=some v
 | [],_,_,_,_,h,_,_=>by simp at h
 |_::_,[],_,_,_,_,h,_=>by simp at h
 |p::P,w::vs,0,m,nd,h1,h2,hk=>by simp at h1 h2;subst h1;subst h2;show bindL kindOf ((p,w)::P.zip vs) m p=_;unfold bindL;rw[HG λv hv=>(jv.mp nd).1 (xg hv).1,if_pos hk];simp
 |p::P,w::vs,i+1,m,nd,h1,h2,hk=>by show bindL kindOf ((p,w)::P.zip vs) m x=_;unfold bindL;exact HI (i:=i) (jv.mp nd).2 (by simpa using h1) (by simpa using h2) hk
theorem HJ {kindOf:Str->Option lj}{x:Str}{v:af}:∀{P:Au}{vs:List af}{i:Nat}{m:Str->Option af},P.Nodup->P[i]?=some x->vs[i]?=some v->kindOf x≠some .local->
  bindC kindOf (P.zip vs) m x=some v
 | [],_,_,_,_,h,_,_=>by simp at h
 |_::_,[],_,_,_,_,h,_=>by simp at h
 |p::P,w::vs,0,m,nd,h1,h2,hk=>by simp at h1 h2;subst h1;subst h2;show bindC kindOf ((p,w)::P.zip vs) m p=_;unfold bindC;rw[HH λv hv=>(jv.mp nd).1 (xg hv).1,if_neg hk];simp
 |p::P,w::vs,i+1,m,nd,h1,h2,hk=>by show bindC kindOf ((p,w)::P.zip vs) m x=_;unfold bindC;exact HJ (i:=i) (jv.mp nd).2 (by simpa using h1) (by simpa using h2) hk
def start (N:Au) (vs:List V):St:=vs.map some++bu (N.length - vs.length) none
def fR (CX:mY) (P:bj) (w:cq) (K:ao) (mg:Str->Option af) (base:cx) (N:Au) (qual:Str) (scope:gh) (f:ah) (cd:af) (A:cm) (outer:List Env) (s:ag) (H:Hp) (E:XK):Cx where
 prog:=P
 w:=w
 K:=K
 mg:=mg
 base:=base
 A:=A.deeper (envOfC qual scope s.heap.objs.size f cd)
 N:=N
 s₀:=s
 H₀:=H
 env:=envOfC qual scope s.heap.objs.size f cd
 outer:=outer
 stack:=envOfC qual scope s.heap.objs.size f cd::outer
 ex:=[]
 calm:=true
 fn:=λ_=>true
 pn:=[]
 xe:=λe s'=>wpAny (model P w) (A.deeper (envOfC qual scope s.heap.objs.size f cd)) (leaving (envOfC qual scope s.heap.objs.size f cd) e) (λ_ s''=>CX outer H s E e s'') (λe' s''=>CX outer H s E e' s'') s'
theorem HK {sc:gh}{n:Nat}{x:Str}(h:sc.names.lookup x=some .cell):∃c,(cellsFrom n sc.names []).lookup x=some c:=by have q:=yi sc.names n [] (.inl h);exact xw.mp q
theorem TQ {CX:mY}{P:bj}{w:cq}{K:ao}{mg:Str->Option af}{base:cx}{N ps:Au}{qual:Str}{scope:gh}{f:ah}{cd:af}{A:cm}{outer:List Env}{s s1:ag}{H:Hp}{E:XK}{us:List af}{vs:List V}
  (S:Bb N ps scope) (hd:A.handled=none) (e0:Env0 P w K mg base A outer s H) (hl:vs.length=ps.length) (r:Bd vs us)
  (x:InCallC s s.heap.objs.size (bindL (envOfC qual scope s.heap.objs.size f cd).kindOf (ps.zip us) λ_=>none) (cellsFrom (s.heap.objs.size+1) scope.names []) (bindC (envOfC qual scope s.heap.objs.size f cd).kindOf (ps.zip us) λ_=>none) s1):
  Inv (fR CX P w K mg base N qual scope f cd A outer s H E) [] (start N vs) H s1:=by
 have Cj:ps.length<=N.length:=by have:=congrArg qc S.pre;rw[ji]at this;omega
 obtain⟨h1,tk,rfl,hk⟩:=x.done;have noA:∀b:ah,b∉(fR CX P w K mg base N qual scope f cd A outer s H E).ex:=λb z=>absurd (show b∈([]:List ah) from z) (by simp);refine⟨⟨e0.mod,S.kind,rfl,rfl,aj _,λy z c h1 h2=>?_,λy hy=>?_,λy c _ h=>?_,λ_=>hd,zb e0.frames,.inr ⟨rfl,rfl⟩,λb z=>absurd z (noA b),e0.bs,e0.bsz,λb _ _=>noA b,λb z=>absurd z (noA b),e0.funs,e0.frf⟩,
  rfl,e0.bare,Un.kept hk,⟨_,x.toInCall.ns,λi y v h1 h2 h3=>?_⟩,λy c h=>⟨_,x.cell y c h⟩,e0.hok.fresh (aj _),λy c h=>?_,λp hp=>absurd (show p∈([]:List (ah×Obj)) from hp) (by simp),e0.hok.kept hk, ?_⟩
 ·exact name_of_addr x.apart (fq h1) (fq h2)
 ·have hy:scope.names.lookup y=some .cell∨scope.names.lookup y=some .free:=hy
  rcases hy with hy|hy
  ·exact HK hy
  ·exact absurd rfl (S.nofree _ (fq hy))
 ·exact iq (x.above y c (fq h))
 ·have hi:i<vs.length:=by
   unfold start at h2
   by_cases hi:i<vs.length
   ·exact hi
   ·rw[fv (by simpa using hi)]at h2;rw[tm]at h2
    split at h2 <;> cases h2
  have ha:vs[i]?=some v:=by
   unfold start at h2;rw[ff (by simpa using hi),dk]at h2
   cases e:vs[i]? with
   |none=>rw[e]at h2;cases h2
   |some a=>rw[e]at h2;cases h2;rfl
  obtain⟨u,hu,rv⟩:=r.get ha;have hp:ps[i]?=some y:=by rw[<-S.pre,yt (by omega)];exact h1
  have ndP:ps.Nodup:=by rw[<-S.pre];exact S.nd.sublist (List.take_sublist _ _)
  refine⟨u,rv, ?_⟩
  rcases S.par y (cu hp)with k|k
  ·exact .inl ⟨k,HI ndP hp hu k⟩
  ·obtain⟨c,e⟩:=HK (n:=s.heap.objs.size+1) k;refine .inr ⟨.inl k,c,e, ?_⟩;have q:=x.cell y c e;rw[HJ ndP hp hu (by show scope.names.lookup y≠_;rw[k];decide)]at q;exact q
 ·exact e0.hok.fresh (iq (x.above y c (fq h)))
 ·unfold start;show _=N.length;rw[bw,ba,zj];omega
theorem BA {CX:mY}{P:bj}{w:cq}{K:ao}{mg:Str->Option af}{base:cx}{k:Nat}{f:ah}{name qual:Str}{params:km}{body:List gz}{scope:gh}{dV kV doc pm cdv ct oc:af}{an od:Option ah}
  {osl:Array (Option af)}{N ps:Au}{sp:Sp}(lk:K.lookup f=some ⟨oc,od,.func (qd name qual params body scope dV kV doc pm an cdv ct),osl⟩) (hcd:xb K cdv qual=true) (S:Bb N ps scope)
  (len:∀vs H Q E,sp vs H Q E->vs.length=ps.length)
  (Bw:∀(A:cm) (outer:List Env) (s:ag) (H:Hp) (vs:List V) (Q:VK) (E:XK),Bt k (A.deeper (envOfC qual scope s.heap.objs.size f cdv))->sp vs H Q E->
   ∃t,Fe (fR CX P w K mg base N qual scope f cdv A outer s H E) body t/\t { nx:=λ_ H'=>Q .non H',rt:=Q } (start N vs) H):
  Bg P w K mg base CX (k+1) f (qd name qual params body scope dV kV doc pm an cdv ct) ps sp:=by
 refine⟨len,λA outer s H args us vs Q E hr e0 hb r hsp=>?_⟩;have hl:=len _ _ _ _ hsp;have KX:K.In s.heap:=e0.mod.kin.keeps λb o e=>(e0.bs b o e).1;have lim:s.heap.NoLimit:=e0.mod.nolimit.keeps λb o e=>(e0.bs b o e).1;have Dw:∀y∈ps.zip us,scope.names.lookup y.1=some .local∨(scope.names.lookup y.1=some .cell/\((cellsFrom (s.heap.objs.size+1) scope.names []).lookup y.1).isSome=true):=λ⟨n,v⟩ hy=>by
  rcases S.par n (xg hy).1 with q|q
  ·exact .inl q
  ·exact .inr ⟨q,yi _ _ _ (.inl q)⟩
 refine codeAny_call_function hr.depth (KX _ _ lk) rfl S.co S.gen rfl (PySem.W.codeRec_of KX hcd) (hb _ _ _ _ ?_);refine wpAny_newFunctionEnv_cells S.kind Dw λenv he s1 x=>?_;subst he;refine⟨lim.keeps x.toInCall.keep,codeAny_func ?_⟩;obtain⟨t,ht,hq⟩:=Bw A outer s H vs Q E (hr.deeper _) hsp;have I:Inv (fR CX P w K mg base N qual scope f cdv A outer s H E) [] (start N vs) H s1:=TQ S hr.hd e0 hl r x;refine ku (ht [] s1 (start N vs) H _ I hq) (λfl s' hs=>?_) λe s' hs=>hs;have fin:∀{σ':St}{H':Hp}{v:V}{u:af},Inv (fR CX P w K mg base N qual scope f cdv A outer s H E) [] σ' H' s'->RelV v u->Q v H'->CE outer P w H s Q u s':=λ{σ' H' v u} J rv q=>⟨v,H',J.os,J.bare,J.base,J.hok,rv,q⟩
 cases fl with
 |ret u=>obtain⟨v,σ',H',J,rv,q⟩:=hs;exact fin J rv q
 |next=>obtain⟨σ',H',J,q⟩:=hs;exact fin (v:=V.non) (u:=jy) J rfl q
 |brk=>obtain⟨_,_,_,q⟩:=hs;exact jh q
 |cont=>obtain⟨_,_,_,q⟩:=hs;exact jh q
section
variable{X:Cx}{x:Str}{p pos:Pos}{e:bo}{es:List bo}{t:TA}{id T:String}{r:List V->Hp->VK->Prop}
def wI (r:List V->Hp->VK->Prop) (t:TA):TE:=λσ H Q=>t σ H λvs H1=>r vs H1 Q
theorem sR (hc:Bi X (.builtin id) r) (hg:Gl X x) (hm:X.mg x=none) (hv:dy x=some (.builtin id)) (ha:PA X (e::es) t) (hn:x ≠ "__name__" := by decide) (Dq:(x==("__debug__" : Str))=false:=by decide)
  (he:ar (e::es) X.env=(false,eval e X.env)::ar es X.env:=by rfl) (Cj:(backTo pos (ar es X.env)).any (·.1)=false:=by rfl):PE X (.Call (.Name x p) (e::es) [] pos) (wI r t):=by
 intro pins s σ H Q I h;refine ou (nW I hg hm hv ?_ hn Dq);exact PyProof.Rows.callWith_builtin1 (bD (ha pos pins s σ H _ I h) λus s1 ⟨vs,H1,I1,r1,q1⟩=>hc pins s1 σ H1 vs us Q I1 r1 q1) he Cj
theorem wJ (hc:Bi X (.type T) r) (hg:Gl X x) (hm:X.mg x=none) (hv:dy x=some (.type T)) (ha:PA X (e::es) t) (hn:x ≠ "__name__" := by decide) (Dq:(x==("__debug__" : Str))=false:=by decide)
  (he:ar (e::es) X.env=(false,eval e X.env)::ar es X.env:=by rfl) (Cj:(backTo pos (ar es X.env)).any (·.1)=false:=by rfl):PE X (.Call (.Name x p) (e::es) [] pos) (wI r t):=by
 intro pins s σ H Q I h;refine ou (nW I hg hm hv ?_ hn Dq);exact jr (bD (ha pos pins s σ H _ I h) λus s1 ⟨vs,H1,I1,r1,q1⟩=>hc pins s1 σ H1 vs us Q I1 r1 q1) he Cj
end
end L2
namespace HT
open PySem PyProof.Rows
def lexLt:Aq->Aq->Bool
 | [],[]=>false
 | [],_::_=>true
 |_::_,[]=>false
 |x::xs,y::ys=>if x=y then lexLt xs ys else decide (x<y)
theorem lexLt_cons (x y:Int) (xs ys:Aq):lexLt (x::xs) (y::ys)=if x=y then lexLt xs ys else decide (x<y):=rfl
theorem TR:lexLt [] []=false:=rfl
theorem TU (y:Int) (ys:Aq):lexLt [] (y::ys)=true:=rfl
theorem TV (x:Int) (xs:Aq):lexLt (x::xs) []=false:=rfl
theorem TX (A:cm) (s:ag) (a:Int) (t:Tok) (c:Int) (u:Tok):∃e,kv A s (.int a t) (.int c u) e/\(e=true↔a=c):=⟨(a==c),SeqAt.EqAt.int_int a t c u,by simp⟩
theorem TY (A:cm) (s:ag) (a:Int) (t:Tok) (c:Int) (u:Tok) (prog:bj) (w:cq) (E:af->ag->Prop) (Q:af->ag->Prop) (h:Q (.bool (decide (a<c))) s):
  wpAny (model prog w) A (richCompare .Lt (.int a t) (.int c u)) Q E s:=
 (xj h:wpAny (model prog w) A (compareOp .Lt (.int a t) (.int c u)) Q E s)
section
open PySem.SeqAt
open PySem.AutoSeq1 (wpAny_loadPart')
open PySem.MeetsSeq PySem.MeetsSeq2 PySem.MeetsSeq3
theorem TZ (l b:ah) (items Ca:Array af) (n n2:Nat) (dd dd2:Option ah) (sl sl2:Array (Option af)) (ns ms:Aq) (hi:lg items.toList ns) (hj:lg Ca.toList ms):
  Meets (nq.«tuple.__lt__» ⟨[.ref l,.ref b],[]⟩)
   (λ_ R s=>s.heap.get? l=some { cls:=.type "tuple",dict:=dd,data:=.seq items n,slots:=sl }/\s.heap.get? b=some { cls:=.type "tuple",dict:=dd2,data:=.seq Ca n2,slots:=sl2 } /\
    R (.ok (.ret (.bool (lexLt ns ms)))) s):=
 .of_wp λprog w A R s h=>by
  obtain⟨hp,g,d,tk,os⟩:=s;obtain⟨hl,hb,h⟩:=h;have f2:=AutoSeq1.sub_tuple_tuple;have z1:items.size=ns.length:=by rw[<-hi.length];simp
  have z2:Ca.size=ms.length:=by rw[<-hj.length];simp
  wp_walk using wpAny_loadPart' hl,wpAny_loadPart' hb,qi _ (λrest b s'=>b.1=none/\s'=⟨hp,g,d,tk,os⟩/\∃(vs ws:List af) (ns' ms':Aq),rest=vs.zip ws /\
   lg vs ns'/\lg ws ms'/\ns'.length+Ca.size=ms'.length+items.size/\R (.ok (.ret (.bool (lexLt ns' ms')))) ⟨hp,g,d,tk,os⟩) _
  case turn=>
   rintro ⟨y,x⟩ rest b s' ⟨hb',rfl,vs,ws,ns',ms',hz,hvi,hwi,hlen,hR⟩
   cases hvi with
   |nil=>rw[List.zip_nil_left]at hz;cases hz
   |cons a t hvi'=>
    cases hwi with
    |nil=>rw[List.zip_nil_right]at hz;cases hz
    |cons c u hwi'=>
     rw[vp]at hz;injection hz with hyx Ej;injection hyx with hy hx;subst hy hx;rw[lexLt_cons]at hR;simp only[cy]at hlen;obtain⟨e,he,hiff⟩:=TX A.in1 ⟨hp,g,d,tk,os⟩ a t c u;refine ae (he prog w _ _ ?_)
     cases e with
     |true=>
      rw[if_pos (hiff.mp rfl)]at hR
      wp_walk
      exact⟨rfl,rfl,_,_,_,_,Ej,hvi',hwi',by omega,hR⟩
     |false=>
      rw[if_neg (λq=>absurd (hiff.mpr q) ie)]at hR;have hri:=TY A.in1 ⟨hp,g,d,tk,os⟩ a t c u prog w
      wp_walk using hri
      exact⟨_,rfl,by simpa using hR⟩
  case fin=>
   rintro ⟨b1,b2⟩ s' ⟨hb',rfl,vs,ws,ns',ms',hz,hvi,hwi,hlen,hR⟩
   simp only at hb';subst hb';have hv:lexLt ns' ms'=decide (items.size<Ca.size):=by
    cases hvi with
    |nil=>
     cases hwi with
     |nil=>simp only[qf]at hlen;rw[TR];exact(decide_eq_false (by omega)).symm
     |cons c u hw=>simp only[qf,cy]at hlen;rw[TU];exact(decide_eq_true (by omega)).symm
    |cons a t hv=>
     cases hwi with
     |nil=>simp only[qf,cy]at hlen;rw[TV];exact(decide_eq_false (by omega)).symm
     |cons c u hw=>rw[vp]at hz;cases hz
   rw[hv]at hR
   wp_walk
   exact⟨_,rfl,by simpa[Builtin.Tuple.tupleCompareSizes]using hR⟩
  case h=>exact⟨rfl,rfl,items.toList,Ca.toList,ns,ms,rfl,hi,hj,by omega,h⟩
end
section
variable{prog:bj}{w:cq}{A:cm}{E:af->ag->Prop}{s:ag}
theorem lt_tupInts {l b:ah}{items Ca:Array af}{ns ms:Aq}{Q:af->ag->Prop}(hl:zg s.heap l items) (hb:zg s.heap b Ca) (hi:lg items.toList ns) (hj:lg Ca.toList ms)
  (hu:A.units<cLine) (h:Q (.bool (lexLt ns ms)) s):wpAny (model prog w) A (compareOp .Lt (.ref l) (.ref b)) Q E s:=by
 obtain⟨⟨cls,dd,data,sl⟩,ho,hc,n,hd⟩:=id hl;obtain⟨⟨cls2,dd2,data2,sl2⟩,ho2,hc2,n2,hd2⟩:=id hb;simp only at hc hd hc2 hd2;subst hc hd hc2 hd2;exact richCompare_meets_room (op:=.Lt) ⟨_,ho,rfl⟩ ⟨_,ho2,rfl⟩ PySem.F.slot_tuple_lt PySem.F.entry_tuple_lt (PySem.F.args_tuple_lt_2 _ _) (TZ l b items Ca n n2 dd dd2 sl sl2 ns ms hi hj)
  ⟨ho,ho2,show Ae (lexLt ns ms)≠Value.notImplemented/\Q (.bool (lexLt ns ms)) s from⟨(λx=>nomatch x),h⟩⟩ hu
theorem cat_tup {t b:ah}{vs ws:List af}{Q:af->ag->Prop}(ht:zg s.heap t vs.toArray) (hb:zg s.heap b ws.toArray) (hv:vs≠[])
  (h1:ws=[]->Q (.ref t) s) (h2:ws≠[]->Q (.ref s.heap.objs.size) { s with heap:=s.heap.push { cls:=.type "tuple",data:=.seq (vs++ws).toArray } })
  (Cf:vs.length+ws.length<=cf):wpAny (model prog w) A (binaryOp .Add (.ref t) (.ref b)) Q E s:=by
 obtain⟨⟨cls,dd,data,sl⟩,ho,hc,n,hd⟩:=id ht;obtain⟨⟨cls2,dd2,data2,sl2⟩,ho2,hc2,n2,hd2⟩:=id hb;simp only at hc hd hc2 hd2;subst hc hd hc2 hd2;have e:vs.toArray++ws.toArray=(vs++ws).toArray:=by simp
 by_cases hw:ws=[]
 ·exact concat_meets ⟨_,ho,rfl⟩ ⟨_,ho2,rfl⟩ yj Ag sv sd (rj _ _)
   (tuple_addW1 t b vs.toArray ws.toArray n n2 dd dd2 sl sl2 (by simpa using hv) (by simp[hw])) ⟨ho,ho2,h1 hw⟩
 ·refine concat_meets ⟨_,ho,rfl⟩ ⟨_,ho2,rfl⟩ yj Ag sv sd (rj _ _)
   (tuple_addW2 t b vs.toArray ws.toArray n n2 dd dd2 sl sl2 (by simpa using hv) (by simpa using hw) (by rw[aw,aw];exact Cf)) ⟨ho,ho2, ?_⟩
  rw[e];exact h2 hw
def sIx (n d:Nat):Option Int->Nat
 |none=>d
 |some v=>if v<0 then(v+(n:Int)).toNat else min v.toNat n
theorem sIx_none (n d:Nat):sIx n d none=d:=rfl
theorem sIx_nat (n d k:Nat):sIx n d (some (k:Int))=min k n:=by show(if(k:Int)<0 then((k:Int)+(n:Int)).toNat else min (k:Int).toNat n)=min k n;rw[if_neg (by omega),fi]
theorem T1 (n d:Nat) (hd:d<=n) (o:Option Int):sIx n d o<=n:=by
 cases o with
 |none=>exact hd
 |some v=>
  show(if v<0 then(v+(n:Int)).toNat else min v.toNat n)<=n
  by_cases hv:v<0
  ·rw[if_pos hv];omega
  ·rw[if_neg hv];exact Nat.min_le_right _ _
theorem HL (v:Int) (n d:Nat):(if v<0 then max (v+(n:Int)) 0 else min v (n:Int))=((sIx n d (some v):Nat):Int):=by
 show(if v<0 then max (v+(n:Int)) 0 else min v (n:Int))=(((if v<0 then(v+(n:Int)).toNat else min v.toNat n):Nat):Int)
 by_cases hv:v<0
 ·simp only[if_pos hv];omega
 ·simp only[if_neg hv];omega
theorem T3 (lo hi:Option Int) (n:Nat):pj lo hi 1 (n:Int)=(((sIx n 0 lo:Nat):Int),((sIx n n hi:Nat):Int)):=by
 have h1:¬ ((1:Int)<0):=by omega
 unfold pj;simp only[h1,if_false];refine Prod.ext ?_ ?_
 ·cases lo with
  |none=>rfl
  |some v=>exact HL v n 0
 ·cases hi with
  |none=>rfl
  |some v=>exact HL v n n
theorem T4 (i j:Nat):ll (i:Int) (j:Int) 1=j - i:=by
 unfold ll;have h1:(1:Int)>0:=by omega
 simp only[h1,if_true,Int.ediv_one]
 split <;> omega
theorem HM {v:af}{o:Option Int}{Q:Option Int->ag->Prop}(p:vt v o) (h:Q o s):wpAny (model prog w) A (Builtin.Slice.slicePartIndex v) Q E s:=by
 cases p with
 |none=>exact slicePart_none h
 |int i t=>exact slicePart_int h
theorem sliceApplied_gen {sl:ah}{vl vu:af}{lo hi:Option Int}{n:Nat}{Q:Int×Int×Nat->ag->Prop}(hs:s.heap.IsSliceOf sl vl vu .none) (pl:vt vl lo) (pu:vt vu hi)
  (h:Q (((sIx n 0 lo:Nat):Int),1,sIx n n hi - sIx n 0 lo) s):wpAny (model prog w) A (vj (.ref sl) (pure (n:Int))) Q E s:=by
 obtain⟨os,hos,hcs,hds⟩:=id hs;unfold vj Builtin.Slice.sliceFields;refine ae (ae (gm hos hds (x:=vl) rfl (ae (gm hos hds (x:=vu) rfl (ae (gm hos hds (x:=.none) rfl (ai ?_)))))));refine ae (slicePart_none ?_);show wpAny _ _ (if((1:Int)==0)=true then _ else _) _ _ s;rw[if_neg (by decide)];refine ae (HM pl (ae (HM pu (ae (ai ?_)))));show wpAny _ _ (match pj lo hi 1 (n:Int)with|(lo,hi)=>pure (lo,(1:Int),ll lo hi 1)) _ _ s;rw[T3 lo hi n];show wpAny _ _ (pure (((sIx n 0 lo:Nat):Int),(1:Int),ll ((sIx n 0 lo:Nat):Int) ((sIx n n hi:Nat):Int) 1)) _ _ s;rw[T4];exact ai h
theorem T5 (xs:Array af) (i k:Nat):((bf k).filterMap λ(m:Nat)=>xs[((i:Int)+(m:Int)*1).toNat]?).toArray=((xs.toList.drop i).take k).toArray:=by
 have e:(λ(m:Nat)=>xs[((i:Int)+(m:Int)*1).toNat]?)=λm=>xs[i+m]?:=by
  funext m
  have:((i:Int)+(m:Int)*1).toNat=i+m:=by omega
  rw[this]
 rw[e];have:=pick_run xs i k;rw[qv]at this;have e2:((λx=>xs[x]?)∘λx=>i+x)=λm=>xs[i+m]?:=rfl;rw[e2]at this;rw[this]
theorem getItem_tuple_cut {t sl:ah}{items:Array af}{vl vu:af}{lo hi:Option Int}{Q:af->ag->Prop}(ht:zg s.heap t items) (hs:s.heap.IsSliceOf sl vl vu .none) (pl:vt vl lo) (pu:vt vu hi)
  (hw:¬ (sIx items.size 0 lo=0/\sIx items.size items.size hi=items.size))
  (h:Q (.ref s.heap.objs.size) { s with heap:=s.heap.push { cls:=.type "tuple",data:=.seq ((items.toList.drop (sIx items.size 0 lo)).take (sIx items.size items.size hi - sIx items.size 0 lo)).toArray } })
  (Cf:items.size<=cf):wpAny (model prog w) A (getItem (.ref t) (.ref sl)) Q E s:=by
 have htake:sizeOk (.seq ((items.toList.drop (sIx items.size 0 lo)).take (sIx items.size items.size hi - sIx items.size 0 lo)).toArray):=by show((items.toList.drop (sIx items.size 0 lo)).take (sIx items.size items.size hi - sIx items.size 0 lo)).toArray.size<=cf;rw[aw,ji,pd,nc];omega
 have hj:sIx items.size items.size hi<=items.size:=T1 _ _ (aj _) hi;obtain⟨os,hos,hcs,hds⟩:=id hs;have hTs:s.TypeIs (.ref sl) "slice" := ⟨os,hos,hcs⟩;unfold getItem
 try with_reducible refine gw ?_
 first|refine ae (ai ?_)|skip
 refine ae (wpAny_sequenceKey ht.typeIs (by decide) ?_);refine ae (ik (name:=nh "__getitem__") ht.typeIs gv
  (gy gv ht.typeIs entry_tuple_getitem ?_ (args_tuple_getitem _ _)))
 show wpAny _ _ (vk (.ref t) >>= _) _ _ s;refine ae (Ah ht ?_);refine ae (sf hTs ?_);rw[if_pos (by decide)];refine ae (sliceApplied_gen hs pl pu ?_);have hno:¬ ((((sIx items.size 0 lo:Nat):Int)==0&&(1:Int)==1&&(sIx items.size items.size hi - sIx items.size 0 lo)==items.size)=true):=by intro q;rw[fe,fe]at q;have q1:((sIx items.size 0 lo:Nat):Int)=0:=eq_of_beq q.1.1;have q2:sIx items.size items.size hi - sIx items.size 0 lo=items.size:=eq_of_beq q.2;exact hw ⟨by omega,by omega⟩
 show wpAny _ _ (if(((sIx items.size 0 lo:Nat):Int)==0&&(1:Int)==1&&(sIx items.size items.size hi - sIx items.size 0 lo)==items.size)=true then _ else _) _ _ s;rw[if_neg hno,T5]
 first
  |exact ae (m:=ly _) (fz (ai ⟨_,rfl,ai h⟩) htake)
  |exact ae (m:=ly _) (fz (ae (ai (ai ⟨_,rfl,ai h⟩))) htake)
  |exact ae (ae (m:=ly _) (fz (ai (ai ⟨_,rfl,ai h⟩)) htake))
  |exact ae (ae (m:=ly _) (fz (ai ⟨_,rfl,ai h⟩) htake))
end
end HT
namespace L2
open PySem PySem.Spec PyProof.Rows
abbrev TO:=St->Hp->(Option Int->Hp->Prop)->Prop
def PO (X:Cx) (e:Option bo) (t:TO):Prop:=
 ∀(pins:List (ah×Obj)) (s:ag) (σ:St) (H:Hp) (Q:Option Int->Hp->Prop),Inv X pins σ H s->t σ H Q->
  wpAny (model X.prog X.w) X.A (evalPart e X.env) (λu s'=>∃o H',Inv X pins σ H' s'/\vt u o/\Q o H') X.xe s
def T6:TO:=λ_ H Q=>Q none H
def T7 (t:TE):TO:=λσ H Q=>t σ H λx H1=>∃i,x=.int i/\Q (some i) H1
theorem HN {ns:Aq}:∀{us:List af},Bd (ns.map V.int) us->lg us ns:=by
 induction ns with
 |nil=>intro us r;rw[wb]at r;cases r;exact .nil
 |cons n ns ih=>
  intro us r;rw[da]at r
  cases r with
  |cons r1 r2=>obtain⟨t,e⟩:=r1;subst e;exact .cons n t (ih r2)
section
variable{X:Cx}{e:bo}{te:TE}{lo hi:Option bo}{tl th:TO}{pos p2:Pos}
theorem T9:PO X none T6:=by intro pins s σ H Q I h;rw[evalPart_none];exact ai ⟨none,H,I,.none,h⟩
theorem UA (h:PE X e te):PO X (some e) (T7 te):=by intro pins s σ H Q I hw;rw[evalPart_some];refine bD (h pins s σ H _ I hw) λu s1 ⟨x,H1,I1,r1,q1⟩=>?_;obtain⟨i,rfl,q⟩:=q1;obtain⟨t,rfl⟩:=r1;exact⟨some i,H1,I1,.int i t,q⟩
def SlR (X:Cx) (r:V->Option Int->Option Int->Hp->VK->Prop):Prop:=
 ∀(pins:List (ah×Obj)) (s:ag) (σ:St) (H:Hp) (x:V) (v vl vu:af) (lo hi:Option Int) (sl:ah) (Q:VK),Inv X pins σ H s->RelV x v->s.heap.IsSliceOf sl vl vu .none->vt vl lo->vt vu hi->r x lo hi H Q->
  ∃T id,typeLookup (.type T) "__getitem__" = pure (some (.builtin id))/\s.TypeIs v T/\wpAny (model X.prog X.w) X.A (getItem v (.ref sl)) (EP X pins σ Q) X.xe s
theorem SlR.or {r r':V->Option Int->Option Int->Hp->VK->Prop}(h:SlR X r) (h':SlR X r'):SlR X (λx lo hi H Q=>r x lo hi H Q∨r' x lo hi H Q):=by
 intro pins s σ H x v vl vu lo hi sl Q I rx hs pl pu q
 rcases q with q|q
 ·exact h pins s σ H x v vl vu lo hi sl Q I rx hs pl pu q
 ·exact h' pins s σ H x v vl vu lo hi sl Q I rx hs pl pu q
def UB (r:V->Option Int->Option Int->Hp->VK->Prop) (te:TE) (tl th:TO):TE:=λσ H Q=>te σ H λx H1=>tl σ H1 λl H2=>th σ H2 λu H3=>r x l u H3 Q
theorem UC {r:V->Option Int->Option Int->Hp->VK->Prop}(hr:SlR X r) (he:PE X e te) (hl:PO X lo tl) (hu:PO X hi th):PE X (.Subscript e (.Slice lo hi none p2) pos) (UB r te tl th):=by intro pins s σ H Q I h;refine Subscript_ (bD (he pins s σ H _ I h) λv s1 ⟨x,H1,I1,r1,q1⟩=>?_);refine wpAny_Slice (bD (hl pins s1 σ H1 _ I1 q1) λvl s2 ⟨l,H2,I2,pl,q2⟩=>bD (hu pins s2 σ H2 _ I2 q2) λvu s3 ⟨u,H3,I3,pu,q3⟩=>?_);rw[evalPart_none];refine ai ?_;have I4:Inv X pins σ H3 { s3 with heap:=s3.heap.push { cls:=.type "slice",data:=.fields #[vl,vu,.none] } }:=I3.kept (t':=s3.toks) λb ob q=>ak _ q;obtain⟨T,id,hT,ht,hg⟩:=hr pins { s3 with heap:=s3.heap.push { cls:=.type "slice",data:=.fields #[vl,vu,.none] } } σ H3 x v vl vu l u s3.heap.objs.size Q I4 r1 (Heap.IsSliceOf.new ..) pl pu q3;show wpAny (model X.prog X.w) X.A (subscriptTail e (.Slice lo hi none p2) v (.ref s3.heap.objs.size)) (EP X pins σ Q) X.xe { s3 with heap:=s3.heap.push { cls:=.type "slice",data:=.fields #[vl,vu,.none] } };exact tail_any (ops:=[.ref s3.heap.objs.size,v]) ht hT hg (by with_unfolding_all rfl)
def nX (xs:List V) (lo hi:Option Int):List V:=(xs.drop (HT.sIx xs.length 0 lo)).take (HT.sIx xs.length xs.length hi - HT.sIx xs.length 0 lo)
theorem HP (xs:List V) (lo hi:Option Int):(nX xs lo hi).length<=xs.length:=by unfold nX;rw[ji,pd];omega
def UD (K:ao):V->Option Int->Option Int->Hp->VK->Prop:=λx lo hi H Q=>∃a xs,x=.ref a/\Bp K H a xs /\
 ¬ (HT.sIx xs.length 0 lo=0/\HT.sIx xs.length xs.length hi=xs.length)/\∀p,H p=none->Q (.ref p) (aT H p (.tup (nX xs lo hi)))
theorem UE:SlR X (UD X.K):=by
 intro pins s σ H x v vl vu lo hi sl Q I rx hs pl pu h;obtain⟨a,xs,rfl,hx,hw,q⟩:=h;cases rx;obtain⟨its,r,ht,hz⟩:=I.tuple hx;have hlen:its.toArray.size=xs.length:=by rw[aw];exact r.length.symm
 refine⟨"tuple",_,gv.lookup,ht.typeIs, ?_⟩;refine HT.getItem_tuple_cut ht hs pl pu (by rw[hlen];exact hw) ?_ (by rw[hlen];exact hz);rw[hlen];refine⟨.ref s.heap.objs.size,_,I.laid (t':=s.toks) (o:=.tup (nX xs lo hi)) (λb ob q=>ak _ q) (aj _) ?_,rfl,q _ (I.hok.fresh (aj _))⟩;exact⟨df (HP xs lo hi) hz,_,(r.drop (HT.sIx xs.length 0 lo)).take (HT.sIx xs.length xs.length hi - HT.sIx xs.length 0 lo),Bx.new _ _⟩
def HQ (K:ao):R2:=λx y H Q=>∃a b ns ms,x=.ref a/\y=.ref b/\Bp K H a (ns.map V.int)/\Bp K H b (ms.map V.int)/\Q (.bl (HT.lexLt ns ms)) H
theorem HR (hu:X.A.units<cLine):Cg X (compareOp .Lt) (HQ X.K):=by intro pins s σ H x y v u Q I rx ry h;obtain⟨a,b,ns,ms,rfl,rfl,ha,hb,q⟩:=h;cases rx;cases ry;obtain⟨its,r1,p1,_⟩:=I.tuple ha;obtain⟨Cm,r2,p2,_⟩:=I.tuple hb;have i1:lg its.toArray.toList ns:=HN r1;have i2:lg Cm.toArray.toList ms:=HN r2;exact HT.lt_tupInts p1 p2 i1 i2 hu ⟨.bl (HT.lexLt ns ms),H,I,rfl,q⟩
def HS (K:ao):R2:=λx y H Q=>∃a b xs ys,x=.ref a/\y=.ref b/\Bp K H a xs/\Bp K H b ys/\xs≠[]/\xs.length+ys.length<=cf /\
 (ys=[]->Q (.ref a) H)/\(ys≠[]->∀p,H p=none->Q (.ref p) (aT H p (.tup (xs++ys))))
theorem Bd.nil_iff {xs:List V}{us:List af}(r:Bd xs us):us=[]↔xs=[]:=by
 cases r with
 |nil=>simp
 |cons _ _=>simp
theorem UG:Cg X (binaryOp .Add) (HS X.K):=by intro pins s σ H x y v u Q I rx ry h;obtain⟨a,b,xs,ys,rfl,rfl,ha,hb,hx,hz,q1,q2⟩:=h;cases rx;cases ry;obtain⟨its,r1,p1,_⟩:=I.tuple ha;obtain⟨Cm,r2,p2,_⟩:=I.tuple hb;refine HT.cat_tup p1 p2 (λz=>hx (r1.nil_iff.mp z)) (λz=>⟨.ref a,H,I,rfl,q1 (r2.nil_iff.mp z)⟩) (λz=>?_) (by rw[<-r1.length,<-r2.length];exact hz);refine⟨.ref s.heap.objs.size,_,I.laid (t':=s.toks) (o:=.tup (xs++ys)) (λb ob q=>ak _ q) (aj _) ?_,rfl,q2 (λw=>z (r2.nil_iff.mpr w)) _ (I.hok.fresh (aj _))⟩;exact⟨by rw[bw];exact hz,_,r1.append r2,Bx.new _ _⟩
end
def gE (n:Nat) (i:Int):Option Nat:=if 0<=i then(if i<n then some i.toNat else none)else if -(n:Int)<=i then some (i+n).toNat else none
def iF {α:Type}(xs:List α) (i:Int):Option α:=(gE xs.length i).bind λj=>xs[j]?
theorem BB {n:Nat}{i:Int}{j:Nat}(h:gE n i=some j):seqIndex? i n=some j/\j<n/\-(n:Int)<=i/\i<n:=by
 unfold gE at h
 by_cases h0:0<=i
 ·rw[if_pos h0]at h
  by_cases h1:i<n
  ·rw[if_pos h1]at h;have e:i.toNat=j:=cw h;exact⟨by rw[seqIndex_of h0 h1,e],by omega,by omega,h1⟩
  ·rw[if_neg h1]at h;cases h
 ·rw[if_neg h0]at h
  by_cases h1 : -(n:Int)<=i
  ·rw[if_pos h1]at h;have e:(i+n).toNat=j:=cw h;exact⟨by rw[seqIndex_neg (by omega) h1,e],by omega,h1,by omega⟩
  ·rw[if_neg h1]at h;cases h
theorem BC {α:Type}{xs:List α}{i:Int}{v:α}(h:iF xs i=some v):∃j,seqIndex? i xs.length=some j/\xs[j]?=some v/\j<xs.length/\-(xs.length:Int)<=i/\i<xs.length:=by
 unfold iF at h
 cases e:gE xs.length i with
 |none=>rw[e]at h;cases h
 |some j=>rw[e]at h;obtain⟨h1,h2,h3,h4⟩:=BB e;exact⟨j,h1,h,h2,h3,h4⟩
def BD (b:bo):Prop:=∀o i,subscripted b false o i=operate [o,i] (getItem o i)
def IxR (X:Cx) (r:R2):Prop:=
 ∀(value slice:bo) (pins:List (ah×Obj)) (s:ag) (σ:St) (H:Hp) (x y:V) (v u:af) (Q:VK),Inv X pins σ H s->RelV x v->RelV y u->r x y H Q->
  subscripted slice false v u=operate [v,u] (getItem v u)->wpAny (model X.prog X.w) X.A (subscriptTail value slice v u) (EP X pins σ Q) X.xe s
def wK (X:Cx) (id:String) (r:V->List V->Hp->VK->Prop):Prop:=
 ∀(pins:List (ah×Obj)) (s:ag) (σ:St) (H:Hp) (x:V) (xs:List V) (v:af) (us:List af) (Q:VK),Inv X pins σ H s->RelV x v->Bd xs us->r x xs H Q->
  wpAny (model X.prog X.w) X.A (call (.builtin id) (v::us)) (EP X pins σ Q) X.xe s
section
variable{X:Cx}{a b:bo}{ta tb:TE}{pos:Pos}
theorem IxR.or {r r':R2}(h:IxR X r) (h':IxR X r'):IxR X (λx y H Q=>r x y H Q∨r' x y H Q):=by
 intro value slice pins s σ H x y v u Q I rx ry q hs
 rcases q with q|q
 ·exact h value slice pins s σ H x y v u Q I rx ry q hs
 ·exact h' value slice pins s σ H x y v u Q I rx ry q hs
theorem HU {r:R2}(hr:IxR X r) (ha:PE X a ta) (hb:PE X b tb) (hs:BD b):PE X (.Subscript a b pos) (sQ r ta tb):=by intro pins s σ H Q I h;exact Subscript_ (A7 ha hb I h λv u s2 x y H2 I2 rx ry q=>hr a b pins s2 σ H2 x y v u Q I2 rx ry q (hs _ _))
def HV (K:ao):R2:=λx y H Q=>∃p xs i v,x=.ref p/\y=.int i/\Bs K H p xs/\iF xs i=some v/\Q v H
def HW (K:ao):R2:=λx y H Q=>∃p xs i v,x=.ref p/\y=.int i/\Bp K H p xs/\iF xs i=some v/\Q v H
def HX:R2:=λx y H Q=>∃z i c,x=.str z/\y=.int i/\z.length<=cf/\iF z.cps.toList i=some c/\Q (.str ⟨#[c]⟩) H
theorem ix_list:IxR X (HV X.K):=by
 intro value slice pins s σ H x y v u Q I rx ry h hs;obtain⟨p,xs,i,z,rfl,rfl,hq,he,q⟩:=h;cases rx;obtain⟨t,rfl⟩:=ry;obtain⟨its,r,pl,hz⟩:=I.list hq;obtain⟨j,h1,h2,h3,h4,h5⟩:=BC he;obtain⟨w,ew,rw'⟩:=r.get h2;have hl:=r.length;have hn:=qN;have fin:EP X pins σ Q w s:=⟨z,H,I,rw',q⟩
 by_cases h0:0<=i
 ·have hj:i.toNat=j:=by rw[seqIndex_of h0 h5]at h1;exact cw h1
  exact item_listR pl.isList h0 (by omega) (by rw[hj];simpa using ew) fin hs
 ·have hj:(i+(its.toArray.size:Int)).toNat=j:=by rw[seqIndex_neg (by omega) h4]at h1;rw[aw,<-hl];exact cw h1
  exact subscriptTail_builtinR (x:=w) pl.isList.typeIs slot_list_getitem.lookup
   (wpAny_getItem_list_neg (Q:=λr s'=>r=w/\EP X pins σ Q r s') pl.isList (by omega) (by rw[aw] <;> omega) (by omega) (by rw[hj];simpa using ew) ⟨rfl,fin⟩) hs
theorem ix_tup:IxR X (HW X.K):=by
 intro value slice pins s σ H x y v u Q I rx ry h hs;obtain⟨p,xs,i,z,rfl,rfl,hq,he,q⟩:=h;cases rx;obtain⟨t,rfl⟩:=ry;obtain⟨its,r,pl,hz⟩:=I.tuple hq;obtain⟨j,h1,h2,h3,h4,h5⟩:=BC he;obtain⟨w,ew,rw'⟩:=r.get h2;have hl:=r.length;have hn:=qN;have fin:EP X pins σ Q w s:=⟨z,H,I,rw',q⟩
 exact subscriptTail_builtinR (x:=w) pl.typeIs slot_tuple_getitem.lookup
  (getItem_tuple (j:=j) (Q:=λr s'=>r=w/\EP X pins σ Q r s') pl (by omega) (by omega) (by rw[aw,<-hl];exact h1) (by simpa using ew) ⟨rfl,fin⟩) hs
theorem UH:IxR X HX:=by
 intro value slice pins s σ H x y v u Q I rx ry h hs;obtain⟨z,i,c,rfl,rfl,hz,he,q⟩:=h;obtain⟨t,rfl⟩:=rx;obtain⟨t',rfl⟩:=ry;obtain⟨j,h1,h2,h3,h4,h5⟩:=BC he;have hl:z.cps.toList.length=z.length:=by simp[Str.length]
 rw[hl]at h1 h4 h5;have hn:=qN;exact tail_any (typeIs_str s z t) slot_str_getitem.lookup (getItem_str (c:=c) (by have e1:decide (i < -(2 ^ 63:Int))=false:=decide_eq_false (by omega);have e2:decide (i>=2 ^ 63)=false:=decide_eq_false (by omega);rw[e1,e2,Bool.or_false]) (by rw[h1];simpa using h2) ⟨.str ⟨#[c]⟩,H,I.tok _,⟨_,rfl⟩,q⟩) hs
def BE (K:ao):R2:=λx y H Q=>HV K x y H Q∨HW K x y H Q∨HX x y H Q
theorem HY:IxR X (BE X.K):=ix_list.or (ix_tup.or UH)
theorem UI (its:List af) (n j:Nat) (u:af):nu (·.setIfInBounds j u) { cls:=.type "list",data:=.seq its.toArray n }={ cls:=.type "list",data:=.seq (its.set j u).toArray n }:=by simp[nu]
theorem Inv.lst {pins:List (ah×Obj)}{σ:St}{H:Hp}{s:ag}{p:ah}{xs:List V}(I:Inv X pins σ H s) (h:H p=some (.lst xs)):
  ∃(its:List af) (n:Nat),Bd xs its/\s.heap.get? p=some { cls:=.type "list",data:=.seq its.toArray n }/\xs.length<=cf:=by
 obtain⟨z,its,n,r,e⟩:=I.hok p _ h;exact⟨its,n,r,e,z⟩
theorem Inv.lstUpd {pins:List (ah×Obj)}{σ:St}{H:Hp}{s:ag}{p:ah}{xs ys:List V}{its its':List af}{n n':Nat}{f:Obj->Obj}(I:Inv X pins σ H s) (h:H p=some (.lst xs))
  (ho:s.heap.get? p=some { cls:=.type "list",data:=.seq its.toArray n }) (hf:f { cls:=.type "list",data:=.seq its.toArray n }={ cls:=.type "list",data:=.seq its'.toArray n' }) (r:Bd ys its') (hz:ys.length<=cf) (t:Nat):
  Inv X pins σ (aT H p (.lst ys)) { s with heap:=s.heap.update p f,toks:=t }:=by
 have e:(s.heap.update p f).get? p=some { cls:=.type "list",data:=.seq its'.toArray n' }:=by rw[ka f ho (by rw[hf] <;> rfl),hf]
 refine I.write (x:=p) (e:=p) (by rw[h];trivial) (.inl rfl) (λb u hb q=>(lh _ _ (dh hb)).trans q) ⟨_,e⟩ ?_;exact⟨hz,its',n',r,e⟩
def UJ:V->V->V->Hp->(Hp->Prop)->Prop:=λo i v H Q=>∃p xs k j,o=.ref p/\i=.int k/\H p=some (.lst xs)/\gE xs.length k=some j/\Q (aT H p (.lst (xs.set j v)))
theorem UK:GX X UJ:=by
 intro pins s σ H o i v ov iv u Q I ro ri rv h;obtain⟨p,xs,k,j,rfl,rfl,hp,hj,q⟩:=h;cases ro;obtain⟨t,rfl⟩:=ri;obtain⟨its,n,r,ho,hz⟩:=I.lst hp;obtain⟨h1,h2,h3,h4⟩:=BB hj;have hl:=r.length;have hn:=qN;have I':Inv X pins σ (aT H p (.lst (xs.set j v))) { s with heap:=s.heap.update p (nu (·.setIfInBounds j u)) }:=I.lstUpd hp ho (UI its n j u) (r.set rv j) (by rw[lr];exact hz) s.toks
 by_cases h0:0<=k
 ·have hk:k.toNat=j:=by rw[seqIndex_of h0 h4]at h1;exact cw h1
  exact PySem.W.ki_setAt ho h0 (by omega) (by rw[aw,<-hl];exact h4) (by rw[hk];exact⟨_,I',q⟩)
 ·have hk:(k+(its.toArray.size:Int)).toNat=j:=by rw[seqIndex_neg (by omega) h3]at h1;rw[aw,<-hl];exact cw h1
  exact PySem.W.ki_setBack ho (by omega) (by rw[aw,<-hl];exact h3) (by omega) (by rw[hk];exact⟨_,I',q⟩)
theorem UL (lo hi:Option Int) (n:Nat):(sliceBounds lo hi none n).1=((HT.sIx n 0 lo:Nat):Int)/\(sliceBounds lo hi none n).2.1=((HT.sIx n n hi:Nat):Int)/\(sliceBounds lo hi none n).2.2=1:=by
 refine⟨?_, ?_,rfl⟩
 ·cases lo with
  |none=>simp[sliceBounds,HT.sIx]
  |some i=>
   simp only[sliceBounds,HT.sIx,Option.getD_none,show(1:Int)>0 by decide,if_true]
   by_cases h:i<0
   ·simp only[h,if_true] <;> omega
   ·simp only[h,if_false] <;> omega
 ·cases hi with
  |none=>simp[sliceBounds,HT.sIx]
  |some i=>
   simp only[sliceBounds,HT.sIx,Option.getD_none,show(1:Int)>0 by decide,if_true]
   by_cases h:i<0
   ·simp only[h,if_true] <;> omega
   ·simp only[h,if_false] <;> omega
theorem UM (its:List af) (lo hi:Option Int):slicePick its.toArray lo hi none=((its.drop (HT.sIx its.length 0 lo)).take (HT.sIx its.length its.length hi - HT.sIx its.length 0 lo)).toArray:=by obtain⟨h1,h2,h3⟩:=UL lo hi its.toArray.size;unfold slicePick;rw[h1,h2,h3];simp only[sliceRange_one,pick_run,aw] <;> rfl
def UN (K:ao):V->Option Int->Option Int->Hp->VK->Prop:=λx lo hi H Q=>∃a xs,x=.ref a/\Bs K H a xs/\∀p,H p=none->Q (.ref p) (aT H p (.lst (nX xs lo hi)))
theorem UO:SlR X (UN X.K):=by intro pins s σ H x v vl vu lo hi sl Q I rx hs pl pu h;obtain⟨a,xs,rfl,hx,q⟩:=h;cases rx;obtain⟨its,r,ht,hz⟩:=I.list hx;have hlen:=r.length;refine⟨"list",_,slot_list_getitem.lookup,ht.isList.typeIs, ?_⟩;refine wpAny_getItem_list_slice ht.isList hs pl pu .none (by simp) ?_ (by rw[aw] <;> omega);rw[UM,<-hlen];refine⟨.ref s.heap.objs.size,_,I.laid (t':=s.toks) (o:=.lst (nX xs lo hi)) (λb ob q=>ak _ q) (aj _) ?_,rfl,q _ (I.hok.fresh (aj _))⟩;exact⟨df (HP xs lo hi) hz,_,0,(r.drop (HT.sIx xs.length 0 lo)).take (HT.sIx xs.length xs.length hi - HT.sIx xs.length 0 lo),bc _ rfl⟩
theorem HZ:Bi X (.builtin "len") (λxs H Q=>∃p ys,xs=[.ref p]/\(Bs X.K H p ys∨Bp X.K H p ys)/\Q (.int ys.length) H):=by
 intro pins s σ H xs us Q I r h;obtain⟨p,ys,rfl,hq,q⟩:=h;obtain⟨u,rfl,rx⟩:=iX r;cases rx;have hn:=qN
 rcases hq with hq|hq
 ·obtain⟨its,r',pl,hz⟩:=I.list hq;have hlen:=r'.length;exact Calls.call_len_list pl.isList (by simp only[aw] <;> omega) ⟨.int ys.length,H,I.tok _,⟨s.toks+1,by rw[aw,hlen]⟩,q⟩
 ·obtain⟨its,r',pl,hz⟩:=I.tuple hq;have hlen:=r'.length;exact len_tuple pl (by simp only[aw] <;> omega) ⟨.int ys.length,H,I.tok _,⟨s.toks+1,by rw[aw,hlen]⟩,q⟩
theorem UP:Bi X (.type "list") (λxs H Q=>∃p ys,xs=[.ref p]/\(Bs X.K H p ys∨Bp X.K H p ys)/\∀l,H l=none->Q (.ref l) (aT H l (.lst ys))):=by
 intro pins s σ H xs us Q I r h;obtain⟨p,ys,rfl,hq,q⟩:=h;obtain⟨u,rfl,rx⟩:=iX r;cases rx;have fin:∀(its:List af),Bd ys its->ys.length<=cf->∀(h':cx) (c':Nat),(∀b o',s.heap.get? b=some o'->h'.get? b=some o')->
   h'.get? s.heap.objs.size=some { cls:=.type "list",dict:=none,data:=.seq its.toArray c',slots:=#[] }->EP X pins σ Q (.ref s.heap.objs.size) { s with heap:=h' }:=λits r' hz h' c' kp e=>
  ⟨.ref s.heap.objs.size,_,I.laid (t':=s.toks) kp (aj _) (show Bh X.prog X.w _ h' _ (.lst ys) from⟨hz,its,c',r',e⟩),rfl,q _ (I.hok.fresh (aj _))⟩
 rcases hq with hq|hq
 ·obtain⟨its,r',pl,hz⟩:=I.list hq;have hlen:=r'.length;obtain⟨o,ho,hc,n,hd⟩:=pl.isList;exact call_list_seq p (.inl rfl) ho hc hd (λh' c' kp e=>fin its r' hz h' c' kp e) (by simp only[aw] <;> omega)
 ·obtain⟨its,r',pl,hz⟩:=I.tuple hq;have hlen:=r'.length;obtain⟨o,ho,hc,n,hd⟩:=pl;exact call_list_seq p (.inr rfl) ho hc hd (λh' c' kp e=>fin its r' hz h' c' kp e) (by simp only[aw] <;> omega)
theorem UQ:Bi X (.type "tuple") (λxs H Q=>∃p ys,xs=[.ref p]/\((Bs X.K H p ys/\∀l,H l=none->Q (.ref l) (aT H l (.tup ys)))∨(Bp X.K H p ys/\Q (.ref p) H))):=by
 intro pins s σ H xs us Q I r h;obtain⟨p,ys,rfl,h⟩:=h;obtain⟨u,rfl,rx⟩:=iX r;cases rx
 rcases h with⟨hq,q⟩|⟨hq,q⟩
 ·obtain⟨its,r',pl,hz⟩:=I.list hq;have hlen:=r'.length;refine call_tuple_list pl.isList (λh' kp=>?_) (by simp only[aw] <;> omega);have I1:Inv X pins σ H { s with heap:=h' }:=I.kept (t':=s.toks) kp;have I2:Inv X pins σ (aT H h'.objs.size (.tup ys)) { s with heap:=h'.push { cls:=.type "tuple",data:=.seq its.toArray } }:=I1.laid (t':=s.toks) (λb o e=>ak _ e) (aj _) (show Bh X.prog X.w _ _ _ (.tup ys) from⟨hz,its,r',Bx.new _ _⟩);exact⟨.ref h'.objs.size,_,I2,rfl,q _ (I1.hok.fresh (aj _))⟩
 ·obtain⟨its,r',pl,hz⟩:=I.tuple hq;exact call_tuple_same pl ⟨.ref p,H,I,rfl,q⟩
def wL (K:ao) (T:String) (x:V) (H:Hp):Prop:=match x with
 | .str _=>T = "str"
 | .int _=>T = "int"
 | .ref p=>(T = "list"/\∃xs,Bs K H p xs)∨(T = "tuple"/\∃o,K.lookup p=some o/\o.cls=.type "tuple"/\o.dict=none) ∨
   (T = "dict"/\((∃kvs,H p=some (.dK kvs))∨∃kvs,H p=some (.dT kvs)))∨(T = "set"/\∃S n,H p=some (.set S n))
 |_=>False
theorem UR {pins:List (ah×Obj)}{σ:St}{H:Hp}{s:ag}{T:String}{x:V}{v:af}(I:Inv X pins σ H s) (r:RelV x v) (ty:wL X.K T x H):
  s.TypeIs v T/\∀a,v=.ref a->∃ob,s.heap.get? a=some ob/\ob.dict=none:=by
 cases x with
 |str z=>
  obtain⟨t,rfl⟩:=r
  cases (show T = "str" from ty)
  exact⟨typeIs_str s z t,λ_ e=>nomatch e⟩
 |int i=>
  obtain⟨t,rfl⟩:=r
  cases (show T = "int" from ty)
  exact⟨typeIs_int s i t,λ_ e=>nomatch e⟩
 |ref p=>
  cases r
  rcases ty with⟨rfl,xs,hq⟩|⟨rfl,o,hk,hc,hd⟩|⟨rfl,hk⟩|⟨rfl,S,n,hk⟩
  ·obtain⟨its,_,pl,_⟩:=I.list hq;refine⟨pl.isList.typeIs,λa e=>?_⟩;cases e;obtain⟨o,n,e,c,hd,_⟩:=pl;exact⟨o,e,hd⟩
  ·refine⟨⟨o,I.kIn p o hk,hc⟩,λa e=>?_⟩;cases e;exact⟨o,I.kIn _ o hk,hd⟩
  ·have z:∃o,s.heap.get? p=some o/\o.ExactDict:=by
    rcases hk with⟨kvs,hk⟩|⟨kvs,hk⟩
    ·obtain⟨_,_,_,_,o,_,_,e,ex,_⟩:=I.hok p _ hk;exact⟨o,e,ex⟩
    ·obtain⟨_,_,_,_,o,_,_,e,ex,_⟩:=I.hok p _ hk;exact⟨o,e,ex⟩
   obtain⟨o,e,ex⟩:=z;refine⟨⟨o,e,ex.1⟩,λa e2=>?_⟩;cases e2;exact⟨o,e,ex.2.1⟩
  ·obtain⟨o,_,_,_,e,ex,_⟩:=I.hok p _ hk;refine⟨⟨o,e,ex.1⟩,λa e2=>?_⟩;cases e2;exact⟨o,e,ex.2.1⟩
 |_=>exact jh ty
def US (K:ao) (T:String) (r:V->List V->Hp->VK->Prop) (to:TE) (t:TA):TE:=λσ H Q=>to σ H λx H1=>wL K T x H1/\t σ H1 λxs H2=>r x xs H2 Q
variable{o e:bo}{es:List bo}{to:TE}{t:TA}{name:Str}{apos cpos:Pos}{T id:String}{r:V->List V->Hp->VK->Prop}
theorem sT (pa:PlainAttrs T) (slot:Slot T name id) (hty:typeOf (.builtin id)=pure (.type "method_descriptor")) (hm:wK X id r) (ho:PE X o to) (ha:PA X (e::es) t)
  (hbase:attributeBase o name X.env (eval o X.env)=eval o X.env:=by rfl)
  (hfew:((backTo cpos (ar (e::es) X.env)).all (λx=>!x.1)&&(backToKw cpos (keywordEach [] X.env)).all (λx=>x.1.isSome)
   && decide ((e::es).length+([]:List Keyword).length+(if([]:List Keyword).isEmpty then 0 else 1)<30))=true:=by rfl)
  (hline:(apos.endLine==cpos.line)=true:=by rfl) (hs:ar (e::es) X.env=(false,eval e X.env)::ar es X.env:=by rfl) (hplain:(backTo cpos (ar es X.env)).any (·.1)=false:=by rfl):
  PE X (.Call (.Attribute o name apos) (e::es) [] cpos) (US X.K T r to t):=by
 intro pins s σ H Q I h;refine wpAny_Call_method_late hbase hfew hline rfl (bD (ho pins s σ H _ I h) λv s1 ⟨x,H1,I1,r1,ty,q1⟩=>?_);obtain⟨h1,h2⟩:=UR I1 r1 ty;refine⟨T,id,pa,slot,hty,h1,h2, ?_⟩;have hA:=ha cpos pins s1 σ H1 _ I1 q1;rw[hs]at hA ⊢;refine Calls.callWith_builtin (by show(false||(backTo cpos (ar es X.env)).any (·.1))=false;rw[hplain] <;> rfl) (Calls.evalArgs_plain ?_);exact bD hA λus s2 ⟨vs,H2,I2,r2,q2⟩=>hm pins s2 σ H2 x vs v us Q I2 r1 r2 q2
end
def BF (X:Cx) (id:String) (r:V->List V->Hp->VK->Prop):Prop:=
 ∀(pins:List (ah×Obj)) (s:ag) (σ:St) (H:Hp) (x:V) (xs:List V) (v:af) (us:List af) (Q:VK),Inv X pins σ H s->RelV x v->Bd xs us->r x xs H Q->
  wpAny (model X.prog X.w) X.A (call (.builtin id) (v::us)) (EP X pins σ Q) X.xe s
theorem Bd.one:∀{x:V}{us:List af},Bd [x] us->∃u,us=[u]/\RelV x u
 |_,_,.cons r .nil=>⟨_,rfl,r⟩
theorem Bd.eraseIdx:∀{xs:List V}{us:List af}(i:Nat),Bd xs us->Bd (xs.eraseIdx i) (us.eraseIdx i)
 |_,_,_,.nil=>.nil
 |_,_,0,.cons _ t=>t
 |_,_,i+1,.cons r t=>.cons r (Bd.eraseIdx i t)
theorem Bd.rep {xs:List V}{us:List af}(h:Bd xs us):∀k:Nat,Bd (bu k xs).flatten (bu k us).flatten
 |0=>.nil
 |k+1=>by rw[iw,iw,kh,kh];exact Bd.append h (Bd.rep h k)
theorem IA {α:Type}:∀(l:List α) (i:Nat),(l.eraseIdx i).length<=l.length
 | [],_=>aj _
 |_::_,0=>Nat.le_succ _
 |_::r,i+1=>Nat.succ_le_succ (IA r i)
theorem IB (its:List af):∀(k:Nat) (acc:List af),
  List.foldl (λx1 x2=>x1++x2) acc.toArray (bu k its.toArray)=(acc++(bu k its).flatten).toArray
 |0,acc=>by simp
 |k+1,acc=>by
  have e:acc.toArray++its.toArray=(acc++its).toArray:=by simp
  have e2:(acc++its)++(bu k its).flatten=acc++(bu (k+1) its).flatten:=by rw[iw,kh,oj]
  rw[<-e2,<-IB its k (acc++its),<-e,iw,List.foldl_cons]
section
variable{X:Cx}{pins:List (ah×Obj)}{σ:St}{H:Hp}{s:ag}{l b:ah}{xs ys zs:List V}
theorem Inv.lset {its its':List af}{n:Nat}{f:Array af->Array af}{t':Nat}(I:Inv X pins σ H s) (hH:H l=some (.lst xs))
  (e:s.heap.get? l=some { cls:=.type "list",data:=.seq its.toArray n }) (hf:f its.toArray=its'.toArray) (hv:Bd ys its') (hz:ys.length<=cf):
  Inv X pins σ (aT H l (.lst ys)) { s with heap:=s.heap.update l (nu f),toks:=t' }:=by
 have q:=zk e f;rw[hf]at q;refine I.write (x:=l) (e:=l) (by rw[hH];exact trivial) (.inl rfl) (λb' u hb hu=>(lh s.heap (nu f) (dh hb)).trans hu) ⟨_,q⟩ ?_;exact⟨hz,its',_,hv,q⟩
theorem Inv.lnew {its:List af}{t':Nat}(I:Inv X pins σ H s) (hv:Bd ys its) (hz:ys.length<=cf):
  Inv X pins σ (aT H s.heap.objs.size (.lst ys)) { s with heap:=s.heap.push { cls:=.type "list",data:=.seq its.toArray },toks:=t' }:=
 I.laid (λ_ _ q=>ak _ q) (aj _) ⟨hz,its,0,hv,bc _ rfl⟩
theorem Inv.fresh (I:Inv X pins σ H s):H s.heap.objs.size=none:=I.hok.fresh (aj _)
theorem Inv.lstM (I:Inv X pins σ H s) (hH:H l=some (.lst xs)):xs.length<=cf/\∃(its:List af) (n:Nat),Bd xs its/\xs.length=its.length/\s.heap.get? l=some { cls:=.type "list",data:=.seq its.toArray n }:=by obtain⟨z,its,n,r,e⟩:=I.hok l _ hH;exact⟨z,its,n,r,r.length,e⟩
theorem IC {n:Nat}(h:n<=cf):mm n=false:=by unfold mm;exact decide_eq_false (by omega)
end
section
variable{X:Cx}
def UT:V->List V->Hp->VK->Prop:=λx vs H Q=>∃l xs y,x=.ref l/\vs=[y]/\H l=some (.lst xs)/\xs.length<cf/\Q .non (aT H l (.lst (xs++[y])))
theorem ID:BF X "list.append" UT:=by intro pins s σ H x vs v us Q I rx rv h;obtain⟨l,xs,y,rfl,rfl,hH,hz,q⟩:=h;cases rx;obtain⟨u,rfl,ru⟩:=rv.one;obtain⟨z,its,n,r,hl,e⟩:=I.lstM hH;refine sy F.slot_list_append ⟨_,e,rfl⟩ F.entry_list_append (F.args_list_append_2 _ _) (PySem.list_append l its.toArray n u (by rw[aw];omega)) ⟨e, ?_⟩;refine⟨.non,_,I.lset (its':=its++[u]) hH e (by simp) (r.append (.cons ru .nil)) ?_,rfl,q⟩;rw[bw,uv];omega
def UU:V->List V->Hp->VK->Prop:=λx vs H Q=>∃l b xs zs,x=.ref l/\vs=[.ref b]/\H l=some (.lst xs)/\H b=some (.lst zs)/\xs.length+zs.length<=cf/\Q .non (aT H l (.lst (xs++zs)))
theorem UW:BF X "list.extend" UU:=by
 intro pins s σ H x vs v us Q I rx rv h;obtain⟨l,b,xs,zs,rfl,rfl,hH,hB,hz,q⟩:=h;cases rx;obtain⟨u,rfl,ru⟩:=rv.one;cases ru;obtain⟨z,its,n,r,hl,e⟩:=I.lstM hH;obtain⟨z2,Cm,n2,r2,hl2,e2⟩:=I.lstM hB;have Cf:its.toArray.size+Cm.toArray.size<=cf:=by rw[aw,aw];omega
 have hlong:¬ (!its.toArray.isEmpty&&mm (its.toArray.size+Cm.toArray.size))=true:=by rw[IC Cf,qw];exact ie
 refine sy F.slot_list_extend ⟨_,e,rfl⟩ F.entry_list_extend (F.args_list_extend_2 _ _)
  (AutoSeq1.list_extend_list_list_0 l its.toArray n b Cm.toArray n2 hlong (by rw[aw];omega) (by omega)) ⟨e,e2, ?_⟩
 refine⟨.non,_,I.lset (its':=its++Cm) hH e (by simp) (r.append r2) ?_,rfl,q⟩;rw[bw];omega
def UX:V->List V->Hp->VK->Prop:=λx vs H Q=>∃l xs i k y,x=.ref l/\vs=[.int i]/\H l=some (.lst xs)/\-(2 ^ 63)<=i/\i<2 ^ 63/\seqIndex? i xs.length=some k/\xs[k]?=some y/\Q y (aT H l (.lst (xs.eraseIdx k)))
theorem UY:BF X "list.pop" UX:=by
 intro pins s σ H x vs v us Q I rx rv h;obtain⟨l,xs,i,k,y,rfl,rfl,hH,h1,h2,hk,hy,q⟩:=h;cases rx;obtain⟨u,rfl,ru⟩:=rv.one;obtain⟨t,rfl⟩:=ru;obtain⟨z,its,n,r,hl,e⟩:=I.lstM hH;obtain⟨w,hw,rw'⟩:=r.get hy;refine sy F.slot_list_pop ⟨_,e,rfl⟩ F.entry_list_pop (F.args_list_pop_2 _ _)
  (MeetsSeq.list_pop_at l its.toArray n i t k w (fitsIndex_both h1 h2) (by rw[aw,<-hl];exact hk) (by rw[<-oz];exact hw) (by rw[aw];omega)) ⟨e, ?_⟩
 refine⟨y,_,I.lset (its':=its.eraseIdx k) hH e ?_ (r.eraseIdx k) ?_,rw',q⟩
 ·show its.toArray.eraseIdxIfInBounds k=(its.eraseIdx k).toArray;rw[List.eraseIdxIfInBounds_toArray]
 ·have:=IA xs k;omega
def IE:R2:=λx y H Q=>∃l b xs zs,x=.ref l/\y=.ref b/\H l=some (.lst xs)/\H b=some (.lst zs)/\xs.length+zs.length<=cf/\∀p,H p=none->Q (.ref p) (aT H p (.lst (xs++zs)))
theorem op_cat:Cg X (binaryOp .Add) IE:=by
 intro pins s σ H x y v u Q I rx ry h;obtain⟨l,b,xs,zs,rfl,rfl,hH,hB,hz,q⟩:=h;cases rx;cases ry;obtain⟨z,its,n,r,hl,e⟩:=I.lstM hH;obtain⟨z2,Cm,n2,r2,hl2,e2⟩:=I.lstM hB;refine PySem.P.add_list e e2 ?_ (by rw[aw,aw];omega);have ea:its.toArray++Cm.toArray=(its++Cm).toArray:=by simp
 rw[ea];exact⟨.ref _,_,I.lnew (t':=s.toks) (r.append r2) (by rw[bw];omega),rfl,q _ I.fresh⟩
def IF:R2:=λx y H Q=>∃l k xs,x=.ref l/\y=.int k/\H l=some (.lst xs)/\-(2 ^ 63)<=k/\k<2 ^ 63/\xs.length*k.toNat<=cf /\
 ∀p,H p=none->Q (.ref p) (aT H p (.lst (bu k.toNat xs).flatten))
theorem UZ {α:Type}(xs:List α) (k:Nat):(bu k xs).flatten.length=k*xs.length:=by
 induction k with
 |zero=>simp
 |succ k ih=>rw[iw,kh,bw,ih,uj,Nat.add_comm]
theorem VA:Cg X (binaryOp .Mult) IF:=by
 intro pins s σ H x y v u Q I rx ry h;obtain⟨l,k,xs,rfl,rfl,hH,h1,h2,hz,q⟩:=h;cases rx;obtain⟨t,rfl⟩:=ry;obtain⟨z,its,n,r,hl,e⟩:=I.lstM hH;have hlen:its.toArray.size*k.toNat<=cf:=by rw[aw,<-hl];exact hz
 have hcap:¬ its.toArray.size*k.toNat>(2 ^ 63 - 1) / 8:=by
  have:(cf:Nat)<=(2 ^ 63 - 1) / 8:=by decide
  omega
 have hfit:¬ (!Builtin.List.listFitsIndex k)=true:=by rw[fitsIndex_both h1 h2];exact ie
 have hlong:¬ mm (its.toArray.size*k.toNat)=true:=by rw[IC hlen];exact ie
 have Ea:List.foldl (λx1 x2=>x1++x2) #[] (bu (if its.toArray.isEmpty=true then 0 else k.toNat) its.toArray)=(bu k.toNat its).flatten.toArray:=by
  have f0:∀m:Nat,List.foldl (λx1 x2=>x1++x2) #[] (bu m its.toArray)=(bu m its).flatten.toArray:=λm=>by have:=IB its m [];rw[List.nil_append]at this;exact this
  rw[f0]
  cases its with
  |nil=>simp
  |cons a r'=>rw[if_neg (by simp)]
 refine wpAny_binaryOp_repeat_ref (T := "list") (U := "int") (by decide) ⟨_,e,rfl⟩ (λs'=>typeIs_int s' k t) noFill_list_mul F.fills_int_mul F.slot_int_rmul repeat_list F.slot_int_index.lookup
  (sy F.slot_int_rmul (typeIs_int s k t) F.entry_int_rmul (F.args_int_rmul_2 _ _) (int___rmul___int_list k t l its.toArray n)
   ⟨e,rfl,⟨_,e,rfl⟩,sy F.slot_list_mul ⟨_,e,rfl⟩ F.entry_list_mul (F.args_list_mul_2 _ _) (AutoListH.list___mul___list_int_3 l its.toArray n k t hfit hcap hlong) ⟨e, ?_⟩⟩)
 rw[Ea];exact⟨.ref _,_,I.lnew (t':=s.toks) (r.rep k.toNat) (by rw[UZ,Nat.mul_comm];exact hz),rfl,q _ I.fresh⟩
end
section
variable{prog:bj}{w:cq}{A:cm}{E:af->ag->Prop}{s:ag}
set_option maxRecDepth 100000 in
end
section
variable{X:Cx}
end
end L2
namespace Att
open PySem PySem.W PySem.Calls PyProof.Rows
theorem VB {P:Params}{h:cx}:∀(ns:Aq) (vs:List af),WellAll P h vs (ns.map WData.int)->lg vs ns:=by
 intro ns
 induction ns with
 |nil=>intro vs w;rw[wb]at w;cases w;exact .nil
 |cons n ns ih=>
  intro vs w;rw[da]at w
  cases w with
  |cons a b=>cases a;exact .cons _ _ (ih _ b)
theorem VC {l:OpenLaw}{n:Nat}(hn:l.most=some n) {P:Params}{h:cx}{args:List WData}{vals:List af}
  (hpre:l.row.toRowW.claim.pre args=true) (hwl:WellAll P h vals args):
  ∃a vs ns,vals=[ja a]/\args=[WData.list (ns.map WData.int)]/\h.get? a=some { cls:=.type "list",data:=.seq vs.toArray }/\lg vs ns/\ns.length<=n:=by
 have hsh:WShape.hasAll [] args [.list .int]=true:=(pre_splitW hpre).1;have hc:l.pre.holds [] { args:=args }=true:=(pre_splitW hpre).2;obtain⟨d,r,rfl,h1,h2⟩:=hasAllW_cons hsh;obtain rfl:=hasAllW_nil h2;obtain⟨xs,rfl,h3⟩:=hasW_list h1;obtain⟨ns,rfl⟩:=items_int h3;have hlen:ns.length<=n:=by
  unfold OpenLaw.pre at hc;have h4:(WTm.not (.lt (.lit (.int (n:Int))) (.len (.arg 0)))).holds [] { args:=[.list (ns.map .int)] }=true:=by have h4:=(holds_andW hc).1;rw[hn]at h4;exact h4
  have h5:=condW_of h4 (w_not (w_lt w_lit (w_len_list (w_arg rfl))));rw[ba]at h5;refine Nat.le_of_not_lt λq=>?_;have q':(n:Int)<((ns.length:Nat):Int):=by omega
  first
   |(rw[decide_eq_true q']at h5;exact absurd h5 (by decide))
   |(simp at h5;omega)
 cases hwl with
 |cons w1 w2=>
  cases w2
  cases w1 with
  |list ho Cb=>exact⟨_,_,ns,rfl,rfl,ho,VB ns _ Cb,hlen⟩
theorem VD (l:OpenLaw) (args:List WData):l.row.toRowW.claim.post args (.bool true) args=true:=
 postW_of (r:=l.row.toRowW) (X:=(true==true))
  (show WShape.has [] (.bool true) .bool=true by first|rfl|decide|simp[WShape.has,WShape.arms,WShape.armsAll])
  (show(WTm.eq .res (.lit (.bool true))).value [] { args:=args,res:=some (.bool true),after:=args }=some (.bool (true==true)) from w_eq_bool (w_res rfl) w_lit) rfl
theorem attach_call {l:OpenLaw}{n:Nat}{q:bj}{loose:Au}{XP:(Str->Option af)->cx->Prop}{YP:cq->cx->Prop}{d:DefRec}
  (hn:l.most=some n) (hdf:d.params.defaults=[])
  (call:∀(w:cq) (s₀ s₁:ag) (mg mb:Str->Option af) (fa:ah) (o:Obj) (pm cd doc:af) (a:ah) (vs:List af) (ns:Aq),
   Ground q loose [] XP w s₀ mg mb s₁.heap->YP w s₁.heap->
   s₁.heap.get? fa=some o->o.data=.func (docDef d.name d.params d.body d.scope pm cd doc)->s₁.heap.CodeRec cd d.name->mg d.name=some (.ref fa)->
   s₁.heap.get? a=some { cls:=.type "list",data:=.seq vs.toArray }->lg vs ns->ns.length<=n->s₁.gens=#[]->
   codeAny (model l.prog w) callerA (.call (.ref fa) ⟨[.ref a],[]⟩) (λr s'=>r=.ok (.ret (.bool true))/\OldK s₁.heap s'.heap/\s'.os=s₁.os/\ue s'.gens) s₁):
  WalkO q loose XP YP l.row.toRowW d [] (λf vs=>Ai f vs):=by
 intro w s₀ s₁ mg mb G Y fa o pm cd doc dV kV ho hd hcd hD hmg hg args vals as hpre hlay hrd hwl hlo;obtain rfl:dV=.none:=Dflts.none hD hdf;obtain rfl:kV=.none:=Dflts.noKw hD;obtain⟨a,vs,ns,rfl,rfl,hobj,hints,hlen⟩:=VC hn hpre hwl;refine enter_call (rz (call w s₀ s₁ mg mb fa o pm cd doc a vs ns G Y ho (fd_plain hd) hcd hmg hobj hints hlen hg) λr s' hq=>?_);obtain⟨rfl,h2,h3,h4⟩:=hq;exact⟨.inl ⟨.bool true,.bool true,[],rfl,λ_=>rfl,.bool true,VD l _,λ_=>⟨ya,λ_ hm=>(nomatch hm)⟩⟩,h2,h3,h4⟩
section
variable{prog:bj}{w:cq}{A:cm}{E:af->ag->Prop}{s:ag}{K:Frag}
end
end Att
namespace L2
open PySem PySem.Spec PyProof.Rows
theorem IG:∀{vs:List af}{ns:Aq},lg vs ns->Bd (ns.map V.int) vs
 |_,_,.nil=>.nil
 |_,_,.cons n t h=>.cons ⟨t,rfl⟩ (IG h)
def nY (s:gz):km:=match s with
 | .FunctionDef _ a _ _ _ _ _ _ _ _=>a
 |_=>{ posonlyargs:=[],args:=[],vararg:=none,kwonlyargs:=[],kw_defaults:=[],kwarg:=none,defaults:=[] }
def iG (s:gz):List gz:=match s with
 | .FunctionDef _ _ b _ _ _ _ _ _ _=>b
 |_=>[]
def aU (s:gz):gh:=match s with
 | .FunctionDef _ _ _ _ _ _ sc _ _ _=>sc
 |_=>{ kind:=.function,names:=[],isGenerator:=false,isCoroutine:=false }
abbrev E0:XK:=λ_ _ _=>False
structure B' (K:ao) (x qual:Str) (st:gz) (f:ah) (fd:bq):Prop where
 ex:∃(oc:af) (od:Option ah) (kV doc pm:af) (an:Option ah) (cdv ct:af) (osl:Array (Option af)),
  fd=qd x qual (nY st) (iG st) (aU st) .none kV doc pm an cdv ct/\K.lookup f=some ⟨oc,od,.func fd,osl⟩/\xb K cdv qual=true
 kp:ki K (.ref f)=true
section
variable{P:bj}{w:cq}{K:ao}{mg:Str->Option af}{base:cx}
theorem B'.binds {x qual:Str}{st:gz}{f:ah}{fd:bq}{ps:Au}(F:B' K x qual st f fd)
  (h:∀(kV doc pm:af) (an:Option ah) (cdv ct:af) (us:List af),us.length=ps.length->bindArgs (qd x qual (nY st) (iG st) (aU st) .none kV doc pm an cdv ct) ⟨us,[]⟩=pure (ps.zip us)):Binds K fd ps []:=by
 obtain⟨oc,od,kV,doc,pm,an,cdv,ct,osl,rfl,lk,hcd⟩:=F.ex;exact .all (h kV doc pm an cdv ct)
theorem IH {x qual:Str}{st:gz}{f:ah}{oc:af}{od an:Option ah}{osl:Array (Option af)}{kV doc pm cdv ct:af}(l:K.lookup f=some ⟨oc,od,.func (qd x qual (nY st) (iG st) (aU st) .none kV doc pm an cdv ct),osl⟩)
  (c:xb K cdv qual=true) (k:ki K (.ref f)=true):B' K x qual st f (qd x qual (nY st) (iG st) (aU st) .none kV doc pm an cdv ct):=⟨⟨oc,od,kV,doc,pm,an,cdv,ct,osl,rfl,l,c⟩,k⟩
end
section
variable{X:Cx}
end
theorem II {A B:Prop}(h:B):if false=true then A else B:=by rw[if_neg ie];exact h
theorem IJ {A B:Prop}(h:A):if true=true then A else B:=by rw[if_pos rfl];exact h
def Cn (H H':Hp):Prop:=∀b o,H b=some o->H' b=some o
theorem Cn.refl (H:Hp):Cn H H:=λ_ _ h=>h
theorem wM {β:Type}(x y:Str) (c:β) (acc:List (Str×β)):((y,c)::acc).lookup x=if x=y then some c else acc.lookup x:=by
 rw[je]
 by_cases e:x=y
 ·have hb:(x==y)=true:=beq_iff_eq.mpr e;rw[hb,if_pos e]
 ·have hb:(x==y)=false:=beq_eq_false_iff_ne.mpr e;rw[hb,if_neg e]
def dO (env:Env):List (Str×lj)->List (Str×ah)->List (Str×ah)
 | [],acc=>acc
 |(x,k)::r,acc=>dO env r (if k==.free then(x,(env.cells.lookup x).getD 0)::acc else acc)
theorem BG {env:Env}:∀(l:List (Str×lj)) (acc:List (Str×ah)),(∀x,(x,cb)∈l->∃c,env.cells.lookup x=some c)->
  (forIn l acc (λ(x:Str×lj) (r:List (Str×ah))=>match x with
   |(name,kind)=>if(kind==cb)=true then(do let a <-cellOf env name;pure (sj ((name,a)::r)))else(pure (sj r):Sem (ForInStep (List (Str×ah))))))=(pure (dO env l acc):Sem (List (Str×ah)))
 | [],acc,_=>rfl
 |(x,k)::l,acc,h=>by
  rw[qg];dsimp only
  cases hk:k==cb with
  |true=>
   have e:k=.free:=by cases k <;> first|rfl|cases hk
   subst e;obtain⟨c,hc⟩:=h x (bg ..);rw[if_pos rfl,show dO env ((x,cb)::l) acc=dO env l ((x,c)::acc)by rw[dO,if_pos hk,hc];rfl,<-BG l ((x,c)::acc) λy hy=>h y (au _ hy)];unfold cellOf;rw[hc];rfl
  |false=>rw[if_neg (by simp),show dO env ((x,k)::l) acc=dO env l acc by rw[dO,hk];rfl,<-BG l acc λy hy=>h y (au _ hy)];rfl
theorem wN {env:Env}{scope:gh}(h:∀x,(x,cb)∈scope.names->∃c,env.cells.lookup x=some c):closureFor scope env=pure (dO env scope.names []):=by unfold closureFor;have:=BG (env:=env) scope.names [] h;show(forIn scope.names [] _ >>= λcs=>pure cs)=_;exact(congrArg (λ(m:Sem (List (Str×ah)))=>m >>= λcs=>pure cs) this)
theorem sU {env:Env}{x:Str}:∀(l:List (Str×lj)) (acc:List (Str×ah)),((x,cb)∈l∨acc.lookup x=some ((env.cells.lookup x).getD 0))->(dO env l acc).lookup x=some ((env.cells.lookup x).getD 0)
 | [],acc,h=>h.elim (λz=>nomatch z) id
 |(y,k)::l,acc,h=>by
  rw[dO]
  cases hk:k==cb with
  |true=>
   refine sU l _ ?_;rw[if_pos rfl]
   by_cases e:x=y
   ·subst e;right;rw[wM,if_pos rfl]
   ·rcases h with h|h
    ·rcases bh.mp h with h|h
     ·cases h;exact absurd rfl e
     ·exact .inl h
    ·right;rw[wM,if_neg e];exact h
  |false=>
   refine sU l _ ?_
   rcases h with h|h
   ·rcases bh.mp h with h|h
    ·cases h;simp at hk
    ·exact .inl h
   ·exact .inr h
structure BlkCells (h h':cx) (names:List (Str×lj)) (acc cs:List (Str×ah)):Prop where
 cases:∀x c,cs.lookup x=some c->acc.lookup x=some c∨(h.objs.size<=c/\h'.IsCell c none/\(x,dz)∈names)
 own:∀x,(x,dz)∈names->∃c,cs.lookup x=some c
 old:∀x,(x,dz)∉names->cs.lookup x=acc.lookup x
 inj:(∀x y c,acc.lookup x=some c->acc.lookup y=some c->x=y)->(∀x c,acc.lookup x=some c->c<h.objs.size)->∀x y c,cs.lookup x=some c->cs.lookup y=some c->x=y
theorem sV:∀(names:List (Str×lj)) (h:cx) (acc:List (Str×ah)),BlkCells h (pushCells h names) names acc (cellsFrom h.objs.size names acc)
 | [],h,acc=>{ cases:=λ_ _ e=>.inl e,own:=λ_ z=>(nomatch z),old:=λ_ _=>rfl,inj:=λa _=>a }
 |(y,k)::r,h,acc=>by
  cases hk:k==dz with
  |true=>
   have ek:k=.cell:=by cases k <;> first|rfl|cases hk
   subst ek;have ih:=sV r (h.push { cls:=.type "cell",data:=.cell none }) ((y,h.objs.size)::acc);have e1:pushCells h ((y,dz)::r)=pushCells (h.push { cls:=.type "cell",data:=.cell none }) r:=rfl;have e2:cellsFrom h.objs.size ((y,dz)::r) acc=cellsFrom (h.push { cls:=.type "cell",data:=.cell none }).objs.size r ((y,h.objs.size)::acc):=by rw[fg];rfl
   rw[e1,e2];have look:∀x,((y,h.objs.size)::acc).lookup x=if x=y then some h.objs.size else acc.lookup x:=λx=>wM ..
   refine⟨λx c e=>?_,λx hx=>?_,λx hx=>?_,λh1 h2 x z c ex ez=>?_⟩
   ·rcases ih.cases x c e with q|⟨q1,q2,q3⟩
    ·rw[look]at q
     by_cases exy:x=y
     ·rw[if_pos exy]at q;cases q;refine .inr ⟨aj _,⟨_,rn r _ _ _ (bc _ rfl),rfl⟩,by rw[exy];exact bg ..⟩
     ·rw[if_neg exy]at q;exact .inl q
    ·rw[fg]at q1;exact .inr ⟨Nat.le_of_succ_le q1,q2,au _ q3⟩
   ·by_cases hr:(x,dz)∈r
    ·exact ih.own x hr
    ·rw[ih.old x hr,look]
     rcases bh.mp hx with z|z
     ·cases z;exact⟨_,if_pos rfl⟩
     ·exact absurd z hr
   ·rw[ih.old x λz=>hx (au _ z),look,if_neg]
    rintro rfl
    exact hx (bg ..)
   ·refine ih.inj ?_ ?_ x z c ex ez
    ·intro a b c ea eb;rw[look]at ea eb
     by_cases qa:a=y
     ·rw[if_pos qa]at ea;cases ea
      by_cases qb:b=y
      ·exact qa.trans qb.symm
      ·rw[if_neg qb]at eb;exact absurd (h2 b _ eb) (ij _)
     ·rw[if_neg qa]at ea
      by_cases qb:b=y
      ·rw[if_pos qb]at eb;cases eb;exact absurd (h2 a _ ea) (ij _)
      ·rw[if_neg qb]at eb;exact h1 a b c ea eb
    ·intro a c ea;rw[fg];rw[look]at ea
     by_cases qa:a=y
     ·rw[if_pos qa]at ea;cases ea;exact jm _
     ·rw[if_neg qa]at ea;exact jb (h2 a c ea)
  |false=>
   have ih:=sV r h acc;have e1:pushCells h ((y,k)::r)=pushCells h r:=by rw[pushCells,hk];rfl
   have e2:cellsFrom h.objs.size ((y,k)::r) acc=cellsFrom h.objs.size r acc:=by rw[cellsFrom,hk];rfl
   rw[e1,e2];have nk:∀x,(x,dz)∈(y,k)::r->(x,dz)∈r:=λx z=>by
    rcases bh.mp z with z|z
    ·cases z;simp at hk
    ·exact z
   exact⟨λx c e=>(ih.cases x c e).imp id λ⟨a,b,c⟩=>⟨a,b,au _ c⟩,λx hx=>ih.own x (nk x hx),λx hx=>ih.old x λz=>hx (au _ z),ih.inj⟩
def IK (scope:gh) (env:Env) (L:ah):Env:={ scope:=relabel scope env,locals:=L,globals:=env.globals,cells:=cellsFrom (L+1) scope.names (dO env scope.names []),qual:=env.qual,func:=none,code:=env.code,frame:=env.frame,builtins:=env.builtins }
theorem VE {M:yr}{A:cm}{E:af->ag->Prop}{s:ag}{scope:gh}{env:Env}{cl:List (Str×ah)}{qual:Str}{g:ah}{Q:Env->ag->Prop}
  (h:Q { scope:=scope,locals:=s.heap.objs.size,globals:=g,cells:=cellsFrom (s.heap.objs.size+1) scope.names cl,qual:=qual,func:=none,code:=env.code,frame:=env.frame,builtins:=env.builtins }
   { s with heap:=pushCells (s.heap.push { cls:=.type "dict",data:=.dict #[] }) scope.names }):
  wpAny M A (newFunctionEnv scope g cl [] qual none .none (some env)) Q E s:=by
 simp only[newFunctionEnv,zx,if_true];refine ae (wpAny_alloc ?_);refine ae (wpAny_layCells _ (λname kind cells=>by cases hkc:kind==dz <;> simp[hkc]) _ _ _ _ ?_);rw[show({ s with heap:=s.heap.push { cls:=.type "dict",data:=.dict #[] } }:ag).heap.objs.size=s.heap.objs.size+1 from fg ..];exact ae (ai (ai h))
def bZ (X:Cx) (scope:gh) (N:Au) (s:ag) (H:Hp) (ex:List ah):Cx:={ X with N:=N,s₀:=s,H₀:=H,env:=IK scope X.env s.heap.objs.size,outer:=X.stack,stack:=X.stack,ex:=ex,fn:=λx=>scope.names.lookup x==some .cell,xe:=λ_ _=>False }
def qP (cap:List (Option Nat)) (σ:St):St:=cap.map λo=>match o with|some j=>(σ[j]?).getD none|none=>none
structure Bu (X:Cx) (scope:gh) (N:Au) (cap:List (Option Nat)):Prop where
 kind:scope.kind=.function
 nd:∀x∈scope.names,x.2=.local->scope.names.lookup x.1=some .local
 len:cap.length=N.length
 free:∀x,(x,cb)∈scope.names->X.env.kindOf x=some .cell∨X.env.kindOf x=some .free
 apart:∀x,(x,cb)∈scope.names->(x,dz)∉scope.names
 cap:∀(i j:Nat) (x:Str),cap[i]?=some (some j)->N[i]?=some x->X.N[j]?=some x/\(x,cb)∈scope.names/\(relabel scope X.env).names.lookup x≠some .local
theorem BH {scope:gh}{env:Env}{x:Str}:∀{l:List (Str×lj)}{k:lj},(l.map λ(n,k)=>if(k==cb&&env.scope.kind==.function&&env.kindOf n==some .cell)then(n,dz)else(n,k)).lookup x=some k->
  (x,k)∈l∨(k=.cell/\(x,cb)∈l)
 | [],_,h=>by simp at h
 |(n,q)::r,k,h=>by
  have ih:=@BH scope env x r k;rw[da]at h
  by_cases hc:(q==cb&&env.scope.kind==.function&&env.kindOf n==some .cell)=true
  ·have hq:q=.free:=by
    have:(q==cb)=true:=by
     cases z:q==cb with
     |true=>rfl
     |false=>rw[z]at hc;simp at hc
    cases q <;> first|rfl|cases this
   dsimp only at h;rw[if_pos hc,je]at h
   cases e:x==n with
   |true=>rw[e]at h;have h':dz=k:=cw h;subst h';have ex:=beq_iff_eq.mp e;subst ex;subst hq;exact .inr ⟨rfl,bg ..⟩
   |false=>rw[e]at h;exact(ih h).imp (au _) λ⟨a,b⟩=>⟨a,au _ b⟩
  ·dsimp only at h;rw[if_neg hc,je]at h
   cases e:x==n with
   |true=>rw[e]at h;have h':q=k:=cw h;subst h';have ex:=beq_iff_eq.mp e;subst ex;exact .inl (bg ..)
   |false=>rw[e]at h;exact(ih h).imp (au _) λ⟨a,b⟩=>⟨a,au _ b⟩
theorem wO {env:Env}{x:Str}{c:ah}:∀(l:List (Str×lj)) (acc:List (Str×ah)),(dO env l acc).lookup x=some c->acc.lookup x=some c∨((x,cb)∈l/\c=(env.cells.lookup x).getD 0)
 | [],acc,h=>.inl h
 |(y,k)::l,acc,h=>by
  rw[dO]at h
  cases hk:k==cb with
  |true=>
   have ek:k=.free:=by cases k <;> first|rfl|cases hk
   subst ek;rw[if_pos hk]at h
   rcases wO l _ h with q|⟨q1,q2⟩
   ·rw[wM]at q
    by_cases e:x=y
    ·rw[if_pos e]at q;subst e;exact .inr ⟨bg ..,(cw q).symm⟩
    ·rw[if_neg e]at q;exact .inl q
   ·exact .inr ⟨au _ q1,q2⟩
  |false=>rw[if_neg (by rw[hk];exact ie)]at h;exact(wO l _ h).imp id λ⟨a,b⟩=>⟨au _ a,b⟩
section
variable{X:Cx}{pins:List (ah×Obj)}{σ:St}{H:Hp}{s:ag}{scope:gh}{N:Au}{cap:List (Option Nat)}{ex:List ah}
theorem wQ (I:Inv X pins σ H s) (C:Bu X scope N cap) {x:Str}{c:ah}(e:(dO X.env scope.names []).lookup x=some c):(x,cb)∈scope.names/\X.env.cells.lookup x=some c:=by
 rcases wO _ _ e with q|⟨q1,q2⟩
 ·cases q
 ·obtain⟨c',h'⟩:=I.ok.has x (C.free x q1);rw[h']at q2;subst q2;exact⟨q1,h'⟩
theorem wR (I:Inv X pins σ H s) (C:Bu X scope N cap) {x:Str}{c:ah}(e:(IK scope X.env s.heap.objs.size).cells.lookup x=some c):
  (X.env.cells.lookup x=some c/\(x,cb)∈scope.names)∨(s.heap.objs.size<c/\(pushCells (s.heap.push { cls:=.type "dict",data:=.dict #[] }) scope.names).IsCell c none/\(x,dz)∈scope.names):=by
 have B:=sV scope.names (s.heap.push { cls:=.type "dict",data:=.dict #[] }) (dO X.env scope.names []);rw[fg]at B
 rcases B.cases x c e with q|⟨q1,q2,q3⟩
 ·obtain⟨a,b⟩:=wQ I C q;exact .inl ⟨b,a⟩
 ·rw[fg]at q1;exact .inr ⟨q1,q2,q3⟩
theorem IL (I:Inv X pins σ H s) (C:Bu X scope N cap) (hex:∀b∈ex,dN X pins H b/\b<s.heap.objs.size):(bZ X scope N s H ex).Ok:=by
 have B:=sV scope.names (s.heap.push { cls:=.type "dict",data:=.dict #[] }) (dO X.env scope.names []);rw[fg]at B;have kf:∀x,(x,cb)∈scope.names->∃c,X.env.cells.lookup x=some c:=λx hx=>I.ok.has x (C.free x hx);refine⟨I.ok.mod,C.kind,I.ok.glob,I.ok.blt,aj _, ?_, ?_, ?_,I.ok.hd,I.ok.frames,.inl rfl, ?_,I.bs,df I.ok.bsz I.sz, ?_, ?_,I.stack,I.stkFree⟩
 ·refine B.inj (λx y c e1 e2=>?_) λx c e=>?_
  ·exact I.ok.inj x y c (wQ I C e1).2 (wQ I C e2).2
  ·obtain⟨v,q⟩:=I.cell x c (wQ I C e).2;rw[fg];exact jb q.lt
 ·intro x hx;have hx':(relabel scope X.env).names.lookup x=some .cell∨(relabel scope X.env).names.lookup x=some .free:=hx;have mem:(x,dz)∈scope.names∨(x,cb)∈scope.names:=by
   rcases hx' with h|h
   ·rcases BH (scope:=scope) h with q|⟨_,q⟩
    ·exact .inl q
    ·exact .inr q
   ·rcases BH (scope:=scope) h with q|⟨z,q⟩
    ·exact .inr q
    ·exact .inr q
  by_cases hc:(x,dz)∈scope.names
  ·exact B.own x hc
  ·rcases mem with h|h
   ·exact absurd h hc
   ·exact⟨_,(B.old x hc).trans (sU _ _ (.inl h))⟩
 ·intro x c hf e;have hf':(scope.names.lookup x==some .cell)=true:=hf;have hm:(x,dz)∈scope.names:=fq (eq_of_beq hf')
  rcases wR I C e with⟨_,q⟩|⟨q,_⟩
  ·exact absurd hm (C.apart x q)
  ·exact iq q
 ·intro b hb;obtain⟨⟨f0,f1,f2,f3,f4,f5⟩,hlt⟩:=hex b hb;refine⟨az hlt,λx c e z=>?_⟩
  rcases wR I C e with⟨q,_⟩|⟨q,_⟩
  ·exact f4 x c q z
  ·subst z;exact ij _ (Nat.lt_trans q hlt)
 ·intro b o e hb;obtain⟨⟨f0,f1,f2,f3,f4,f5⟩,hlt⟩:=hex b hb
  rcases f3 with q|q
  ·exact I.ok.noex b o e q
  ·exact ij _ (av (aq e) (df I.ok.bsz q))
 ·intro b hb z;obtain⟨⟨f0,f1,f2,f3,f4,f5⟩,hlt⟩:=hex b hb
  rcases bh.mp (I.stkSub b z)with q|q
  ·exact f1 q
  ·exact f2 q
theorem VF (I:Inv X pins σ H s) (C:Bu X scope N cap) (hex:∀b∈ex,dN X pins H b/\b<s.heap.objs.size):
  Inv (bZ X scope N s H ex) pins (qP cap σ) H { s with heap:=pushCells (s.heap.push { cls:=.type "dict",data:=.dict #[] }) scope.names }:=by
 have B:=sV scope.names (s.heap.push { cls:=.type "dict",data:=.dict #[] }) (dO X.env scope.names []);rw[fg]at B;have kp:∀b o,s.heap.get? b=some o->(pushCells (s.heap.push { cls:=.type "dict",data:=.dict #[] }) scope.names).get? b=some o:=λb o e=>rn _ _ _ _ (ak _ e);have ns:(pushCells (s.heap.push { cls:=.type "dict",data:=.dict #[] }) scope.names).Ns s.heap.objs.size (λ_=>none):=⟨_,#[],_,rn _ _ _ _ (bc _ rfl),rfl,(λe he=>absurd he (by simp)),λ_=>rfl⟩
 obtain⟨m,hn,hl⟩:=I.loc;refine⟨IL I C hex,rfl,I.bare,Un.kept kp,⟨_,ns,λi x v h1 h2 h3=>?_⟩,λx c e=>?_,I.hok.fresh (aj _),λx c e=>?_,λp hp=>?_,I.hok.kept kp, ?_⟩
 ·have h2':(cap.map λo=>match o with|some j=>(σ[j]?).getD none|none=>none)[i]?=some (some v):=h2;rw[dk]at h2'
  cases q:cap[i]? with
  |none=>rw[q]at h2';cases h2'
  |some o=>
   rw[q]at h2'
   cases o with
   |none=>cases h2'
   |some j=>
    have e1:(σ[j]?).getD none=some v:=cw h2';have e2:σ[j]?=some (some v):=by
     cases z:σ[j]? with
     |none=>rw[z]at e1;cases e1
     |some w=>rw[z]at e1;exact congrArg some e1
    obtain⟨c1,c2,c3⟩:=C.cap i j x q h1;have vis:mV X.env.scope x:=by
     rcases C.free x c2 with z|z
     ·exact .inr (.inl z)
     ·exact .inr (.inr z)
    obtain⟨u,r,l⟩:=hl j x v c1 e2 vis;refine⟨u,r, ?_⟩
    rcases l with⟨hk,hm⟩|⟨hk,c,hc,hcell⟩
    ·rcases C.free x c2 with z|z
     ·rw[z]at hk;cases hk
     ·rw[z]at hk;cases hk
    ·refine .inr ⟨?_,c, ?_, ?_⟩
     ·have h3':mV (relabel scope X.env) x:=h3
      rcases h3' with z|z|z
      ·exact absurd z c3
      ·exact .inl z
      ·exact .inr z
     ·have:=(B.old x (C.apart x c2)).trans (sU _ _ (.inl c2));rw[hc]at this;exact this
     ·obtain⟨o,ho,hd⟩:=hcell;exact⟨o,kp _ _ ho,hd⟩
 ·rcases wR I C e with⟨q,_⟩|⟨_,q,_⟩
  ·obtain⟨v,o,ho,hd⟩:=I.cell x c q;exact⟨v,o,kp _ _ ho,hd⟩
  ·exact⟨none,q⟩
 ·rcases wR I C e with⟨q,_⟩|⟨q,_⟩
  ·exact I.freeC x c q
  ·exact I.hok.fresh (iq q)
 ·obtain⟨a1,a2,a3,a4,a5⟩:=I.pin p hp;refine⟨kp _ _ a1,a2,az (aq a1),λz=>?_,a5⟩
  rcases bh.mp (I.stkSub _ z)with q|q
  ·exact a3 q
  ·exact a4 q
 ·show(cap.map _).length=N.length;rw[ba];exact C.len
theorem VG (I:Inv X pins σ H s) (C:Bu X scope N cap) (hex:∀b∈ex,dN X pins H b/\b<s.heap.objs.size):∀b∈ex,dN (bZ X scope N s H ex) pins H b:=by intro b hb;obtain⟨⟨f0,f1,f2,f3,f4,f5⟩,hlt⟩:=hex b hb;have ok:=IL (N:=N) I C hex;exact⟨f0,(ok.exf b hb).1,ok.exfs b hb,.inl hb,(ok.exf b hb).2,f5⟩
theorem VH {σ':St}{H':Hp}{s':ag}{h':cx}(I:Inv X pins σ H s) (hex:∀b∈ex,dN X pins H b/\b<s.heap.objs.size) (I':Inv (bZ X scope N s H ex) pins σ' H' s') (hh:jf s.heap.objs.size s'.heap h'):
  Inv X pins σ H' { s' with heap:=h' }:=by
 have u:Un (dZ X.stack) ex H H' s.heap s'.heap:=I'.base;have up:∀b o o',s.heap.get? b=some o->s'.heap.get? b=some o'->h'.get? b=some o':=λb o o' e e'=>(hh.2 b (az (aq e))).trans e';have hL:H' s.heap.objs.size=none:=I'.free;refine I.call' (s':={ s' with heap:=h' }) (ch:=ex) I'.os ⟨λb o q n hb hx=>up b o o q (u.keep b o q n hb hx),λb o q n hb hx=>?_,u.free,λb o q hx=>?_,u.tups,u.frzs,u.tbls⟩ (λb o e=>?_) I'.bare λb hb=>?_
 ·obtain⟨sl,e⟩:=u.slot b o q n hb hx;exact⟨sl,up b o _ q e⟩
 ·obtain⟨o',e⟩:=u.there b o q hx;exact⟨o',up b o _ q e⟩
 ·refine(I'.hok b o e).stay (λc v hc q=>(hh.2 c ?_).trans q) (λ_ q=>q) λ_ _ q=>q
  rcases hc with z|z
  ·rw[z];rintro rfl;rw[hL]at e;cases e
  ·rintro rfl;rw[hL]at z;cases z
 ·obtain⟨⟨f0,f1,f2,f3,f4,f5⟩,hlt⟩:=hex b hb;exact⟨f3,f1,f4,f5⟩
theorem Inv.adopt {a:ah}{o:HO}(I:Inv X pins σ H s) (f:dN X pins H a) (ha:X.s₀.heap.objs.size<=a) (new:Bh X.prog X.w (aT H a o) s.heap a o):Inv X pins σ (aT H a o) s:=by
 obtain⟨f0,f1,f2,f3,f4,f5⟩:=f;have ne0:∀b ob,X.s₀.heap.get? b=some ob->b≠a:=λb ob e z=>by subst z;exact ij _ (av (aq e) ha)
 refine⟨I.ok,I.os,I.bare,⟨I.base.keep,I.base.slot,λb ob e n hx=>by rw[bW (ne0 b ob e)];exact I.base.free b ob e n hx,I.base.there,λb xs e=>?_,λb ob u e=>?_,λb ps e=>?_⟩,I.loc,I.cell,by rw[bW (dh f1)];exact I.free,
  λx c e=>by rw[bW (f4 x c e)];exact I.freeC x c e,λp hp=>?_,λb u e=>?_,I.len⟩
 ·have:=I.base.tups b xs e;rw[bW (fW this f0)];exact this
 ·have:=I.base.frzs b ob u e;rw[bW (fW this f0)];exact this
 ·obtain⟨more,this⟩:=I.base.tbls b ps e;exact⟨more,by rw[bW (fW this f0)];exact this⟩
 ·obtain⟨a1,a2,a3,a4,a5⟩:=I.pin p hp;exact⟨a1,by rw[bW (f5 p hp)];exact a2,a3,a4,a5⟩
 ·by_cases hb:b=a
  ·subst hb;rw[dF]at e;cases e;exact new
  ·rw[bW hb]at e;exact(I.hok b u e).stay (λ_ _ _ q=>q) (λc q=>by rw[bW (fW q f0)];exact q) λc xs q=>by rw[bW (fW q f0)];exact q
end
def AccAt (s:ag) (D:ah) (xs:List V):Prop:=xs.length<=cf/\∃(its:List af) (n:Nat),Bd xs its/\s.heap.get? D=some { cls:=.type "list",data:=.seq its.toArray n }
abbrev TC:=St->Hp->List V->(St->Hp->List V->Prop)->Prop
def Eu (X:Cx) (D:ah) (m:Sem Unit) (t:TC):Prop:=
 ∀(pins:List (ah×Obj)) (s:ag) (σ:St) (H:Hp) (xs:List V) (K:St->Hp->List V->Prop),Inv X pins σ H s->AccAt s D xs->dN X pins H D->t σ H xs K->
  wpAny (model X.prog X.w) X.A m (λ_ s'=>∃σ' H' xs',Inv X pins σ' H' s'/\AccAt s' D xs'/\H' D=none/\K σ' H' xs') X.xe s
section
variable{X:Cx}{D:ah}
theorem AccAt.obj {s:ag}{xs:List V}(a:AccAt s D xs):∃o,s.heap.get? D=some o/\∀v,o.data≠.cell v:=by obtain⟨_,its,n,_,e⟩:=a;exact⟨_,e,λv z=>nomatch z⟩
theorem Inv.pinD {pins:List (ah×Obj)}{s:ag}{σ:St}{H:Hp}{xs:List V}(I:Inv X pins σ H s) (a:AccAt s D xs) (f:dN X pins H D):Inv X (pins++jW [D] s.heap) σ H s:=
 I.pinned (λb hb=>by (have e:b=D:=by simpa using hb);subst e;exact f) λb hb=>by
  have e:b=D:=by simpa using hb
  subst e;exact a.obj
theorem Inv.atD {pins:List (ah×Obj)}{s s':ag}{σ':St}{H':Hp}{xs:List V}(a:AccAt s D xs) (I:Inv X (pins++jW [D] s.heap) σ' H' s'):AccAt s' D xs/\H' D=none:=by obtain⟨z,its,n,r,e⟩:=a;have:=I.pin (D,_) (cn _ (cn _ (qM (by simp) e)));exact⟨⟨z,its,n,r,this.1⟩,this.2.1⟩
def wU (te:TE):TC:=λσ H xs K=>te σ H λv H1=>xs.length<cf/\K σ H1 (xs++[v])
theorem wV {elt:bo}{te:TE}(he:PE X elt te):Eu X D (do let x <-eval elt X.env;let _ <-call (.builtin "list.append") [.ref D,x];pure ()) (wU te):=by
 intro pins s σ H xs K I a f h;refine ae (bD (he _ s σ H _ (I.pinD a f) h) λu s1 ⟨v,H1,I1,r1,hz,q1⟩=>?_);obtain⟨a1,n1⟩:=Inv.atD a I1;have I1':=I1.unpinned;obtain⟨z,its,n,r,e⟩:=a1;have hl:=r.length;refine ae (sy F.slot_list_append ⟨_,e,rfl⟩ F.entry_list_append (F.args_list_append_2 _ _) (PySem.list_append D its.toArray n u (by rw[aw];omega)) ⟨e, ?_⟩);have q:=zk e (·.push u);have e2:its.toArray.push u=(its++[u]).toArray:=by simp
 rw[e2]at q;refine ai ⟨σ,H1,xs++[v], ?_,⟨by rw[bw,uv];omega,its++[u],_,r.append (.cons r1 .nil),q⟩,n1,q1⟩;obtain⟨f0,f1,f2,f3,f4,f5⟩:=f;exact I1'.turned (t':=s1.toks) (λb o hb z=>(lh s1.heap _ (dh hb)).trans z) n1 f1 f3 f4 f5
def IM (ifs:List bo) (env:Env):Sem Bool:=forIn ifs true λc r=>if r=true then do let ok <-isTrue c env (eval c env);pure (sj ok)else pure (sj r)
def PTs (X:Cx) (ifs:List bo) (t:TT):Prop:=∀(pins:List (ah×Obj)) (s:ag) (σ:St) (H:Hp) (Q:Bool->Hp->Prop),Inv X pins σ H s->t σ H Q->wpAny (model X.prog X.w) X.A (IM ifs X.env) (TP X pins σ Q) X.xe s
def IP:TT:=λ_ H Q=>Q true H
theorem IQ:PTs X [] IP:=λpins s σ H Q I h=>wpAny_tests_nil ⟨H,I,h⟩
theorem VI {c:bo}{t:TT}(h:PT X c t):PTs X [c] t:=λpins s σ H Q I q=>wpAny_tests_one (h pins s σ H Q I q)
def kP (p:Pos) (it:af) (tg:bo) (ifs:List bo) (env:Env) (inner:Sem Unit) (c:Code):Sem PySem.Fin:=do
 standAt p
 match <-pyNext it with
 |none=>pure (.done .next)
 |some v=>do
  letOwnedTupleGo tg it v
  assign tg env v
  let ok <-IM ifs env
  if ok=true then do inner;again c
  else again c
def qQ (J:It) (g:TG) (tt:TT) (inner:TC) (K:St->Hp->List V->Prop) (σ:St) (H:Hp) (xs:List V):Prop:=
 ∃W:Nat->Nat->St->Hp->List V->Prop,(∃m,W 0 m σ H xs)/\∀i m σ H xs,W i m σ H xs->
  (J.stop i H/\K σ H xs)∨(J.go i H/\∃N:St->Hp->List V->Prop,(∀σ' H' xs',N σ' H' xs'->∃m',m'<m/\W (i+1) m' σ' H' xs') /\
   ∀x H',J.yld i H x H'->g x σ H' λσ2 H2=>tt σ2 H2 λb H3=>if b=true then inner σ2 H3 xs N else N σ2 H3 xs)
theorem IS {elt:bo}{gens:List ju}{sc:gh}{ps:Pos}{d:Nat}{it:ah}{tg:bo}{ifs:List bo}{p:Pos}{inner:Sem Unit}{g:TG}{tt:TT}{ti:TC}{J:It}{fp:List ah}{tn:Nat->cx->Prop}
  (hx:X.xe=λ_ _=>False) (hc:X.calm=true)
  (ht:compTurn (.ListComp elt gens sc ps) d (.ref it) (.ref D) X.env=kP p (.ref it) tg ifs X.env inner (.compLoop (.ListComp elt gens sc ps) d (.ref it) (.ref D) X.env))
  (hg:PG X tg g) (Ei:PTs X ifs tt) (hi:Eu X D inner ti) (T:Turn X.prog X.w X.K tg J fp it tn)
  {pins:List (ah×Obj)}{s:ag}{σ:St}{H:Hp}{xs:List V}{K:St->Hp->List V->Prop}{R:yh->ag->Prop}(I:Inv X pins σ H s) (a:AccAt s D xs) (f:dN X pins H D) (st:tn 0 s.heap) (hf:∀b∈fp,dN X pins H b) (hD:D∉fp)
  (h:qQ J g tt ti K σ H xs) (hR:∀σ' H' xs' s',Inv X pins σ' H' s'->AccAt s' D xs'->H' D=none->K σ' H' xs'->R (.ok .next) s'):
  codeAny (model X.prog X.w) X.A (.compLoop (.ListComp elt gens sc ps) d (.ref it) (.ref D) X.env) R s:=by
 obtain⟨W,⟨m0,w0⟩,turn⟩:=h;have stat:∀{H':Hp},(∀b∈fp,H' b=none)->∀b∈fp,dN X pins H' b:=λhn b hb=>⟨hn b hb,(hf b hb).2⟩
 have statD:∀{H':Hp},H' D=none->dN X pins H' D:=λhn=>⟨hn,f.2⟩
 refine codeAny_loop rfl (λn s'=>∃i σ' H' xs',Inv X pins σ' H' s'/\AccAt s' D xs'/\H' D=none/\tn i s'.heap/\(∀b∈fp,H' b=none)/\W i n σ' H' xs') ?_ m0 ⟨0,σ,H,xs,I,a,f.1,st,λb hb=>(hf b hb).1,w0⟩
 rintro n s3 ⟨i,σ3,H3,xs3,I3,a3,n3,st3,fr3,w3⟩
 show wpAny _ X.A ((compTurn (.ListComp elt gens sc ps) d (.ref it) (.ref D) X.env).onRaise (λx=>do noteFrame x X.env;theTreesLotGoes x)) _ _ s3;rw[ht];refine uk (ku (Q:=λfin s'=>match fin with | .done f=>R (.ok f) s' | .again c'=>c'=.compLoop (.ListComp elt gens sc ps) d (.ref it) (.ref D) X.env/\∃m,m<n/\∃i σ' H' xs',Inv X pins σ' H' s'/\AccAt s' D xs'/\H' D=none/\tn i s'.heap/\(∀b∈fp,H' b=none)/\W i m σ' H' xs') (E:=λ_ _=>False) ?_ (λ_ _ z=>z) λ_ _ z=>z.elim);unfold kP;refine ae (ui (ae ?_));have xe':∀{α:Type}{m:Sem α}{Q:α->ag->Prop}{s:ag},wpAny (model X.prog X.w) X.A m Q X.xe s->wpAny (model X.prog X.w) X.A m Q (λ_ _=>False) s:=λ{α m Q s} z=>by rw[hx]at z;exact z
 have I3':=I3.pinD a3 (statD n3);have fr3':∀b∈fp,dN X (pins++jW [D] s3.heap) H3 b:=λb hb=>by
  obtain⟨g0,g1,g2,g3,g4,g5⟩:=stat fr3 b hb;refine⟨g0,g1,g2,g3,g4,λp hp=>?_⟩
  rcases cz.mp hp with z|z
  ·exact g5 p (ic _ z)
  ·rcases cz.mp z with z|z
   ·exact g5 p (cn _ z)
   ·have:=(A6 z).1;have e:p.1=D:=by simpa using this
    rw[e];rintro rfl;exact hD hb
 rcases turn i n σ3 H3 xs3 w3 with⟨stop,qn⟩|⟨go,N,hN,step⟩
 ·refine bD (T.done X rfl rfl rfl hc i _ s3 σ3 H3 (λ_ _=>False) I3' fr3' st3 stop) λr s4 ⟨hr,I4⟩=>?_;subst hr;obtain⟨a4,n4⟩:=Inv.atD a3 I4;exact ai (hR σ3 H3 xs3 s4 I4.unpinned a4 n4 qn)
 ·refine bD (T.item X rfl rfl rfl hc i _ s3 σ3 H3 (λ_ _=>False) I3' fr3' st3 go) λr s4 ⟨u,hr,h4⟩=>?_;subst hr;refine ae (bD h4 λ_ s5 ⟨x,H5,I5,r5,y5,st5,fr5⟩=>?_);obtain⟨a5,n5⟩:=Inv.atD a3 I5;have I5u:=I5.unpinned;have I5p:=I5u.pinned (stat fr5) (T.obj _ _ st5);have fD5:dN X (pins++jW fp s5.heap) H5 D:=by
   obtain⟨g0,g1,g2,g3,g4,g5⟩:=statD n5;refine⟨g0,g1,g2,g3,g4,λp hp=>?_⟩
   rcases cz.mp hp with z|z
   ·exact g5 p (ic _ z)
   ·rcases cz.mp z with z|z
    ·exact g5 p (cn _ z)
    ·rintro rfl;exact hD (A6 z).1
  have I5':=I5p.pinD a5 fD5;refine ae (xe' (bD (hg _ s5 σ3 H5 x u _ I5' r5 (step x H5 y5)) λ_ s6 ⟨σ6,H6,I6,q6⟩=>?_));obtain⟨a6,n6⟩:=Inv.atD a5 I6;have pin':∀{s σ H},Inv X (pins++jW fp s5.heap) σ H s->tn (i+1) s.heap/\∀b∈fp,H b=none:=λ{s σ H} J=>by refine⟨T.keep _ _ _ st5 λb hb o e=>(J.pin (b,o) (cn _ (cn _ (qM hb e)))).1,λb hb=>?_⟩;obtain⟨o,e,d⟩:=T.obj _ _ st5 b hb;exact(J.pin (b,o) (cn _ (cn _ (qM hb e)))).2.1
  have fD6:dN X (pins++jW fp s5.heap) H6 D:=⟨n6,fD5.2⟩
  have I6u:=I6.unpinned;have I6p:=I6u.pinD a6 fD6;refine ae (xe' (bD (Ei _ s6 σ6 H6 _ I6p q6) λb s7 ⟨H7,I7,q7⟩=>?_));obtain⟨a7,n7⟩:=Inv.atD a6 I7;have I7u:=I7.unpinned;have fin:∀{s8 σ8 H8 xs8},Inv X (pins++jW fp s5.heap) σ8 H8 s8->AccAt s8 D xs8->H8 D=none->N σ8 H8 xs8->
    ∃m,m<n/\∃i σ' H' xs',Inv X pins σ' H' s8/\AccAt s8 D xs'/\H' D=none/\tn i s8.heap/\(∀b∈fp,H' b=none)/\W i m σ' H' xs':=λ{s8 σ8 H8 xs8} J a8 n8 q8=>by
   obtain⟨m',hm,w8⟩:=hN σ8 H8 xs8 q8;obtain⟨t8,fr8⟩:=pin' J;exact⟨m',hm,i+1,σ8,H8,xs8,J.unpinned,a8,n8,t8,fr8,w8⟩
  cases b with
  |true=>
   rw[if_pos rfl]at q7 ⊢;have fD7:dN X (pins++jW fp s5.heap) H7 D:=⟨n7,fD5.2⟩
   refine ae (xe' (bD (hi _ s7 σ6 H7 xs3 N I7u a7 fD7 q7) λ_ s8 ⟨σ8,H8,xs8,I8,a8,n8,q8⟩=>?_));exact ai ⟨rfl,fin I8 a8 n8 q8⟩
  |false=>rw[if_neg ie]at q7 ⊢;exact ai ⟨rfl,fin I7u a7 n7 q7⟩
end
theorem IT (elt tg iter:bo) (ifs:List bo) (sc:gh) (ps:Pos) (it:af) (D:ah) (env:Env):
  compTurn (.ListComp elt [⟨tg,iter,ifs,0⟩] sc ps) 0 it (.ref D) env =
   kP iter.pos it tg ifs env (do let x <-eval elt env;let _ <-call (.builtin "list.append") [.ref D,x];pure ()) (.compLoop (.ListComp elt [⟨tg,iter,ifs,0⟩] sc ps) 0 it (.ref D) env):=by rfl
def qR (iter:bo) (e:bo) (d:Nat) (D:ah) (env:Env):Sem Unit:=do
 let x <-eval iter env
 standAt iter.pos
 let x <-foldedSetIterable iter env x
 let it <-holding [x] (pyIter x)
 let _ <-runOwn (.compStart e d it (.ref D) env) env
 pure ()
theorem IU (elt tg iter De Bm:bo) (ifs By:List bo) (sc:gh) (ps:Pos) (it:af) (D:ah) (env:Env):
  compTurn (.ListComp elt [⟨tg,iter,ifs,0⟩,⟨De,Bm,By,0⟩] sc ps) 0 it (.ref D) env =
   kP iter.pos it tg ifs env (qR Bm (.ListComp elt [⟨tg,iter,ifs,0⟩,⟨De,Bm,By,0⟩] sc ps) 1 D env) (.compLoop (.ListComp elt [⟨tg,iter,ifs,0⟩,⟨De,Bm,By,0⟩] sc ps) 0 it (.ref D) env):=by
 unfold kP qR;simp only[bind_assoc,pure_bind];rfl
theorem IV (elt tg iter De Bm:bo) (ifs By:List bo) (sc:gh) (ps:Pos) (it:af) (D:ah) (env:Env):
  compTurn (.ListComp elt [⟨tg,iter,ifs,0⟩,⟨De,Bm,By,0⟩] sc ps) 1 it (.ref D) env =
   kP Bm.pos it De By env (do let x <-eval elt env;let _ <-call (.builtin "list.append") [.ref D,x];pure ()) (.compLoop (.ListComp elt [⟨tg,iter,ifs,0⟩,⟨De,Bm,By,0⟩] sc ps) 1 it (.ref D) env):=by rfl
section
variable{X:Cx}{D:ah}
theorem IW {prog:bj}{w:cq}{A:cm}{R:yh->ag->Prop}{s:ag}{elt:bo}{gens:List ju}{sc:gh}{ps:Pos}{d:Nat}{it acc:af}{env:Env}(ha:((gens)[d]?).elim false (·.is_async != 0)=false)
  (h0:codeAny (model prog w) A (.compLoop (.ListComp elt gens sc ps) d it acc env) R s)
  (h:wpAny (model prog w) A (pyIter it) (λit' s'=>codeAny (model prog w) A (.compLoop (.ListComp elt gens sc ps) d it' acc env) R s') (λ_ _=>False) s):
  codeAny (model prog w) A (.compStart (.ListComp elt gens sc ps) d it acc env) R s:=by
 refine codeAny_of_tree ?_;show wpAny _ _ ((compStart (.ListComp elt gens sc ps) d it acc env).onRaise (λx=>do noteFrame x env;standAt theWindowsPlace)) _ _ s;refine wpAny_notedAt (ku (E:=λ_ _=>False) ?_ (λ_ _ z=>z) λ_ _ z=>z.elim);unfold compStart;rw[show((clausesOf (.ListComp elt gens sc ps))[d]?).elim false (·.is_async != 0)=false from ha];simp only[cp,if_false];refine ae (nr (wpAny_ite ?_))
 split
 ·first
   |exact ae (ai (ai (And.intro rfl h0)))
   |exact ai (And.intro rfl h0)
 ·have fin:∀s:ag,wpAny (model prog w) A (pyIter it) (λit' s'=>codeAny (model prog w) A (.compLoop (.ListComp elt gens sc ps) d it' acc env) R s') (λ_ _=>False) s->
    wpAny (model prog w) A (do let it' <-pyIter it;again (.compLoop (.ListComp elt gens sc ps) d it' acc env)) (λfin s'=>match fin with | .done f=>R (.ok f) s' | .again c=>c.quiet=true/\codeAny (model prog w) A c R s') (λ_ _=>False) s:=λs h=>ae (ku h (λit' s' h'=>ai ⟨rfl,h'⟩) λ_ _ x=>x)
  refine ae (tj ?_);have ec:clausesOf (.ListComp elt gens sc ps)=gens:=rfl;rw[ec]
  cases q:gens[d]? with
  |none=>exact fin s h
  |some g=>exact ae (ui (fin s h))
def IX (wi:TI) (g:TG) (tt:TT) (inner:TC):TC:=λσ H xs K=>wi σ H λJ H1=>qQ J g tt inner K σ H1 xs
theorem IY {elt:bo}{gens:List ju}{sc:gh}{ps:Pos}{d:Nat}{tg iter:bo}{ifs:List bo}{inner:Sem Unit}{wi:TI}{g:TG}{tt:TT}{ti:TC}
  (hx:X.xe=λ_ _=>False) (hc:X.calm=true) (ha:((gens)[d]?).elim false (·.is_async != 0)=false)
  (ht:∀it,compTurn (.ListComp elt gens sc ps) d (.ref it) (.ref D) X.env=kP iter.pos (.ref it) tg ifs X.env inner (.compLoop (.ListComp elt gens sc ps) d (.ref it) (.ref D) X.env))
  (hi:PI X tg iter wi) (hg:PG X tg g) (Ei:PTs X ifs tt) (Cz:Eu X D inner ti) (hs:∀x,foldedSetIterable iter X.env x=pure x):
  Eu X D (qR iter (.ListComp elt gens sc ps) d D X.env) (IX wi g tt ti):=by
 intro pins s σ H xs K I a f h;unfold qR;refine ae (bD (hi _ s σ H _ (I.pinD a f) h) λv s1 h1=>ae (ui (ae (uf (hs v) (ae (gw (bD h1 λitv s2 h2=>?_)))))));obtain⟨it,fp,tn,J,H2,e,I2,T,st2,f2,lp⟩:=h2;subst e;obtain⟨a2,n2⟩:=Inv.atD a I2;have I2u:=I2.unpinned;have hpD:∀b∈fp,b≠D:=λb hb z=>by subst z;obtain⟨_,its,n,_,eo⟩:=a;exact(f2 b hb).2.2.2.2.2 (b,_) (cn _ (cn _ (qM (by simp) eo))) rfl
 have f2u:∀b∈fp,dN X pins H2 b:=λb hb=>by
  obtain⟨g0,g1,g2,g3,g4,g5⟩:=f2 b hb;exact⟨g0,g1,g2,g3,g4,λp hp=>g5 p (by
   rcases cz.mp hp with z|z
   ·exact ic _ z
   ·exact cn _ (ic _ z))⟩
 have fD:dN X pins H2 D:=⟨n2,f.2⟩
 refine ae (wpAny_runOwn ?_);have loop:codeAny (model X.prog X.w) X.A (.compLoop (.ListComp elt gens sc ps) d (.ref it) (.ref D) X.env) (λr s'=>match r with
   | .ok f=>wpAny (model X.prog X.w) X.A (pure ():Sem Unit) (λ_ s'=>∃σ' H' xs',Inv X pins σ' H' s'/\AccAt s' D xs'/\H' D=none/\K σ' H' xs') X.xe s'
   | .error e=>cameBackBy (model X.prog X.w) X.A X.env X.xe e s') s2:=
  IS hx hc (ht it) hg Ei Cz T I2u a2 fD st2 f2u (λz=>hpD D z rfl) lp λσ' H' xs' s' I' a' n' k'=>ai ⟨σ',H',xs',I',a',n',k'⟩
 exact IW ha loop (T.self _ 0 s2 _ _ st2 loop)
end
def wW (wi:TI) (cap:List (Option Nat)) (g:TG) (tt:TT) (inner:TC):TE:=λσ H Q=>wi σ H λJ H1=>qQ J g tt inner (λ_ H' xs=>∀p,H' p=none->Q (.ref p) (aT H' p (.lst xs))) (qP cap σ) H1 []
section
variable{X:Cx}
theorem BI {elt:bo}{gens:List ju}{sc:gh}{ps:Pos}{tg iter:bo}{ifs:List bo}{rest:List ju}{inner:ah->Env->Sem Unit}{g:TG}{tt:TT}{ti:TC}{N:Au}{cap:List (Option Nat)}{E:af->ag->Prop}
  (hc:X.calm=true) (C:Bu X sc N cap) (eg:gens=⟨tg,iter,ifs,0⟩::rest)
  (ht:∀it D env,compTurn (.ListComp elt gens sc ps) 0 (.ref it) (.ref D) env=kP iter.pos (.ref it) tg ifs env (inner D env) (.compLoop (.ListComp elt gens sc ps) 0 (.ref it) (.ref D) env))
  (hg:∀s H ex,PG (bZ X sc N s H ex) tg g) (Ei:∀s H ex,PTs (bZ X sc N s H ex) ifs tt)
  {pins:List (ah×Obj)}{s2:ag}{σ:St}{H2:Hp}(Cz:∀s ex D,Inv X pins σ H2 s->(∀b∈ex,dN X pins H2 b/\b<s.heap.objs.size)->Eu (bZ X sc N s H2 ex) D (inner D (bZ X sc N s H2 ex).env) ti)
  {K:St->Hp->List V->Prop}{it:ah}{fp:List ah}{tn:Nat->cx->Prop}{J:It}(I2:Inv X pins σ H2 s2) (T:Turn X.prog X.w X.K tg J fp it tn) (st2:tn 0 s2.heap) (f2:∀b∈fp,dN X pins H2 b)
  (lp:qQ J g tt ti K (qP cap σ) H2 []) {R:af->ah->yh->ag->Prop}
  (hR:∀σ' H' xs (s3 s':ag) (C D:ah),X.s₀.heap.objs.size<=D->C=s3.heap.objs.size->(∃m,s'.heap.Ns C m)->AccAt s' D xs->dN X pins H' D->dN X pins H' C->D<C->(∀h',jf C s'.heap h'->Inv X pins σ H' { s' with heap:=h' })->K σ' H' xs->R (.ref D) C (.ok .next) s'):
  wpAny (model X.prog X.w) X.A (newList []) (λacc s3=>wpAny (model X.prog X.w) X.A (newFunctionEnv sc X.env.globals (dO X.env sc.names []) [] X.env.qual none .none (some X.env)) (λcenv s4=>codeAny (model X.prog X.w) X.A (.compStart (.ListComp elt gens sc ps) 0 (.ref it) acc { cenv with scope:=relabel sc X.env }) (R acc cenv.locals) s4) E s3) E s2:=by
 refine fz (VE ?_);dsimp only;generalize hs3:({ s2 with heap:=s2.heap.push { cls:=.type "list",dict:=none,data:=.seq ([]:List af).toArray } }:ag)=s3;have kp:∀b o,s2.heap.get? b=some o->s3.heap.get? b=some o:=λb o e=>by rw[<-hs3];exact ak _ e
 have I3:Inv X pins σ H2 s3:=by rw[<-hs3];exact I2.kept (t':=s2.toks) λb o e=>ak _ e
 have eD:s3.heap.get? s2.heap.objs.size=some { cls:=.type "list",data:=.seq ([]:List af).toArray 0 }:=by rw[<-hs3];exact bc _ rfl
 have nD:H2 s2.heap.objs.size=none:=I2.hok.fresh (aj _);have fD:dN X pins H2 s2.heap.objs.size:=I2.fpOk (aj _) nD;have hlt:s2.heap.objs.size<s3.heap.objs.size:=aq eD;have hex:∀b∈s2.heap.objs.size::fp,dN X pins H2 b/\b<s3.heap.objs.size:=λb hb=>by
  rcases bh.mp hb with rfl|hb
  ·exact⟨fD,hlt⟩
  ·obtain⟨o,e,_⟩:=T.obj 0 _ st2 b hb;exact⟨f2 b hb,aq (kp b o e)⟩
 have hDfp:s2.heap.objs.size∉fp:=λz=>by obtain⟨o,e,_⟩:=T.obj 0 _ st2 _ z;exact ij _ (aq e)
 have I4:=VF (N:=N) (ex:=s2.heap.objs.size::fp) I3 C hex;have F4:=VG (N:=N) I3 C hex;have st4:tn 0 (pushCells (s3.heap.push { cls:=.type "dict",data:=.dict #[] }) sc.names):=T.keep 0 _ _ st2 λb hb o e=>rn _ _ _ _ (ak _ (kp b o e));have a4:AccAt { s3 with heap:=pushCells (s3.heap.push { cls:=.type "dict",data:=.dict #[] }) sc.names } s2.heap.objs.size []:=⟨ig _,[],0,.nil,rn _ _ _ _ (ak _ eD)⟩
 have loop:codeAny (model X.prog X.w) X.A (.compLoop (.ListComp elt gens sc ps) 0 (.ref it) (.ref s2.heap.objs.size) (bZ X sc N s3 H2 (s2.heap.objs.size::fp)).env) (R (.ref s2.heap.objs.size) s3.heap.objs.size)
   { s3 with heap:=pushCells (s3.heap.push { cls:=.type "dict",data:=.dict #[] }) sc.names }:=by
  refine IS (X:=bZ X sc N s3 H2 (s2.heap.objs.size::fp)) rfl hc (ht it _ _) (hg _ _ _) (Ei _ _ _) (Cz _ _ _ I3 hex) T I4 a4 (F4 _ (bg ..)) st4 (λb hb=>F4 b (au _ hb)) hDfp lp λσ' H' xs' s' I' a' n' k'=>?_;obtain⟨m,hn,_⟩:=I'.loc;exact hR σ' H' xs' s3 s' _ _ (df I2.sz (aj _)) rfl ⟨m,hn⟩ a' ⟨n',fD.2⟩ (I3.fpOk (aj _) I'.free) hlt (λh' hh=>VH I3 hex I' hh) k'
 have ha:((gens)[0]?).elim false (·.is_async != 0)=false:=by rw[eg];rfl
 subst hs3;exact IW ha loop (T.self _ 0 _ _ _ st4 loop)
theorem IZ {elt:bo}{gens:List ju}{sc:gh}{ps:Pos}{tg iter:bo}{ifs:List bo}{rest:List ju}{inner:ah->Env->Sem Unit}{wi:TI}{g:TG}{tt:TT}{ti:TC}{N:Au}{cap:List (Option Nat)}
  (hc:X.calm=true) (C:Bu X sc N cap) (eg:gens=⟨tg,iter,ifs,0⟩::rest)
  (ht:∀it D env,compTurn (.ListComp elt gens sc ps) 0 (.ref it) (.ref D) env=kP iter.pos (.ref it) tg ifs env (inner D env) (.compLoop (.ListComp elt gens sc ps) 0 (.ref it) (.ref D) env))
  (hi:PI X tg iter wi) (hg:∀s H ex,PG (bZ X sc N s H ex) tg g) (Ei:∀s H ex,PTs (bZ X sc N s H ex) ifs tt) (Cz:∀s H ex D,Eu (bZ X sc N s H ex) D (inner D (bZ X sc N s H ex).env) ti)
  (hs:∀x,foldedSetIterable iter X.env x=pure x):PE X (.ListComp elt gens sc ps) (wW wi cap g tt ti):=by
 intro pins s σ H Q I h;rw[eval_ListComp];have hcl:closureFor sc X.env=pure (dO X.env sc.names []):=wN λx hx=>I.ok.has x (C.free x hx);have e1:firstAsync gens=false:=by rw[eg];rfl
 have e2:firstIter gens X.env=eval iter X.env:=by rw[eg];rfl
 rw[e1,e2];refine um (use:=none) (g:=⟨tg,iter,ifs,0⟩) (gs:=rest) (by rw[eg];rfl) hs hcl C.kind C.nd (bD (hi pins s σ H _ I h) λv s1 h1=>bD h1 λitv s2 h2=>?_);obtain⟨it,fp,tn,J,H2,e,I2,T,st2,f2,lp⟩:=h2;subst e;refine BI (N:=N) (inner:=inner) (R:=λacc C=>compPost (model X.prog X.w) X.A X.xe none (EP X pins σ Q) acc C) hc C eg ht hg Ei (λs ex D _ _=>Cz s _ ex D) I2 T st2 f2 lp ?_;intro σ' H' xs s3 s' C D hD0 hC hn a f fC hDC Ck k;obtain⟨m,hn⟩:=hn;refine⟨m,hn,λh' hh=>?_⟩;have I5:=Ck h' hh;obtain⟨hz,its,n,r,eD⟩:=a;have eD':h'.get? D=some { cls:=.type "list",data:=.seq its.toArray n }:=(hh.2 D (az hDC)).trans eD;refine⟨.ref D,aT H' D (.lst xs),I5.adopt f hD0 ⟨hz,its,n,r,eD'⟩,rfl,k D f.1⟩
theorem VJ {elt:bo}{gens:List ju}{sc:gh}{ps:Pos}{tg iter:bo}{ifs:List bo}{rest:List ju}{inner:ah->Env->Sem Unit}{wi:TI}{g:TG}{tt:TT}{ti:St->TC}{N:Au}{cap:List (Option Nat)}
  (hc:X.calm=true) (C:Bu X sc N cap) (eg:gens=⟨tg,iter,ifs,0⟩::rest)
  (ht:∀it D env,compTurn (.ListComp elt gens sc ps) 0 (.ref it) (.ref D) env=kP iter.pos (.ref it) tg ifs env (inner D env) (.compLoop (.ListComp elt gens sc ps) 0 (.ref it) (.ref D) env))
  (hi:PI X tg iter wi) (hg:∀s H ex,PG (bZ X sc N s H ex) tg g) (Ei:∀s H ex,PTs (bZ X sc N s H ex) ifs tt) (Cz:∀pins s σ H ex D,Inv X pins σ H s->(∀b∈ex,dN X pins H b/\b<s.heap.objs.size)->Eu (bZ X sc N s H ex) D (inner D (bZ X sc N s H ex).env) (ti σ))
  (hs:∀x,foldedSetIterable iter X.env x=pure x):PE X (.ListComp elt gens sc ps) (λσ H Q=>wW wi cap g tt (ti σ) σ H Q):=by
 intro pins s σ H Q I h;rw[eval_ListComp];have hcl:closureFor sc X.env=pure (dO X.env sc.names []):=wN λx hx=>I.ok.has x (C.free x hx);have e1:firstAsync gens=false:=by rw[eg];rfl
 have e2:firstIter gens X.env=eval iter X.env:=by rw[eg];rfl
 rw[e1,e2];refine um (use:=none) (g:=⟨tg,iter,ifs,0⟩) (gs:=rest) (by rw[eg];rfl) hs hcl C.kind C.nd (bD (hi pins s σ H _ I h) λv s1 h1=>bD h1 λitv s2 h2=>?_);obtain⟨it,fp,tn,J,H2,e,I2,T,st2,f2,lp⟩:=h2;subst e;refine BI (N:=N) (inner:=inner) (R:=λacc C=>compPost (model X.prog X.w) X.A X.xe none (EP X pins σ Q) acc C) hc C eg ht hg Ei (λs ex D I hx=>Cz _ s _ _ ex D I hx) I2 T st2 f2 lp ?_;intro σ' H' xs s3 s' C D hD0 hC hn a f fC hDC Ck k;obtain⟨m,hn⟩:=hn;refine⟨m,hn,λh' hh=>?_⟩;have I5:=Ck h' hh;obtain⟨hz,its,n,r,eD⟩:=a;have eD':h'.get? D=some { cls:=.type "list",data:=.seq its.toArray n }:=(hh.2 D (az hDC)).trans eD;refine⟨.ref D,aT H' D (.lst xs),I5.adopt f hD0 ⟨hz,its,n,r,eD'⟩,rfl,k D f.1⟩
end
section
variable{X:Cx}
theorem VL {i:Nat}{x:Str}{px pos:Pos}{elt:bo}{gens:List ju}{sc:gh}{ps:Pos}{tg iter:bo}{ifs:List bo}{rest:List ju}{inner:ah->Env->Sem Unit}{wi:TI}{g:TG}{tt:TT}{ti:TC}{N:Au}{cap:List (Option Nat)}
  (hsw:swapsWith (.ListComp elt gens sc ps) (some (.Name x px)) pos.line X.env=pure true) (hN:X.N.Nodup) (hi':X.N[i]?=some x) (hx:X.env.scope.names.lookup x=some .local)
  (hc:X.calm=true) (C:Bu X sc N cap) (eg:gens=⟨tg,iter,ifs,0⟩::rest)
  (ht:∀it D env,compTurn (.ListComp elt gens sc ps) 0 (.ref it) (.ref D) env=kP iter.pos (.ref it) tg ifs env (inner D env) (.compLoop (.ListComp elt gens sc ps) 0 (.ref it) (.ref D) env))
  (hi:PI X tg iter wi) (hg:∀s H ex,PG (bZ X sc N s H ex) tg g) (Ei:∀s H ex,PTs (bZ X sc N s H ex) ifs tt) (Cz:∀s H ex D,Eu (bZ X sc N s H ex) D (inner D (bZ X sc N s H ex).env) ti)
  (hs:∀x,foldedSetIterable iter X.env x=pure x):PS X (.Assign [.Name x px] (.ListComp elt gens sc ps) pos) (wD (wW wi cap g tt ti) (A2 i)):=by
 intro pins s σ H D I h;rw[exec_Assign_Name_used _ _ _ _ hsw];have hcl:closureFor sc X.env=pure (dO X.env sc.names []):=wN λx hx=>I.ok.has x (C.free x hx);have e1:firstAsync gens=false:=by rw[eg];rfl
 have e2:firstIter gens X.env=eval iter X.env:=by rw[eg];rfl
 refine ae (ui (ae ?_));show wpAny _ X.A (do let _ <-comprehension (.ListComp elt gens sc ps) sc X.env (firstIterPos gens ps) (newList []) (firstAsync gens) (firstIter gens X.env) (some (assign (.Name x px) X.env))) _ _ s;rw[e1,e2];refine ae (bD (um (use:=some (assign (.Name x px) X.env)) (Q:=λ_ s'=>SP X pins D .next s') (g:=⟨tg,iter,ifs,0⟩) (gs:=rest) (by rw[eg];rfl) hs hcl C.kind C.nd (bD (hi pins s σ H _ I h) λv s1 h1=>bD h1 λitv s2 h2=>?_)) λ_ s' hq=>ai (ai hq));obtain⟨it,fp,tn,J,H2,e,I2,T,st2,f2,lp⟩:=h2;subst e;refine BI (N:=N) (inner:=inner) (R:=λacc C=>compPost (model X.prog X.w) X.A X.xe (some (assign (.Name x px) X.env)) (λ_ s'=>SP X pins D .next s') acc C) hc C eg ht hg Ei (λs ex D _ _=>Cz s _ ex D) I2 T st2 f2 lp ?_;intro σ' H' xs s3 s' C D' hD0 hC hn a f fC hDC Ck k;obtain⟨m,hn⟩:=hn;have I5:Inv X pins σ H' s':=Ck s'.heap (uw ..);obtain⟨hz,its,n,r,eD⟩:=a;have I6:Inv X pins σ (aT H' D' (.lst xs)) s':=I5.adopt f hD0 ⟨hz,its,n,r,eD⟩;show wpAny _ X.A (assign (.Name x px) X.env (.ref D')) _ _ s';obtain⟨c0,c1,c2,c3,c4,c5⟩:=fC;have nC:aT H' D' (.lst xs) C=none:=by rw[bW (dh (az hDC))];exact c0
 refine wpAny_assign_Name (GP (v:=V.ref D') I6 hN hi' (.inl hx) rfl (λs'' I7 ⟨a,sb,ha⟩=>?_) (.inr hx));have hCa:C≠a:=by
  rcases ha with z|z
  ·rw[z];exact c1
  ·exact dh (c4 x a z)
 refine⟨m,hn.sameBut sb hCa,λh' hh=>?_⟩;have I8:Inv X pins (σ.set i (some (.ref D'))) (aT H' D' (.lst xs)) { s'' with heap:=h' }:=I7.turned (t':=s''.toks) (λb o hb e=>(hh.2 b hb).trans e) nC c1 c3 c4 c5;exact⟨_,_,I8,k D' f.1⟩
end
inductive Dt where
 |non|bl (b:Bool)|int (i:Int)|str (x:Str)|tup (xs:List Dt)|lst (xs:List Dt)|dct
mutual
def Den (P:ah->Prop) (H:Hp):Dt->V->Prop
 | .non,v=>v=.non
 | .bl b,v=>v=.bl b
 | .int i,v=>v=.int i
 | .str x,v=>v=.str x
 | .tup ds,v=>∃a vs,v=.ref a/\H a=some (.tup vs)/\Bj P H ds vs
 | .lst ds,v=>∃a vs,v=.ref a/\P a/\H a=some (.lst vs)/\Bj P H ds vs
 | .dct,v=>∃a,v=.ref a/\P a/\H a=some (.dK [])
def Bj (P:ah->Prop) (H:Hp):List Dt->List V->Prop
 | [],vs=>vs=[]
 |d::ds,vs=>∃v r,vs=v::r/\Den P H d v/\Bj P H ds r
end
theorem Bj.length {P:ah->Prop}{H:Hp}:∀{ds:List Dt}{vs:List V},Bj P H ds vs->vs.length=ds.length
 | [],vs,h=>by rw[Bj]at h;rw[h];rfl
 |d::ds,vs,h=>by rw[Bj]at h;obtain⟨v,r,rfl,_,h2⟩:=h;simp[Bj.length h2]
theorem Bj.get {P:ah->Prop}{H:Hp}:∀{ds:List Dt}{vs:List V}{i:Nat}{v:V},Bj P H ds vs->vs[i]?=some v->∃d,ds[i]?=some d/\Den P H d v
 | [],vs,i,v,h,e=>by rw[Bj]at h;rw[h]at e;simp at e
 |d::ds,vs,i,v,h,e=>by
  rw[Bj]at h;obtain⟨w,r,rfl,h1,h2⟩:=h
  cases i with
  |zero=>simp at e;subst e;exact⟨d,rfl,h1⟩
  |succ i=>simp at e;exact Bj.get (i:=i) h2 e
theorem Bj.nil {P:ah->Prop}{H:Hp}:Bj P H [] []:=by rw[Bj]
theorem Bj.cons {P:ah->Prop}{H:Hp}{d:Dt}{v:V}{ds:List Dt}{vs:List V}(h:Den P H d v) (t:Bj P H ds vs):Bj P H (d::ds) (v::vs):=by rw[Bj];exact⟨v,vs,rfl,h,t⟩
mutual
def bK:Dt->Dt->Bool
 | .non,.non=>true
 | .bl a,.bl b=>a==b
 | .bl a,.int j=>(if a then 1 else 0)==j
 | .int i,.bl b=>i==(if b then 1 else 0)
 | .int i,.int j=>i==j
 | .str x,.str y=>x==y
 | .tup xs,.tup ys=>fI xs ys
 | .lst xs,.lst ys=>fI xs ys
 |_,_=>false
def fI:List Dt->List Dt->Bool
 | [],[]=>true
 |x::xs,y::ys=>bK x y&&fI xs ys
 |_,_=>false
end
mutual
def eZ:Dt->Nat
 | .tup xs=>mZ xs+1
 | .lst xs=>mZ xs+1
 |_=>0
def mZ:List Dt->Nat
 | []=>0
 |x::xs=>max (eZ x) (mZ xs)
end
mutual
def nod:Dt->Bool
 | .tup xs=>kQ xs
 | .lst xs=>kQ xs
 | .dct=>false
 |_=>true
def kQ:List Dt->Bool
 | []=>true
 |x::xs=>nod x&&kQ xs
end
mutual
theorem BJ:∀d:Dt,nod d=true->bK d d=true
 | .non,_=>rfl
 | .bl b,_=>by simp[bK]
 | .int i,_=>by simp[bK]
 | .str x,_=>by simp[bK]
 | .tup xs,h=>by rw[bK];exact BK xs (by rw[nod]at h;exact h)
 | .lst xs,h=>by rw[bK];exact BK xs (by rw[nod]at h;exact h)
 | .dct,h=>by simp[nod]at h
theorem BK:∀l:List Dt,kQ l=true->fI l l=true
 | [],_=>rfl
 |x::xs,h=>by rw[kQ,fe]at h;rw[fI,BJ x h.1,BK xs h.2];rfl
end
theorem JA:∀{l:List Dt}{d:Dt},d∈l->eZ d<=mZ l
 |x::xs,d,h=>by
  rw[mZ]
  rcases bh.mp h with rfl|h
  ·omega
  ·have:=JA h;omega
theorem BL:∀{l:List Dt}{d:Dt},kQ l=true->d∈l->nod d=true
 |x::xs,d,h,hd=>by
  rw[kQ,fe]at h
  rcases bh.mp hd with rfl|hd
  ·exact h.1
  ·exact BL h.2 hd
theorem sW:∀{xs ys:List Dt},xs.length=ys.length->fI xs ys=(bf xs.length).all λi=>bK (xs.getD i .non) (ys.getD i .non)
 | [],[],_=>rfl
 |x::xs,y::ys,h=>by rw[fI,sW (xs:=xs) (ys:=ys) (by simpa using h),cy,om,List.all_cons,List.all_map];rfl
theorem sX:∀{xs ys:List Dt},xs.length≠ys.length->fI xs ys=false
 | [],[],h=>absurd rfl h
 | [],_::_,_=>rfl
 |_::_,[],_=>rfl
 |x::xs,y::ys,h=>by rw[fI,sX (xs:=xs) (ys:=ys) (by simpa using h),qw]
mutual
theorem Den.inj {P:ah->Prop}{H:Hp}:∀(d d':Dt) (v:V),Den P H d v->Den P H d' v->d=d'
 | .non,d',v,h,h'=>by
  rw[Den]at h;subst h
  cases d' <;> rw[Den]at h' <;> first|rfl|(obtain⟨_,_,e,_⟩:=h';cases e;done)|(obtain⟨_,e,_⟩:=h';cases e;done)|(cases h';done)
 | .bl b,d',v,h,h'=>by
  rw[Den]at h;subst h
  cases d' <;> rw[Den]at h' <;> first|(obtain⟨_,_,e,_⟩:=h';cases e;done)|(obtain⟨_,e,_⟩:=h';cases e;done)|(cases h';done)|(cases h';rfl)
 | .int b,d',v,h,h'=>by
  rw[Den]at h;subst h
  cases d' <;> rw[Den]at h' <;> first|(obtain⟨_,_,e,_⟩:=h';cases e;done)|(obtain⟨_,e,_⟩:=h';cases e;done)|(cases h';done)|(cases h';rfl)
 | .str b,d',v,h,h'=>by
  rw[Den]at h;subst h
  cases d' <;> rw[Den]at h' <;> first|(obtain⟨_,_,e,_⟩:=h';cases e;done)|(obtain⟨_,e,_⟩:=h';cases e;done)|(cases h';done)|(cases h';rfl)
 | .tup ds,d',v,h,h'=>by
  rw[Den]at h;obtain⟨a,vs,rfl,h1,h2⟩:=h
  cases d' <;> rw[Den]at h' <;> first|(cases h';done)|(obtain⟨_,_,e,_,q,_⟩:=h';cases e;rw[h1]at q;cases q;done)|(obtain⟨_,e,_,q⟩:=h';cases e;rw[h1]at q;cases q;done)|(obtain⟨_,_,e,q,g⟩:=h';cases e;rw[h1]at q;cases q;rw[Bj.inj ds _ vs h2 g])
 | .lst ds,d',v,h,h'=>by
  rw[Den]at h;obtain⟨a,vs,rfl,_,h1,h2⟩:=h
  cases d' <;> rw[Den]at h' <;> first|(cases h';done)|(obtain⟨_,_,e,q,_⟩:=h';cases e;rw[h1]at q;cases q;done)|(obtain⟨_,e,_,q⟩:=h';cases e;rw[h1]at q;cases q;done)|(obtain⟨_,_,e,_,q,g⟩:=h';cases e;rw[h1]at q;cases q;rw[Bj.inj ds _ vs h2 g])
 | .dct,d',v,h,h'=>by
  rw[Den]at h;obtain⟨a,rfl,_,h1⟩:=h
  cases d' <;> rw[Den]at h' <;> first|rfl|(cases h';done)|(obtain⟨_,_,e,q,_⟩:=h';cases e;rw[h1]at q;cases q;done)|(obtain⟨_,_,e,_,q,_⟩:=h';cases e;rw[h1]at q;cases q;done)
theorem Bj.inj {P:ah->Prop}{H:Hp}:∀(ds Cq:List Dt) (vs:List V),Bj P H ds vs->Bj P H Cq vs->ds=Cq
 | [],Cq,vs,h,h'=>by
  rw[Bj]at h;subst h
  cases Cq with
  |nil=>rfl
  |cons d Cq=>rw[Bj]at h';obtain⟨_,_,e,_⟩:=h';cases e
 |d::ds,Cq,vs,h,h'=>by
  rw[Bj]at h;obtain⟨v,r,rfl,h1,h2⟩:=h
  cases Cq with
  |nil=>rw[Bj]at h';cases h'
  |cons d' Cq=>rw[Bj]at h';obtain⟨v',r',e,h1',h2'⟩:=h';cases e;rw[Den.inj d d' v h1 h1',Bj.inj ds Cq r h2 h2']
end
section
variable{Pg:bj}{w:cq}{P:ah->Prop}{H:Hp}{s:ag}
theorem VM (hok:Ci Pg w H s.heap) {a:ah}{vs:List V}(e:H a=some (.tup vs)):∃its:List af,Bd vs its/\s.heap.IsTuple a its.toArray:=by
 obtain⟨_,its,r,p⟩:=(show Bh Pg w H s.heap a (.tup vs) from hok a _ e)
 exact⟨its,r,p.tup⟩
theorem VN (hok:Ci Pg w H s.heap) {a:ah}{vs:List V}(e:H a=some (.lst vs)):∃its:List af,Bd vs its/\s.heap.IsList a its.toArray:=by
 obtain⟨_,its,n,r,p⟩:=(show Bh Pg w H s.heap a (.lst vs) from hok a _ e)
 exact⟨its,r,_,p,rfl,n,rfl⟩
theorem JB {vs:List V}{its:List af}(r:Bd vs its) {j:Nat}(h:j<its.toArray.size):∃v,vs[j]?=some v/\RelV v its.toArray[j]:=by
 have hl:=r.length;have h':j<its.length:=by simpa using h
 have hv:j<vs.length:=by omega
 obtain⟨u,e,q⟩:=r.get (i:=j) (x:=vs[j]) (ay hv);refine⟨vs[j],ay hv, ?_⟩;have:its.toArray[j]=u:=by have:its[j]?=some its[j]:=ay h';rw[this]at e;simpa using e
 rw[this];exact q
inductive Vw (P:ah->Prop) (H:Hp) (s:ag):Dt->af->Prop
 |non:Vw P H s .non .none
 |bl {b:Bool}:Vw P H s (.bl b) (.bool b)
 |int {i:Int}{t:Tok}:Vw P H s (.int i) (.int i t)
 |str {x:Str}{t:Tok}:Vw P H s (.str x) (.str x t)
 |tup {ds:List Dt}{a:ah}{vs:List V}{its:List af}(e:H a=some (.tup vs)) (g:Bj P H ds vs) (q:Bd vs its) (tp:s.heap.IsTuple a its.toArray):Vw P H s (.tup ds) (.ref a)
 |lst {ds:List Dt}{a:ah}{vs:List V}{its:List af}(e:H a=some (.lst vs)) (g:Bj P H ds vs) (q:Bd vs its) (tp:s.heap.IsList a its.toArray):Vw P H s (.lst ds) (.ref a)
theorem vw (hok:Ci Pg w H s.heap) {d:Dt}{v:V}{u:af}(n:nod d=true) (h:Den P H d v) (r:RelV v u):Vw P H s d u:=by
 cases d <;> rw[Den]at h
 case tup=>obtain⟨a,vs,rfl,e,g⟩:=h;cases r;obtain⟨its,q,tp⟩:=VM hok e;exact .tup e g q tp
 case lst=>obtain⟨a,vs,rfl,_,e,g⟩:=h;cases r;obtain⟨its,q,tp⟩:=VN hok e;exact .lst e g q tp
 case dct=>simp[nod]at n
 all_goals subst h
 case int=>obtain⟨t,rfl⟩:=r;exact .int
 case str=>obtain⟨t,rfl⟩:=r;exact .str
 all_goals cases r;constructor
theorem wX (hok:Ci Pg w H s.heap) {A:cm}{n:Nat}(ih:∀(d d':Dt) (u u':af),eZ d<=n->nod d=true->nod d'=true->Vw P H s d u->Vw P H s d' u'->kv A s u u' (bK d d')) {vs Cc:List V}{ds Cq:List Dt}{its its':List af}(hd:mZ ds<=n) (m1:kQ ds=true) (m2:kQ Cq=true) (g:Bj P H ds vs) (g':Bj P H Cq Cc) (q:Bd vs its) (q':Bd Cc its')
  (j:Nat) (h1:j<its.toArray.size) (h2:j<its'.toArray.size):kv A s its.toArray[j] its'.toArray[j] (bK (ds.getD j .non) (Cq.getD j .non)):=by
 obtain⟨x,ex,rx⟩:=JB q h1;obtain⟨x',ex',rx'⟩:=JB q' h2;obtain⟨dx,edx,gx⟩:=g.get ex;obtain⟨dx',edx',gx'⟩:=g'.get ex';have e1:ds.getD j .non=dx:=by simp[qp,edx]
 have e2:Cq.getD j .non=dx':=by simp[qp,edx']
 rw[e1,e2];have hm:=cu edx;have k1:=BL m1 hm;have k2:=BL m2 (cu edx');exact ih dx dx' _ _ (df (JA hm) hd) k1 k2 (vw hok k1 gx rx) (vw hok k2 gx' rx')
theorem JC (hok:Ci Pg w H s.heap) (n:Nat) (ih:∀m,m+1=n->∀(A:cm) (d d':Dt) (u u':af),eZ d<=m->A.units+m+1<cLine->nod d=true->nod d'=true->Vw P H s d u->Vw P H s d' u'->ub A s u u' (bK d d')/\kv A s u u' (bK d d'))
  (A:cm) (d d':Dt) (u u':af) (hn:eZ d<=n) (hu:A.units+n+1<cLine) (n1:nod d=true) (n2:nod d'=true) (h:Vw P H s d u) (h':Vw P H s d' u'):ub A s u u' (bK d d')/\kv A s u u' (bK d d'):=by
 have Bq:A.units<cLine:=by omega
 have ok:∀{a1 a2:ah}{b:Bool},(ub A s (.ref a1) (.ref a2) b)->(a1=a2->b=true)->ub A s (.ref a1) (.ref a2) b/\kv A s (.ref a1) (.ref a2) b:=λ{a1 a2 b} key z=>⟨key,by
  by_cases Dr:a1=a2
  ·rw[z Dr,Dr];exact .same _
  ·exact .of_refs Dr key⟩
 have Cz:1<=n->∀(d d':Dt) (u u':af),eZ d<=n - 1->nod d=true->nod d'=true->Vw P H s d u->Vw P H s d' u'->kv A.in1 s u u' (bK d d'):=λhd d d' u u' a b c e f=>(ih (n - 1) (by omega) A.in1 d d' u u' a (by show A.units+1+(n - 1)+1<cLine;omega) b c e f).2
 cases h <;> cases h'
 case tup.tup ds a1 vs1 its1 e1 g1 q1 tp1 Cq a2 Ex Cm e2 g2 q2 tp2=>
  rw[nod]at n1 n2;rw[eZ]at hn;have hl1:=g1.length;have hl2:=g2.length;have hq1:=q1.length;have hq2:=q2.length;refine ok ?_ λDr=>?_
  ·rw[bK];have z:=SeqAt.RcAt.tuples (e:=λj=>bK (ds.getD j .non) (Cq.getD j .non)) tp1 tp2 Bq (wX hok (Cz (by omega)) (by omega) n1 n2 g1 g2 q1 q2);have s1:its1.toArray.size=ds.length:=by simp;omega
   have s2:Cm.toArray.size=Cq.length:=by simp;omega
   rw[s1,s2]at z
   by_cases hlen:ds.length=Cq.length
   ·rw[sW hlen];rw[<-hlen,zl]at z;simpa using z
   ·rw[sX hlen];rw[show(ds.length==Cq.length)=false from beq_eq_false_iff_ne.mpr hlen,qw]at z;exact z
  ·subst Dr;rw[e1]at e2;cases e2;rw[Bj.inj ds Cq _ g1 g2,BJ _ (by rw[nod];exact n2)]
 case lst.lst ds a1 vs1 its1 e1 g1 q1 tp1 Cq a2 Ex Cm e2 g2 q2 tp2=>
  rw[nod]at n1 n2;rw[eZ]at hn;have hl1:=g1.length;have hl2:=g2.length;have hq1:=q1.length;have hq2:=q2.length;refine ok ?_ λDr=>?_
  ·rw[bK]
   by_cases hlen:ds.length=Cq.length
   ·have z:=SeqAt.RcAt.lists (e:=λj=>bK (ds.getD j .non) (Cq.getD j .non)) tp1 tp2 (by simp;omega) Bq (wX hok (Cz (by omega)) (by omega) n1 n2 g1 g2 q1 q2);rw[sW hlen];simpa[hq1.symm,hl1]using z
   ·rw[sX hlen];exact SeqAt.RcAt.lists_lengths tp1 tp2 (by simp;omega) Bq
  ·subst Dr;rw[e1]at e2;cases e2;rw[Bj.inj ds Cq _ g1 g2,BJ _ (by rw[nod];exact n2)]
 case non.non=>exact⟨.none_none,.same _⟩
 case non.bl=>exact⟨.none_bool _,.none_bool _⟩
 case non.int=>exact⟨.none_int _ _,.none_int _ _⟩
 case non.str=>exact⟨.none_str _ _,.none_str _ _⟩
 case non.tup=>exact⟨.none_tuple ‹_› Bq,.none_tuple ‹_› Bq⟩
 case non.lst=>exact⟨.none_list ‹_› Bq,.none_list ‹_› Bq⟩
 case bl.non=>exact⟨.bool_none _,.bool_none _⟩
 case bl.bl=>exact⟨.bool_bool _ _,.bool_bool _ _⟩
 case bl.int=>exact⟨.bool_int _ _ _,.bool_int _ _ _⟩
 case bl.str=>exact⟨.bool_str _ _ _,.bool_str _ _ _⟩
 case bl.tup=>exact⟨.bool_tuple _ ‹_› Bq,.bool_tuple _ ‹_› Bq⟩
 case bl.lst=>exact⟨.bool_list _ ‹_› Bq,.bool_list _ ‹_› Bq⟩
 case int.non=>exact⟨.int_none _ _,.int_none _ _⟩
 case int.bl=>exact⟨.int_bool _ _ _,.int_bool _ _ _⟩
 case int.int=>exact⟨.int_int _ _ _ _,.int_int _ _ _ _⟩
 case int.str=>exact⟨.int_str _ _ _ _,.int_str _ _ _ _⟩
 case int.tup=>exact⟨.int_tuple _ _ ‹_› Bq,.int_tuple _ _ ‹_› Bq⟩
 case int.lst=>exact⟨.int_list _ _ ‹_› Bq,.int_list _ _ ‹_› Bq⟩
 case str.non=>exact⟨.str_none _ _,.str_none _ _⟩
 case str.bl=>exact⟨.str_bool _ _ _,.str_bool _ _ _⟩
 case str.int=>exact⟨.str_int _ _ _ _,.str_int _ _ _ _⟩
 case str.str=>exact⟨.str_str _ _ _ _,.str_str _ _ _ _⟩
 case str.tup=>exact⟨.str_tuple _ _ ‹_› Bq,.str_tuple _ _ ‹_› Bq⟩
 case str.lst=>exact⟨.str_list _ _ ‹_› Bq,.str_list _ _ ‹_› Bq⟩
 case tup.non=>exact⟨.tuple_none ‹_› Bq,.tuple_none ‹_› Bq⟩
 case tup.bl=>exact⟨.tuple_bool _ ‹_› Bq,.tuple_bool _ ‹_› Bq⟩
 case tup.int=>exact⟨.tuple_int _ _ ‹_› Bq,.tuple_int _ _ ‹_› Bq⟩
 case tup.str=>exact⟨.tuple_str _ _ ‹_› Bq,.tuple_str _ _ ‹_› Bq⟩
 case tup.lst=>exact⟨.tuple_list ‹_› ‹_› Bq,.tuple_list ‹_› ‹_› Bq⟩
 case lst.non=>exact⟨.list_none ‹_› Bq,.list_none ‹_› Bq⟩
 case lst.bl=>exact⟨.list_bool _ ‹_› Bq,.list_bool _ ‹_› Bq⟩
 case lst.int=>exact⟨.list_int _ _ ‹_› Bq,.list_int _ _ ‹_› Bq⟩
 case lst.str=>exact⟨.list_str _ _ ‹_› Bq,.list_str _ _ ‹_› Bq⟩
 case lst.tup=>exact⟨.list_tuple ‹_› ‹_› Bq,.list_tuple ‹_› ‹_› Bq⟩
theorem BM (hok:Ci Pg w H s.heap):∀(n:Nat) (A:cm) (d d':Dt) (u u':af),eZ d<=n->A.units+n+1<cLine->nod d=true->nod d'=true->Vw P H s d u->Vw P H s d' u'->ub A s u u' (bK d d')/\kv A s u u' (bK d d')
 |0=>JC hok 0 λ_ e=>by cases e
 |n+1=>JC hok _ λm e=>by cases e;exact BM hok n
theorem JD (hok:Ci Pg w H s.heap) (n:Nat) (A:cm) (d d':Dt) (v v':V) (u u':af) (a:eZ d<=n) (b:A.units+n+1<cLine) (n1:nod d=true) (n2:nod d'=true) (h:Den P H d v) (h':Den P H d' v') (r:RelV v u) (r':RelV v' u'):
  ub A s u u' (bK d d')/\kv A s u u' (bK d d'):=BM hok n A d d' u u' a b n1 n2 (vw hok n1 h r) (vw hok n2 h' r')
end
end L2
namespace L2.Mr
open PySem PySem.Spec PyProof.Rows
inductive Dv where
 |non|bl (b:Bool)|int (i:Int)|str (x:Str)|tup (xs:List Dv)|ref (i:Nat)|edc|exc (c:Nat)|scr
inductive Ob where
 |lst (xs:List Dv)
 |clo (k t:Nat)
abbrev Hs:=List Ob
abbrev Ev:=List (Option Dv)
inductive Rs (α:Type) where
 |ok (a:α) (h:Hs)|ex (c:Nat) (h:Hs)|bad
abbrev Av:=List Dv->Hs->Rs Dv
abbrev Aw:=List Dv
abbrev Ax:=Option Dv
noncomputable def Rs.bind {α β:Type}(r:Rs α) (f:α->Hs->Rs β):Rs β:=match r with
 | .ok a h=>f a h
 | .ex c h=>.ex c h
 | .bad=>.bad
@[simp] theorem Rs.bind_ok {α β:Type}(a:α) (h:Hs) (f:α->Hs->Rs β):(Rs.ok a h).bind f=f a h:=rfl
@[simp] theorem Rs.bind_ex {α β:Type}(c:Nat) (h:Hs) (f:α->Hs->Rs β):(Rs.ex c h).bind f=.ex c h:=rfl
@[simp] theorem Rs.bind_bad {α β:Type}(f:α->Hs->Rs β):(Rs.bad).bind f=.bad:=rfl
abbrev M (α:Type):=Ev->Hs->Rs α
structure Cf0 where
 K:ao
 cl:Nat->ah
 scr:Aq
 sa:ah
 tab:Option ah:=none
 lq:Str:=Str.empty
def eC (C:af) (e T:ah) (a0:af) (h:cx):Prop:=∃oe vs,h.get? e=some oe/\oe.cls=C/\oe.data=.fields vs/\vs[0]?=some a0/\vs[1]?=some (.ref T)/\oe.dict=none
def wY (G:Cf0) (H:Hp) (c:Nat) (u:af):Prop:=∃e φ,u=.ref e/\H e=some (.ext φ)/\∀h,φ h->∃o,h.get? e=some o/\o.cls=.ref (G.cl c)
def wZ:HO->Prop
 | .tup _=>True
 | .dK kvs=>kvs=[]
 | .frz _ _=>True
 |_=>False
def FzL (K:ao) (H:Hp) (a:ah) (xs:List V):Prop:=(∃o,H a=some (.frz o (.lst xs))) ∨
  ∃(o:Obj) (its:Array af) (n:Nat),K.lookup a=some o/\o.cls=.type "list"/\o.dict=none/\o.data=.seq its n/\its.size<=cf/\Bd xs its.toList
theorem FzL.sq {K:ao}{H:Hp}{a:ah}{xs:List V}(h:FzL K H a xs):Bs K H a xs:=by
 rcases h with⟨o,h⟩|h
 ·exact .inl (.inr ⟨o,h⟩)
 ·exact .inr h
theorem FzL.keep {K:ao}{H H':Hp}{a:ah}{xs:List V}(h:FzL K H a xs) (k:∀a o,wZ o->H a=some o->H' a=some o):FzL K H' a xs:=by
 rcases h with⟨o,h⟩|h
 ·exact .inl ⟨o,k a _ trivial h⟩
 ·exact .inr h
mutual
def Bc (G:Cf0) (μ:Nat->ah) (n:Nat) (H:Hp):Dv->V->Prop
 | .non,v=>v=.non
 | .bl b,v=>v=.bl b
 | .int i,v=>v=.int i
 | .str x,v=>v=.str x
 | .tup ds,v=>∃a vs,v=.ref a/\H a=some (.tup vs)/\RelDL G μ n H ds vs
 | .ref i,v=>i<n/\v=.ref (μ i)
 | .edc,v=>∃a,v=.ref a/\H a=some (.dK [])
 | .exc c,v=>∃a o u,v=.ref a/\H a=some (.frz o u)/\o.cls=.ref (G.cl c)/\o.dict=none/\∃vs,o.data=.fields vs
 | .scr,v=>v=.ref G.sa/\FzL G.K H G.sa (G.scr.map V.int)
def RelDL (G:Cf0) (μ:Nat->ah) (n:Nat) (H:Hp):Aw->List V->Prop
 | [],vs=>vs=[]
 |d::ds,vs=>∃v r,vs=v::r/\Bc G μ n H d v/\RelDL G μ n H ds r
end
structure Ext (μ:Nat->ah) (n:Nat) (H:Hp) (μ':Nat->ah) (n':Nat) (H':Hp):Prop where
 le:n<=n'
 mu:∀i,i<n->μ' i=μ i
 im:∀a o,wZ o->H a=some o->H' a=some o
theorem Ext.refl {μ:Nat->ah}{n:Nat}{H:Hp}:Ext μ n H μ n H:=⟨aj _,λ_ _=>rfl,λ_ _ _ e=>e⟩
theorem Ext.trans {μ μ1 μ2:Nat->ah}{n n1 n2:Nat}{H H1 H2:Hp}(a:Ext μ n H μ1 n1 H1) (b:Ext μ1 n1 H1 μ2 n2 H2):Ext μ n H μ2 n2 H2:=⟨df a.le b.le,λi hi=>(b.mu i (av hi a.le)).trans (a.mu i hi),λc o i e=>b.im c o i (a.im c o i e)⟩
structure Cfg extends Cf0 where
 clo:(Nat->ah)->Nat->Hp->Nat->Nat->ah->Prop:=λ_ _ _ _ _ _=>True
 cloM:∀{μ μ':Nat->ah}{n n':Nat}{H H':Hp}{k t:Nat}{a:ah},Ext μ n H μ' n' H'->clo μ n H k t a->clo μ' n' H' k t a:=by intros;trivial
instance:Coe Cfg Cf0:=⟨Cfg.toCf0⟩
section
variable{G:Cf0}{μ μ':Nat->ah}{n n':Nat}{H H':Hp}
mutual
theorem Bc.mono (x:Ext μ n H μ' n' H'):∀(d:Dv) (v:V),Bc G μ n H d v->Bc G μ' n' H' d v
 | .non,v,h=>h
 | .bl b,v,h=>h
 | .int i,v,h=>h
 | .str s,v,h=>h
 | .tup ds,v,h=>by obtain⟨a,vs,e,h1,h2⟩:=h;exact⟨a,vs,e,x.im a _ trivial h1,RelDL.mono x ds vs h2⟩
 | .ref i,v,h=>by obtain⟨h1,h2⟩:=h;exact⟨av h1 x.le,by rw[x.mu i h1];exact h2⟩
 | .edc,v,h=>by obtain⟨a,e,h1⟩:=h;exact⟨a,e,x.im a _ rfl h1⟩
 | .exc c,v,h=>by obtain⟨a,o,u,e,h1,h2⟩:=h;exact⟨a,o,u,e,x.im a _ trivial h1,h2⟩
 | .scr,v,h=>by obtain⟨h1,h2⟩:=h;exact⟨h1,h2.keep x.im⟩
theorem RelDL.mono (x:Ext μ n H μ' n' H'):∀(ds:Aw) (vs:List V),RelDL G μ n H ds vs->RelDL G μ' n' H' ds vs
 | [],vs,h=>h
 |d::ds,vs,h=>by obtain⟨v,r,e,h1,h2⟩:=h;exact⟨v,r,e,Bc.mono x d v h1,RelDL.mono x ds r h2⟩
end
theorem RelDL.length:∀{ds:Aw}{vs:List V},RelDL G μ n H ds vs->vs.length=ds.length
 | [],_,h=>by rw[RelDL]at h;subst h;rfl
 |d::ds,_,h=>by rw[RelDL]at h;obtain⟨v,r,rfl,_,h2⟩:=h;rw[cy,cy,RelDL.length h2]
theorem RelDL.get:∀{ds:Aw}{vs:List V}{i:Nat}{d:Dv},RelDL G μ n H ds vs->ds[i]?=some d->∃v,vs[i]?=some v/\Bc G μ n H d v
 | [],_,_,_,_,e=>by simp at e
 |d::ds,_,0,d',h,e=>by rw[RelDL]at h;obtain⟨v,r,rfl,h1,_⟩:=h;simp at e;subst e;exact⟨v,rfl,h1⟩
 |d::ds,_,i+1,d',h,e=>by rw[RelDL]at h;obtain⟨v,r,rfl,_,h2⟩:=h;obtain⟨u,e1,h3⟩:=RelDL.get (i:=i) h2 (by simpa using e);exact⟨u,by simpa using e1,h3⟩
theorem RelDL.nil:RelDL G μ n H [] []:=by rw[RelDL]
theorem RelDL.cons {d:Dv}{v:V}{ds:Aw}{vs:List V}(h:Bc G μ n H d v) (t:RelDL G μ n H ds vs):RelDL G μ n H (d::ds) (v::vs):=by rw[RelDL];exact⟨v,vs,rfl,h,t⟩
theorem RelDL.append:∀{ds es:Aw}{vs ws:List V},RelDL G μ n H ds vs->RelDL G μ n H es ws->RelDL G μ n H (ds++es) (vs++ws)
 | [],_,_,_,h,h'=>by rw[RelDL]at h;subst h;exact h'
 |d::ds,_,_,_,h,h'=>by rw[RelDL]at h;obtain⟨v,r,rfl,h1,h2⟩:=h;exact RelDL.cons h1 (RelDL.append h2 h')
theorem RelDL.take:∀{ds:Aw}{vs:List V}(k:Nat),RelDL G μ n H ds vs->RelDL G μ n H (ds.take k) (vs.take k)
 | [],_,k,h=>by rw[RelDL]at h;subst h;simp[RelDL.nil]
 |d::ds,_,0,h=>by simp[RelDL.nil]
 |d::ds,_,k+1,h=>by rw[RelDL]at h;obtain⟨v,r,rfl,h1,h2⟩:=h;exact RelDL.cons h1 (RelDL.take k h2)
theorem RelDL.drop:∀{ds:Aw}{vs:List V}(k:Nat),RelDL G μ n H ds vs->RelDL G μ n H (ds.drop k) (vs.drop k)
 | [],_,k,h=>by rw[RelDL]at h;subst h;simp[RelDL.nil]
 |d::ds,_,0,h=>h
 |d::ds,_,k+1,h=>by rw[RelDL]at h;obtain⟨v,r,rfl,h1,h2⟩:=h;exact RelDL.drop k h2
theorem RelDL.set {x:Dv}{u:V}(hx:Bc G μ n H x u):∀{ds:Aw}{vs:List V}(i:Nat),RelDL G μ n H ds vs->RelDL G μ n H (ds.set i x) (vs.set i u)
 | [],_,_,h=>by rw[RelDL]at h;subst h;exact RelDL.nil
 |d::ds,_,0,h=>by rw[RelDL]at h;obtain⟨v,r,rfl,h1,h2⟩:=h;exact RelDL.cons hx h2
 |d::ds,_,i+1,h=>by rw[RelDL]at h;obtain⟨v,r,rfl,h1,h2⟩:=h;exact RelDL.cons h1 (RelDL.set hx i h2)
end
def ObR (G:Cfg) (μ:Nat->ah) (n:Nat) (H:Hp) (a:ah):Ob->Prop
 | .lst xs=>∃vs,H a=some (.lst vs)/\RelDL G μ n H xs vs
 | .clo k t=>t<n/\(∃o u,H a=some (.frz o u))/\G.clo μ n H k t a
theorem ObR.clo {G:Cfg}{μ μ':Nat->ah}{n n':Nat}{H H':Hp}{a:ah}{k t:Nat}(r:ObR G μ n H a (.clo k t)) (x:Ext μ n H μ' n' H'):ObR G μ' n' H' a (.clo k t):=by obtain⟨h1,⟨o,u,h2⟩,h3⟩:=r;exact⟨av h1 x.le,⟨o,u,x.im _ _ trivial h2⟩,G.cloM x h3⟩
def xA (q:Str) (oc:Obj):Prop:=∃vs t,oc.data=.fields vs/\vs[1]?=some (.str q t)
def Dy (G:Cf0) (H:Hp):Prop:=∀P,G.tab=some P->∃ps,H P=some (.tbl ps)/\wc ps.toList/\∀pos cv,codeAmong pos ps.toList=some cv->∃q oc,cv=.ref q/\H q=some (.frz oc (.own 0))/\xA G.lq oc
theorem Dy.keep {G:Cf0}{H H':Hp}(t:Dy G H) (k:∀a o,(∀xs,o≠.lst xs)->(∀φ,o≠.ext φ)->H a=some o->H' a=some o):Dy G H':=λP e=>by obtain⟨ps,h1,h2,h3⟩:=t P e;refine⟨ps,k P _ (λ_ z=>by cases z) (λ_ z=>by cases z) h1,h2,λpos cv q=>?_⟩;obtain⟨a,oc,e1,e2,e3⟩:=h3 pos cv q;exact⟨a,oc,e1,k a _ (λ_ z=>by cases z) (λ_ z=>by cases z) e2,e3⟩
structure Bk (G:Cfg) (μ:Nat->ah) (h:Hs) (H:Hp):Prop where
 inj:∀i j,i<h.length->j<h.length->μ i=μ j->i=j
 ob:∀(i:Nat) (o:Ob),h[i]?=some o->ObR G μ h.length H (μ i) o
 tab:Dy G H
structure Bf (G:Cfg) (μ:Nat->ah) (n:Nat) (H:Hp) (ρ:Ev) (σ:St):Prop where
 len:ρ.length=σ.length
 at_:∀(i:Nat) (d:Dv),ρ[i]?=some (some d)->∃v,σ[i]?=some (some v)/\Bc G μ n H d v
theorem Bf.mono {G:Cfg}{μ μ':Nat->ah}{n n':Nat}{H H':Hp}{ρ:Ev}{σ:St}(r:Bf G μ n H ρ σ) (x:Ext μ n H μ' n' H'):Bf G μ' n' H' ρ σ:=⟨r.len,λi d e=>let ⟨v,e1,h⟩:=r.at_ i d e;⟨v,e1,Bc.mono x d v h⟩⟩
def Out {α β:Type}(G:Cfg) (E:XK) (μ:Nat->ah) (n:Nat) (H:Hp) (r:Rs α) (R:(Nat->ah)->Nat->Hp->α->β->Prop) (Q:β->Hp->Prop):Prop:=
 match r with
 | .ok d h'=>∀μ' H' v,Ext μ n H μ' h'.length H'->Bk G μ' h' H'->R μ' h'.length H' d v->Q v H'
 | .ex c h'=>∀μ' H' u,Ext μ n H μ' h'.length H'->Bk G μ' h' H'->wY G H' c u->E u none H'
 | .bad=>False
theorem Out.bind {α β γ δ:Type}{G:Cfg}{E:XK}{μ:Nat->ah}{n:Nat}{H:Hp}{r:Rs α}{f:α->Hs->Rs γ}{R:(Nat->ah)->Nat->Hp->γ->δ->Prop}{Q:δ->Hp->Prop}{R1:(Nat->ah)->Nat->Hp->α->β->Prop}
  (o:Out G E μ n H (r.bind f) R Q):Out G E μ n H r R1 λv H1=>∃μ1 d h1,Ext μ n H μ1 h1.length H1/\Bk G μ1 h1 H1/\R1 μ1 h1.length H1 d v/\Out G E μ1 h1.length H1 (f d h1) R Q:=by
 cases r with
 |bad=>exact o
 |ex c h'=>exact o
 |ok d h'=>
  intro μ1 H1 v x1 s1 r1;refine⟨μ1,d,h',x1,s1,r1, ?_⟩;have o':Out G E μ n H (f d h') R Q:=o
  cases e:f d h' with
  |bad=>rw[e]at o';exact o'
  |ex c h2=>rw[e]at o';exact λμ2 H2 u x2 s2 r2=>o' μ2 H2 u (x1.trans x2) s2 r2
  |ok d2 h2=>rw[e]at o';exact λμ2 H2 u x2 s2 r2=>o' μ2 H2 u (x1.trans x2) s2 r2
theorem Out.mono {α β:Type}{G:Cfg}{E:XK}{μ:Nat->ah}{n:Nat}{H:Hp}{r:Rs α}{R:(Nat->ah)->Nat->Hp->α->β->Prop}{Q Q':β->Hp->Prop}(o:Out G E μ n H r R Q) (h:∀v H',Q v H'->Q' v H'):Out G E μ n H r R Q':=by
 cases r with
 |bad=>exact o
 |ex c h'=>exact o
 |ok d h'=>exact λμ' H' v x s r=>h _ _ (o μ' H' v x s r)
abbrev RB:(Nat->ah)->Nat->Hp->Bool->Bool->Prop:=λ_ _ _ b b'=>b'=b
def iO (G:Cfg) (E:XK) (m:M Dv):TE:=λσ H Q=>∃μ ρ h,Bf G μ h.length H ρ σ/\Bk G μ h H/\Out G E μ h.length H (m ρ h) (Bc G) Q
def iY (G:Cfg) (E:XK) (m:M Bool):TT:=λσ H Q=>∃μ ρ h,Bf G μ h.length H ρ σ/\Bk G μ h H/\Out G E μ h.length H (m ρ h) RB Q
def BN (G:Cfg) (E:XK) (m:M Aw ):TA:=λσ H Q=>∃μ ρ h,Bf G μ h.length H ρ σ/\Bk G μ h H/\Out G E μ h.length H (m ρ h) (RelDL G) Q
def aK (X:Cx) (G:Cfg) (E:XK) (pe:bo) (m:M Dv):Prop:=X.K=G.K->PE X pe (iO G E m)
def gW (X:Cx) (G:Cfg) (E:XK) (pe:bo) (m:M Bool):Prop:=X.K=G.K->PT X pe (iY G E m)
def eF (X:Cx) (G:Cfg) (E:XK) (pe:List bo) (m:M Aw ):Prop:=X.K=G.K->PA X pe (BN G E m)
theorem PE.imp {X:Cx}{e:bo}{t t':TE}(h:PE X e t) (i:∀σ H Q,t' σ H Q->t σ H Q):PE X e t':=λpins s σ H Q I q=>h pins s σ H Q I (i σ H Q q)
theorem PT.imp {X:Cx}{e:bo}{t t':TT}(h:PT X e t) (i:∀σ H Q,t' σ H Q->t σ H Q):PT X e t':=λpins s σ H Q I q=>h pins s σ H Q I (i σ H Q q)
theorem PA.imp {X:Cx}{e:List bo}{t t':TA}(h:PA X e t) (i:∀σ H Q,t' σ H Q->t σ H Q):PA X e t':=λpos pins s σ H Q I q=>h pos pins s σ H Q I (i σ H Q q)
section
variable{G:Cfg}{E:XK}{σ:St}{H:Hp}
theorem eG {m:M Dv}{γ δ:Type}{f:Dv->Hs->Rs γ}{R:(Nat->ah)->Nat->Hp->γ->δ->Prop}{Q:δ->Hp->Prop}{Q1:V->Hp->Prop}{μ:Nat->ah}{ρ:Ev}{h:Hs}(rs:Bf G μ h.length H ρ σ) (s:Bk G μ h H) (o:Out G E μ h.length H ((m ρ h).bind f) R Q)
  (k:∀μ1 d h1 v H1,Ext μ h.length H μ1 h1.length H1->Bf G μ1 h1.length H1 ρ σ->Bk G μ1 h1 H1->Bc G μ1 h1.length H1 d v->Out G E μ1 h1.length H1 (f d h1) R Q->Q1 v H1):iO G E m σ H Q1:=
 ⟨μ,ρ,h,rs,s,(o.bind (R1:=Bc G)).mono λv H1 ⟨μ1,d,h1,x,s1,r1,o1⟩=>k μ1 d h1 v H1 x (rs.mono x) s1 r1 o1⟩
theorem BO {m:M Bool}{γ δ:Type}{f:Bool->Hs->Rs γ}{R:(Nat->ah)->Nat->Hp->γ->δ->Prop}{Q:δ->Hp->Prop}{Q1:Bool->Hp->Prop}{μ:Nat->ah}{ρ:Ev}{h:Hs}(rs:Bf G μ h.length H ρ σ) (s:Bk G μ h H) (o:Out G E μ h.length H ((m ρ h).bind f) R Q)
  (k:∀μ1 b h1 H1,Ext μ h.length H μ1 h1.length H1->Bf G μ1 h1.length H1 ρ σ->Bk G μ1 h1 H1->Out G E μ1 h1.length H1 (f b h1) R Q->Q1 b H1):iY G E m σ H Q1:=
 ⟨μ,ρ,h,rs,s,(o.bind (R1:=RB)).mono λv H1 ⟨μ1,d,h1,x,s1,r1,o1⟩=>by have e:v=d:=r1;subst e;exact k μ1 v h1 H1 x (rs.mono x) s1 o1⟩
theorem kR {m:M Aw }{γ δ:Type}{f:Aw->Hs->Rs γ}{R:(Nat->ah)->Nat->Hp->γ->δ->Prop}{Q:δ->Hp->Prop}{Q1:List V->Hp->Prop}{μ:Nat->ah}{ρ:Ev}{h:Hs}(rs:Bf G μ h.length H ρ σ) (s:Bk G μ h H) (o:Out G E μ h.length H ((m ρ h).bind f) R Q)
  (k:∀μ1 d h1 v H1,Ext μ h.length H μ1 h1.length H1->Bf G μ1 h1.length H1 ρ σ->Bk G μ1 h1 H1->RelDL G μ1 h1.length H1 d v->Out G E μ1 h1.length H1 (f d h1) R Q->Q1 v H1):BN G E m σ H Q1:=
 ⟨μ,ρ,h,rs,s,(o.bind (R1:=RelDL G)).mono λv H1 ⟨μ1,d,h1,x,s1,r1,o1⟩=>k μ1 d h1 v H1 x (rs.mono x) s1 r1 o1⟩
theorem Out.val {α β:Type}{μ:Nat->ah}{h:Hs}{d:α}{R:(Nat->ah)->Nat->Hp->α->β->Prop}{Q:β->Hp->Prop}{v:β}(s:Bk G μ h H) (o:Out G E μ h.length H (.ok d h) R Q) (r:R μ h.length H d v):Q v H:=o μ H v Ext.refl s r
end
section
variable{G:Cfg}{μ:Nat->ah}{h:Hs}{H H':Hp}{p:ah}{n:Nat}
theorem Ext.same (e:Cn H H'):Ext μ n H μ n H':=⟨aj _,λ_ _=>rfl,λa o _ q=>e a o q⟩
theorem Bk.same (s:Bk G μ h H) (e:Cn H H'):Bk G μ h H':=⟨s.inj,λi o q=>by
 have r:=s.ob i o q
 cases o with
 |lst xs=>obtain⟨vs,e1,r1⟩:=r;exact⟨vs,e _ _ e1,RelDL.mono (Ext.same e) _ _ r1⟩
 |clo k t=>exact r.clo (Ext.same e),s.tab.keep λa o _ _ q=>e a o q⟩
theorem cZ {o:HO}(h:H p=none):Cn H (aT H p o):=λb u e=>by rw[bW (fW e h)];exact e
theorem Bk.not (s:Bk G μ h H) (hp:H p=none):∀(i:Nat),i<h.length->μ i≠p:=λi hi z=>by
 have q:h[i]?=some h[i]:=ay hi;generalize h[i]=o at q
 cases o with
 |lst xs=>obtain⟨vs,e1,_⟩:=s.ob i _ q;rw[z,hp]at e1;cases e1
 |clo k t=>obtain⟨_,⟨o,u,e1⟩,_⟩:=s.ob i _ q;rw[z,hp]at e1;cases e1
theorem Bk.alloc {ds:Aw}{vs:List V}(s:Bk G μ h H) (hp:H p=none) (r:RelDL G μ h.length H ds vs):
  Ext μ h.length H (λi=>if i=h.length then p else μ i) (h++[Ob.lst ds]).length (aT H p (.lst vs))/\Bk G (λi=>if i=h.length then p else μ i) (h++[.lst ds]) (aT H p (.lst vs)):=by
 have hl:(h++[Ob.lst ds]).length=h.length+1:=by simp
 have hq:=s.not hp;have x:Ext μ h.length H (λi=>if i=h.length then p else μ i) (h++[Ob.lst ds]).length (aT H p (.lst vs)):=⟨by omega,λi hi=>if_neg (az hi),λa o _ e=>cZ hp a o e⟩
 refine⟨x,λi j hi hj e=>?_,λi o q=>?_,s.tab.keep λa o _ _ q=>cZ hp a o q⟩
 ·rw[hl]at hi hj
  by_cases h1:i=h.length <;> by_cases h2:j=h.length
  ·omega
  ·rw[if_pos h1,if_neg h2]at e;exact absurd e.symm (hq j (by omega))
  ·rw[if_neg h1,if_pos h2]at e;exact absurd e (hq i (by omega))
  ·rw[if_neg h1,if_neg h2]at e;exact s.inj i j (by omega) (by omega) e
 ·by_cases h1:i<h.length
  ·rw[ff h1]at q;have r1:=s.ob i o q
   cases o with
   |lst xs=>obtain⟨ws,e1,r2⟩:=r1;exact⟨ws,by rw[if_neg (az h1)];exact cZ hp _ _ e1,RelDL.mono x _ _ r2⟩
   |clo k t=>rw[if_neg (az h1)];exact r1.clo x
  ·rw[fv (by omega)]at q;have h2:i=h.length:=by have:=(ax.mp q).1;simp at this;omega
   subst h2;simp at q;subst q;exact⟨vs,by rw[if_pos rfl];exact dF,RelDL.mono x _ _ r⟩
theorem Bk.write {xs ys:Aw}{i:Nat}{vs:List V}(s:Bk G μ h H) (q:h[i]?=some (.lst xs)) (r:RelDL G μ h.length H ys vs):
  Ext μ h.length H μ (h.set i (.lst ys)).length (aT H (μ i) (.lst vs))/\Bk G μ (h.set i (.lst ys)) (aT H (μ i) (.lst vs)):=by
 obtain⟨us,e0,r0⟩:=s.ob i _ q;have hi:i<h.length:=(ax.mp q).1;have im:∀a o,wZ o->H a=some o->aT H (μ i) (.lst vs) a=some o:=λa o m e=>by
  rw[bW];exact e
  rintro rfl;rw[e0]at e;cases e;exact m
 have x:Ext μ h.length H μ (h.set i (.lst ys)).length (aT H (μ i) (.lst vs)):=⟨by simp,λ_ _=>rfl,im⟩
 refine⟨x,λa b ha hb=>?_,λj o e=>?_,s.tab.keep λa o n1 _ q=>?_⟩
 rotate_left 2
 ·rw[bW];exact q
  rintro rfl;rw[e0]at q;cases q;exact n1 _ rfl
 ·rw[lr]at ha hb;exact s.inj a b ha hb
 ·by_cases Cu:i=j
  ·subst Cu;rw[dg hi]at e;cases e;exact⟨vs,dF,RelDL.mono x _ _ r⟩
  ·rw[dw Cu]at e;have hj:j<h.length:=(ax.mp e).1;have r1:=s.ob j o e;have ne:μ j≠μ i:=λz=>Cu (s.inj j i hj hi z).symm
   cases o with
   |lst zs=>obtain⟨ws,e1,r2⟩:=r1;exact⟨ws,by rw[bW ne];exact e1,RelDL.mono x _ _ r2⟩
   |clo k t=>exact r1.clo x
end
def lim {α:Type}(n:Nat) (r:Rs α):Rs α:=if n<=1000000 then r else .bad
theorem sY {n:Nat}(h:n<=1000000):n<=cf:=df h (by decide)
def getL (h:Hs) (i:Nat):Option Aw :=match h[i]? with
 |some (.lst xs)=>some xs
 |_=>none
theorem cU {h:Hs}{i:Nat}{xs:Aw}(e:getL h i=some xs):h[i]?=some (.lst xs):=by
 unfold getL at e
 cases q:h[i]? with
 |none=>rw[q]at e;cases e
 |some o=>
  cases o with
  |lst ys=>rw[q]at e;cases e;rfl
  |clo k t=>rw[q]at e;cases e
section
variable{X:Cx}{G:Cfg}{E:XK}{a b c:bo}{ma mb mc:M Dv}{pos:Pos}{es:List bo}{aO:M Aw }
def aA (i:Nat):M Dv:=λρ h=>match ρ[i]? with
 |some (some d)=>.ok d h
 |_=>.bad
theorem aE (i:Nat) {x:Str}(hN:X.N[i]?=some x:=by rfl) (hv:mV X.env.scope x:=by first|exact Or.inl rfl|exact Or.inr (Or.inl rfl)|exact Or.inr (Or.inr rfl))
  (hd:(x==("__debug__" : Str))=false:=by decide) (hcd:(x==("__classdict__" : Str))=false:=by decide):aK X G E (.Name x pos) (aA i):=λ_=>PE.imp (wB hN hv hd hcd) λσ H Q ⟨μ,ρ,h,rs,s,o⟩=>by
 unfold aA at o
 split at o
 ·rename_i d e;obtain⟨v,e1,r⟩:=rs.at_ i d e;exact⟨v,e1,o.val s r⟩
 ·exact o.elim
def mC (d:Dv):M Dv:=λ_ h=>.ok d h
theorem bN {i j}:aK X G E (.Constant (.int i) j pos) (mC (.int i)):=λ_=>PE.imp GQ λσ H Q ⟨μ,ρ,h,rs,s,o⟩=>o.val s (show Bc G μ _ H (.int i) (.int i) from rfl)
theorem jO {i j}:aK X G E (.Constant (.bool i) j pos) (mC (.bl i)):=λ_=>PE.imp Q0 λσ H Q ⟨μ,ρ,h,rs,s,o⟩=>o.val s (show Bc G μ _ H (.bl i) (.bl i) from rfl)
theorem JE {j}:aK X G E (.Constant .none j pos) (mC .non):=λ_=>PE.imp GR λσ H Q ⟨μ,ρ,h,rs,s,o⟩=>o.val s (show Bc G μ _ H .non .non from rfl)
theorem JF {x j}:aK X G E (.Constant (.str x) j pos) (mC (.str x)):=λ_=>PE.imp Q2 λσ H Q ⟨μ,ρ,h,rs,s,o⟩=>o.val s (show Bc G μ _ H (.str x) (.str x) from rfl)
def aC:M Aw :=λ_ h=>.ok [] h
def aB (m:M Dv) (ms:M Aw ):M Aw :=λρ h=>(m ρ h).bind λd h1=>(ms ρ h1).bind λds h2=>.ok (d::ds) h2
theorem aQ:eF X G E [] aC:=λ_=>PA.imp jH λσ H Q ⟨μ,ρ,h,rs,s,o⟩=>o.val s RelDL.nil
theorem aI (ha:aK X G E a ma) (hr:eF X G E es aO) (hs:ar (a::es) X.env=(false,eval a X.env)::ar es X.env:=by rfl):eF X G E (a::es) (aB ma aO):=λhK=>PA.imp (iE (ha hK) (hr hK) hs) λσ H Q ⟨μ,ρ,h,rs,s,o⟩=>eG rs s o λμ1 d h1 v H1 x1 Bo s1 r1 o1=>kR Bo s1 o1 λμ2 ds h2 vs H2 x2 Cw s2 r2 o2=>o2.val s2 (RelDL.cons (Bc.mono x2 _ _ r1) r2)
def aL (ms:M Aw ):M Dv:=λρ h=>(ms ρ h).bind λds h1=>lim ds.length (.ok (.tup ds) h1)
theorem iZ {k} (h:eF X G E es aO):aK X G E (.Tuple es k pos) (aL aO):=λhK=>PE.imp (HE (h hK)) λσ H Q ⟨μ,ρ,h,rs,s,o⟩=>kR rs s o λμ1 ds h1 vs H1 x1 Bo s1 r1 o1=>by
 unfold lim at o1
 split at o1
 ·rename_i hl;refine⟨by rw[r1.length];exact sY hl,λp hp=>?_⟩;exact o1 μ1 _ _ (Ext.same (cZ hp)) (s1.same (cZ hp)) ⟨p,vs,rfl,dF,RelDL.mono (Ext.same (cZ hp)) _ _ r1⟩
 ·exact o1.elim
def aV (ms:M Aw ):M Dv:=λρ h=>(ms ρ h).bind λds h1=>lim ds.length (.ok (.ref h1.length) (h1++[.lst ds]))
theorem oX {μ:Nat->ah}{h:Hs}{H:Hp}{ds:Aw}{vs:List V}{Q:VK}{p:ah}(s:Bk G μ h H) (r:RelDL G μ h.length H ds vs) (hp:H p=none) (o:Out G E μ h.length H (.ok (.ref h.length) (h++[.lst ds])) (Bc G) Q):Q (.ref p) (aT H p (.lst vs)):=by obtain⟨x,s'⟩:=s.alloc hp r;exact o _ _ _ x s' ⟨by simp,by show V.ref p=V.ref (if h.length=h.length then p else μ h.length);rw[if_pos rfl]⟩
theorem gL (h:eF X G E es aO):aK X G E (.List es pos) (aV aO):=λhK=>PE.imp (TL (h hK)) λσ H Q ⟨μ,ρ,h,rs,s,o⟩=>kR rs s o λμ1 ds h1 vs H1 x1 Bo s1 r1 o1=>by
 unfold lim at o1
 split at o1
 ·rename_i hl;exact⟨by rw[r1.length];exact sY hl,λp hp=>oX s1 r1 hp o1⟩
 ·exact o1.elim
def m2 (f:Dv->Dv->Hs->Rs Dv) (ma mb:M Dv):M Dv:=λρ h=>(ma ρ h).bind λx h1=>(mb ρ h1).bind λy h2=>f x y h2
def fX (G:Cfg) (r:R2) (f:Dv->Dv->Hs->Rs Dv):Prop:=∀(E:XK) (μ:Nat->ah) (h:Hs) (H:Hp) (x y:Dv) (vx vy:V) (Q:VK),Bk G μ h H->Bc G μ h.length H x vx->Bc G μ h.length H y vy->Out G E μ h.length H (f x y h) (Bc G) Q->r vx vy H Q
theorem sZ {r:R2}{f:Dv->Dv->Hs->Rs Dv}(hd:fX G r f) {σ:St}{H:Hp}{Q:VK}(t:iO G E (m2 f ma mb) σ H Q):sQ r (iO G E ma) (iO G E mb) σ H Q:=by obtain⟨μ,ρ,h,rs,s,o⟩:=t;exact eG rs s o λμ1 x h1 vx H1 x1 Bo s1 r1 o1=>eG Bo s1 o1 λμ2 y h2 vy H2 x2 Cw s2 r2 o2=>hd E μ2 h2 H2 x y vx vy Q s2 (Bc.mono x2 _ _ r1) r2 o2
theorem oY {op:Operator}{r:R2}{f:Dv->Dv->Hs->Rs Dv}(ho:Cg X (binaryOp op) r) (hd:fX G r f) (ha:aK X G E a ma) (hb:aK X G E b mb):aK X G E (.BinOp a op b pos) (m2 f ma mb):=λhK=>PE.imp (SN ho (ha hK) (hb hK)) λ_ _ _ t=>sZ hd t
theorem qS {op:CmpOp}{r:R2}{f:Dv->Dv->Hs->Rs Dv}(ho:Cg X (compareOp op) r) (hd:fX G r f) (ha:aK X G E a ma) (hb:aK X G E b mb) (hm:behindInMarks op b=false):aK X G E (.Compare a [op] [b] pos) (m2 f ma mb):=λhK=>PE.imp (S1 ho (ha hK) (hb hK) hm) λ_ _ _ t=>sZ hd t
def eI:Dv->Hs->Rs Bool
 | .bl b,h=>.ok b h
 |_,_=>.bad
def mB (m:M Dv):M Bool:=λρ h=>(m ρ h).bind eI
theorem VO {m:M Dv}{σ:St}{H:Hp}{Q:Bool->Hp->Prop}(t:iY G E (mB m) σ H Q):iO G E m σ H λx H'=>∃k,x=.bl k/\Q k H':=by
 obtain⟨μ,ρ,h,rs,s,o⟩:=t;refine eG rs s o λμ1 x h1 vx H1 x1 Bo s1 r1 o1=>?_
 cases x with
 |bl k=>exact⟨k,r1,o1.val s1 rfl⟩
 |_=>exact o1.elim
theorem qT {op:CmpOp}{r:R2}{f:Dv->Dv->Hs->Rs Dv}(ho:Cg X (compareOp op) r) (hd:fX G r f) (ha:aK X G E a ma) (hb:aK X G E b mb) (hm:behindInMarks op b=false):gW X G E (.Compare a [op] [b] pos) (mB (m2 f ma mb)):=λhK=>PT.imp (S4 ho (ha hK) (hb hK) hm) λσ H Q t=>sZ hd (VO t)
def qU (f f':Dv->Dv->Hs->Rs Dv) (ma mb mc:M Dv):M Dv:=λρ h=>(ma ρ h).bind λx h1=>(mb ρ h1).bind λy h2=>(f x y h2).bind λz h3=>match z with
 | .bl true=>(mc ρ h3).bind λw h4=>f' y w h4
 | .bl false=>.ok (.bl false) h3
 |_=>.bad
theorem VP {r r':R2}{f f':Dv->Dv->Hs->Rs Dv}(hd:fX G r f) (Cy:fX G r' f') {σ:St}{H:Hp}{Q:VK}(t:iO G E (qU f f' ma mb mc) σ H Q):G7 r r' (iO G E ma) (iO G E mb) (iO G E mc) σ H Q:=by
 obtain⟨μ,ρ,h,rs,s,o⟩:=t;refine eG rs s o λμ1 x h1 vx H1 x1 Bo s1 r1 o1=>eG Bo s1 o1 λμ2 y h2 vy H2 x2 Cw s2 r2 o2=>?_;refine hd E μ2 h2 H2 x y vx vy _ s2 (Bc.mono x2 _ _ r1) r2 ((o2.bind (R1:=Bc G)).mono λvz H3 ⟨μ3,z,h3,x3,s3,r3,o3⟩=>?_)
 cases z with
 |bl k=>
  refine⟨k,r3, ?_⟩
  cases k with
  |true=>exact IJ (eG (Cw.mono x3) s3 o3 λμ4 w h4 vw H4 x4 oV s4 r4 o4=>Cy E μ4 h4 H4 y w vy vw Q s4 (Bc.mono (x3.trans x4) _ _ r2) r4 o4)
  |false=>exact II (o3.val s3 rfl)
 |_=>exact o3.elim
theorem VQ {op op':CmpOp}{r r':R2}{f f':Dv->Dv->Hs->Rs Dv}(ho:Cg X (compareOp op) r) (Es:Cg X (compareOp op') r') (hd:fX G r f) (Cy:fX G r' f') (ha:aK X G E a ma) (hb:aK X G E b mb) (hc:aK X G E c mc)
  (hm:lastMarks [op,op'] [b,c]=false:=by with_unfolding_all rfl):aK X G E (.Compare a [op,op'] [b,c] pos) (qU f f' ma mb mc):=λhK=>
 PE.imp (S5 ho Es (ha hK) (hb hK) (hc hK) hm) λ_ _ _ t=>VP hd Cy t
def lM (G:Cfg) (r:V->Hp->VK->Prop) (f:Dv->Hs->Rs Dv):Prop:=∀(E:XK) (μ:Nat->ah) (h:Hs) (H:Hp) (x:Dv) (vx:V) (Q:VK),Bk G μ h H->Bc G μ h.length H x vx->Out G E μ h.length H (f x h) (Bc G) Q->r vx H Q
def m1 (f:Dv->Hs->Rs Dv) (ma:M Dv):M Dv:=λρ h=>(ma ρ h).bind f
theorem VR {op:UnaryOp}{r:V->Hp->VK->Prop}{f:Dv->Hs->Rs Dv}(ho:wF X (unaryOp op) r) (hd:lM G r f) (ha:aK X G E a ma):aK X G E (.UnaryOp op a pos) (m1 f ma):=λhK=>PE.imp (SO ho (ha hK)) λσ H Q ⟨μ,ρ,h,rs,s,o⟩=>eG rs s o λμ1 x h1 vx H1 x1 Bo s1 r1 o1=>hd E μ1 h1 H1 x vx Q s1 r1 o1
variable{tA tB':M Bool}{rest:List bo}
def jA (t u:M Bool):M Bool:=λρ h=>(t ρ h).bind λc h1=>if c=true then u ρ h1 else .ok false h1
def gX (t u:M Bool):M Bool:=λρ h=>(t ρ h).bind λc h1=>if c=true then .ok true h1 else u ρ h1
def eJ (t:M Bool):M Bool:=λρ h=>(t ρ h).bind λc h1=>.ok (!c) h1
def Cs (X:Cx) (G:Cfg) (E:XK) (pe:bo) (m:M Bool):Prop:=X.K=G.K->PW X pe (iY G E m)
theorem Cs.t {pe:bo}{m:M Bool}(h:Cs X G E pe m):gW X G E pe m:=λhK=>(h hK).pt
theorem PW.imp {e:bo}{t t':TT}(h:PW X e t) (i:∀σ H Q,t' σ H Q->t σ H Q):PW X e t':=λwh pins s σ H Q I q=>h wh pins s σ H Q I (i σ H Q q)
theorem JG (ha:gW X G E a tA):Cs X G E (.BoolOp .And [a] pos) tA:=λhK=>Q4 (ha hK)
theorem tD (ha:gW X G E a tA):Cs X G E (.BoolOp .Or [a] pos) tA:=λhK=>Q5 (ha hK)
theorem VS {σ:St}{H:Hp}{Q:Bool->Hp->Prop}(t:iY G E (jA tA tB') σ H Q):GU (iY G E tA) (iY G E tB') σ H Q:=by
 obtain⟨μ,ρ,h,rs,s,o⟩:=t;refine BO rs s o λμ1 k h1 H1 x1 Bo s1 o1=>?_
 cases k with
 |true=>rw[if_pos rfl]at o1 ⊢;exact⟨μ1,ρ,h1,Bo,s1,o1⟩
 |false=>rw[if_neg (by decide)]at o1 ⊢;exact o1.val s1 rfl
theorem VT {σ:St}{H:Hp}{Q:Bool->Hp->Prop}(t:iY G E (gX tA tB') σ H Q):GV (iY G E tA) (iY G E tB') σ H Q:=by
 obtain⟨μ,ρ,h,rs,s,o⟩:=t;refine BO rs s o λμ1 k h1 H1 x1 Bo s1 o1=>?_
 cases k with
 |false=>rw[if_neg (by decide)]at o1 ⊢;exact⟨μ1,ρ,h1,Bo,s1,o1⟩
 |true=>rw[if_pos rfl]at o1 ⊢;exact o1.val s1 rfl
theorem JH (ha:gW X G E a tA) (hb:Cs X G E (.BoolOp .And (b::rest) pos) tB'):Cs X G E (.BoolOp .And (a::b::rest) pos) (jA tA tB'):=λhK=>PW.imp (Q6 (ha hK) (hb hK)) λ_ _ _ t=>VS t
theorem tE (ha:gW X G E a tA) (hb:Cs X G E (.BoolOp .Or (b::rest) pos) tB'):Cs X G E (.BoolOp .Or (a::b::rest) pos) (gX tA tB'):=λhK=>PW.imp (Q7 (ha hK) (hb hK)) λ_ _ _ t=>VT t
theorem lN (ha:gW X G E a tA):gW X G E (.UnaryOp .Not a pos) (eJ tA):=λhK=>PT.imp (Q8 (ha hK)) λσ H Q ⟨μ,ρ,h,rs,s,o⟩=>BO rs s o λμ1 k h1 H1 x1 Bo s1 o1=>o1.val s1 rfl
def dX (m u:M Dv):M Dv:=λρ h=>(m ρ h).bind λd h1=>match d with
 | .bl true=>u ρ h1
 | .bl false=>.ok (.bl false) h1
 |_=>.bad
def qV:Dv->Hs->Rs Dv
 | .bl b,h=>.ok (.bl (!b)) h
 |_,_=>.bad
theorem oZ {op} {m:M Dv}(h:aK X G E a m):aK X G E (.BoolOp op [a] pos) m:=λhK=>RC (h hK)
theorem nZ (ha:aK X G E a ma) (hb:aK X G E (.BoolOp .And (b::rest) pos) mb):aK X G E (.BoolOp .And (a::b::rest) pos) (dX ma mb):=λhK=>PE.imp (RD (ha hK) (hb hK)) λσ H Q ⟨μ,ρ,h,rs,s,o⟩=>
 eG rs s o λμ1 x h1 vx H1 x1 Bo s1 r1 o1=>by
  cases x with
  |bl k=>
   refine⟨k,r1, ?_⟩
   cases k with
   |true=>exact IJ ⟨μ1,ρ,h1,Bo,s1,o1⟩
   |false=>exact II (o1.val s1 rfl)
  |_=>exact o1.elim
theorem JI (ha:aK X G E a ma):aK X G E (.UnaryOp .Not a pos) (m1 qV ma):=λhK=>PE.imp (RE (ha hK)) λσ H Q ⟨μ,ρ,h,rs,s,o⟩=>
 eG rs s o λμ1 x h1 vx H1 x1 Bo s1 r1 o1=>by
  cases x with
  |bl k=>exact⟨k,r1,o1.val s1 rfl⟩
  |_=>exact o1.elim
def gF:Dv->Hs->Rs Bool
 | .non,h=>.ok false h
 | .bl b,h=>.ok b h
 | .int i,h=>.ok (i != 0) h
 | .tup xs,h=>.ok (!xs.isEmpty) h
 | .ref i,h=>match getL h i with
  |some xs=>.ok (!xs.isEmpty) h
  |none=>.bad
 |_,_=>.bad
def cB (m:M Dv):M Bool:=λρ h=>(m ρ h).bind gF
theorem JJ {μ:Nat->ah}{n:Nat}{H:Hp}{ds:Aw}{vs:List V}(r:RelDL G μ n H ds vs):vs.isEmpty=ds.isEmpty:=by
 have:=r.length
 cases ds <;> cases vs <;> simp_all
theorem iP (ha:aK X G E a ma) (he:∀whole,isTrue a X.env whole=(do let v <-whole;standAt a.pos;holding [v] (truthy v)):=by intro _;rfl):gW X G E a (cB ma):=λhK=>PT.imp (S8 (ha hK) he) λσ H Q ⟨μ,ρ,h,rs,s,o⟩=>
 eG rs s o λμ1 x h1 vx H1 x1 Bo s1 r1 o1=>by
  cases x with
  |non=>rw[Bc]at r1;subst r1;exact⟨_,rfl,o1.val s1 rfl⟩
  |bl k=>rw[Bc]at r1;subst r1;exact⟨_,rfl,o1.val s1 rfl⟩
  |int i=>rw[Bc]at r1;subst r1;exact⟨_,rfl,o1.val s1 rfl⟩
  |tup ds=>obtain⟨p,vs,rfl,e,r⟩:=r1;exact⟨_,.inr (.inl ⟨vs,Bp.of e,rfl⟩),by rw[JJ r];exact o1.val s1 rfl⟩
  |ref i=>
   obtain⟨hi,rfl⟩:=r1;dsimp only[gF]at o1
   cases q:getL h1 i with
   |none=>rw[q]at o1;exact o1.elim
   |some xs=>obtain⟨vs,e,r⟩:=s1.ob i _ (cU q);rw[q]at o1;exact⟨_,.inl ⟨vs,Bs.of e,rfl⟩,by rw[JJ r];exact o1.val s1 rfl⟩
  |_=>exact o1.elim
end
end L2.Mr
namespace L2
open PySem PySem.Spec PyProof.Rows
section
variable{Pg:bj}{w:cq}{P:ah->Prop}{H:Hp}{s:ag}
theorem VU (hok:Ci Pg w H s.heap) (n:Nat) (A:cm) (d d':Dt) (v v':V) (u u':af) (hn:eZ d<=n) (hu:A.units+n+1<cLine) (n1:nod d=true) (n2:nod d'=true) (h:Den P H d v) (h':Den P H d' v') (r:RelV v u) (r':RelV v' u'):
  SeqAt.RcNeAt A s u u' (!bK d d'):=by
 have Bq:A.units<cLine:=by omega
 have Cz:1<=n->∀(d d':Dt) (u u':af),eZ d<=n - 1->nod d=true->nod d'=true->Vw P H s d u->Vw P H s d' u'->kv A.in1 s u u' (bK d d'):=λhd d d' u u' a b c e f=>(BM hok (n - 1) A.in1 d d' u u' a (by show A.units+1+(n - 1)+1<cLine;omega) b c e f).2;have k:=vw hok n1 h r;have k':=vw hok n2 h' r'
 clear h h' r r'
 cases k <;> cases k'
 case tup.tup ds a1 vs1 its1 e1 g1 q1 tp1 Cq a2 Ex Cm e2 g2 q2 tp2=>
  rw[nod]at n1 n2;rw[eZ]at hn;have hl1:=g1.length;have hl2:=g2.length;have hq1:=q1.length;have hq2:=q2.length;rw[bK];have z:=SeqAt.RcNeAt.tuples (e:=λj=>bK (ds.getD j .non) (Cq.getD j .non)) tp1 tp2 Bq (wX hok (Cz (by omega)) (by omega) n1 n2 g1 g2 q1 q2);have s1:its1.toArray.size=ds.length:=by simp;omega
  have s2:Cm.toArray.size=Cq.length:=by simp;omega
  rw[s1,s2]at z
  by_cases hlen:ds.length=Cq.length
  ·rw[sW hlen];rw[<-hlen,zl]at z;simpa using z
  ·rw[sX hlen];rw[show(ds.length==Cq.length)=false from beq_eq_false_iff_ne.mpr hlen,qw]at z;exact z
 case lst.lst ds a1 vs1 its1 e1 g1 q1 tp1 Cq a2 Ex Cm e2 g2 q2 tp2=>
  rw[nod]at n1 n2;rw[eZ]at hn;have hl1:=g1.length;have hl2:=g2.length;have hq1:=q1.length;have hq2:=q2.length;rw[bK]
  by_cases hlen:ds.length=Cq.length
  ·have z:=SeqAt.RcNeAt.lists (e:=λj=>bK (ds.getD j .non) (Cq.getD j .non)) tp1 tp2 (by simp;omega) Bq (wX hok (Cz (by omega)) (by omega) n1 n2 g1 g2 q1 q2);rw[sW hlen];simpa[hq1.symm,hl1]using z
  ·rw[sX hlen];exact SeqAt.RcNeAt.lists_lengths tp1 tp2 (by simp;omega) Bq
 case non.non=>exact .none_none
 case non.bl=>exact .none_bool _
 case non.int=>exact .none_int _ _
 case non.str=>exact .none_str _ _
 case non.tup=>exact .none_tuple ‹_› Bq
 case non.lst=>exact .none_list ‹_› Bq
 case bl.non=>exact .bool_none _
 case bl.bl=>exact .bool_bool _ _
 case bl.int=>exact .bool_int _ _ _
 case bl.str=>exact .bool_str _ _ _
 case bl.tup=>exact .bool_tuple _ ‹_› Bq
 case bl.lst=>exact .bool_list _ ‹_› Bq
 case int.non=>exact .int_none _ _
 case int.bl=>exact .int_bool _ _ _
 case int.int=>exact .int_int _ _ _ _
 case int.str=>exact .int_str _ _ _ _
 case int.tup=>exact .int_tuple _ _ ‹_› Bq
 case int.lst=>exact .int_list _ _ ‹_› Bq
 case str.non=>exact .str_none _ _
 case str.bl=>exact .str_bool _ _ _
 case str.int=>exact .str_int _ _ _ _
 case str.str=>exact .str_str _ _ _ _
 case str.tup=>exact .str_tuple _ _ ‹_› Bq
 case str.lst=>exact .str_list _ _ ‹_› Bq
 case tup.non=>exact .tuple_none ‹_› Bq
 case tup.bl=>exact .tuple_bool _ ‹_› Bq
 case tup.int=>exact .tuple_int _ _ ‹_› Bq
 case tup.str=>exact .tuple_str _ _ ‹_› Bq
 case tup.lst=>exact .tuple_list ‹_› ‹_› Bq
 case lst.non=>exact .list_none ‹_› Bq
 case lst.bl=>exact .list_bool _ ‹_› Bq
 case lst.int=>exact .list_int _ _ ‹_› Bq
 case lst.str=>exact .list_str _ _ ‹_› Bq
 case lst.tup=>exact .list_tuple ‹_› ‹_› Bq
end
end L2
namespace L2.Mr
open PySem PySem.Spec PyProof.Rows
def bU {α β:Type}(f:α->Option β):List α->Option (List β)
 | []=>some []
 |x::xs=>match f x with
  |none=>none
  |some y=>match bU f xs with
   |none=>none
   |some ys=>some (y::ys)
def bQ:Nat->Hs->Dv->Option Dt
 |0,_,_=>none
 |k+1,h,d=>match d with
  | .non=>some .non
  | .bl b=>some (.bl b)
  | .int i=>some (.int i)
  | .str x=>some (.str x)
  | .tup xs=>match bU (bQ k h) xs with
   |some ts=>some (.tup ts)
   |none=>none
  | .ref i=>match getL h i with
   |some xs=>match bU (bQ k h) xs with
    |some ts=>some (.lst ts)
    |none=>none
   |none=>none
  |_=>none
abbrev jY:ah->Prop:=λ_=>True
section
variable{G:Cfg}{μ:Nat->ah}{h:Hs}{H:Hp}
theorem qW (s:Bk G μ h H):∀(k:Nat) (d:Dv) (v:V) (t:Dt),Bc G μ h.length H d v->bQ k h d=some t->Den jY H t v/\eZ t<=k/\nod t=true:=by
 intro k
 induction k with
 |zero=>intro d v t _ e;cases e
 |succ k ih=>
  have il:∀(xs:Aw) (vs:List V) (ts:List Dt),RelDL G μ h.length H xs vs->bU (bQ k h) xs=some ts->Bj jY H ts vs/\mZ ts<=k/\kQ ts=true:=by
   intro xs
   induction xs with
   |nil=>intro vs ts r e;cases e;rw[RelDL]at r;subst r;exact⟨Bj.nil,by simp[mZ],rfl⟩
   |cons x xs ihx=>
    intro vs ts r e;rw[RelDL]at r;obtain⟨v,rr,rfl,r1,r2⟩:=r;unfold bU at e
    cases q:bQ k h x with
    |none=>rw[q]at e;cases e
    |some y=>
     rw[q]at e;dsimp only at e
     cases q2:bU (bQ k h) xs with
     |none=>rw[q2]at e;cases e
     |some ys=>rw[q2]at e;cases e;obtain⟨a1,a2,a3⟩:=ih x v y r1 q;obtain⟨b1,b2,b3⟩:=ihx rr ys r2 q2;exact⟨Bj.cons a1 b1,by rw[mZ];omega,by rw[kQ,a3,b3];rfl⟩
  intro d v t r e;unfold bQ at e
  cases d with
  |non=>cases e;rw[Bc]at r;subst r;exact⟨by rw[Den],by simp[eZ],rfl⟩
  |bl b=>cases e;rw[Bc]at r;subst r;exact⟨by rw[Den],by simp[eZ],rfl⟩
  |int b=>cases e;rw[Bc]at r;subst r;exact⟨by rw[Den],by simp[eZ],rfl⟩
  |str b=>cases e;rw[Bc]at r;subst r;exact⟨by rw[Den],by simp[eZ],rfl⟩
  |tup xs=>
   dsimp only at e
   cases q:bU (bQ k h) xs with
   |none=>rw[q]at e;cases e
   |some ts=>rw[q]at e;cases e;obtain⟨a,vs,rfl,e1,r1⟩:=r;obtain⟨b1,b2,b3⟩:=il xs vs ts r1 q;exact⟨by rw[Den];exact⟨a,vs,rfl,e1,b1⟩,by rw[eZ];omega,by rw[nod];exact b3⟩
  |ref i=>
   dsimp only at e
   cases g:getL h i with
   |none=>rw[g]at e;cases e
   |some xs=>
    rw[g]at e;dsimp only at e
    cases q:bU (bQ k h) xs with
    |none=>rw[q]at e;cases e
    |some ts=>rw[q]at e;cases e;obtain⟨hi,rfl⟩:=r;obtain⟨vs,e1,r1⟩:=s.ob i _ (cU g);obtain⟨b1,b2,b3⟩:=il xs vs ts r1 q;exact⟨by rw[Den];exact⟨_,vs,rfl,trivial,e1,b1⟩,by rw[eZ];omega,by rw[nod];exact b3⟩
  |edc=>cases e
  |exc c=>cases e
  |scr=>cases e
end
def cH:Nat:=30
def cA (x y:Dv) (h:Hs):Rs Dv:=match bQ cH h x,bQ cH h y with
 |some s,some t=>.ok (.bl (bK s t)) h
 |_,_=>.bad
def dG (x y:Dv) (h:Hs):Rs Dv:=match bQ cH h x,bQ cH h y with
 |some s,some t=>.ok (.bl (!bK s t)) h
 |_,_=>.bad
def xB (neg:Bool):R2:=λx y H Q=>∃t t',Den jY H t x/\Den jY H t' y/\eZ t<=cH/\nod t=true/\nod t'=true/\Q (.bl (if neg then !bK t t' else bK t t')) H
section
variable{X:Cx}{G:Cfg}
theorem JK (hu:X.A.units+64<cLine):Cg X (compareOp .Eq) (xB false):=by intro pins s σ H x y v u Q I r1 r2 ⟨t,t',d,d',hd,n1,n2,q⟩;exact EqBoolInt.of_rc (JD I.hok cH X.A t t' x y v u hd (by unfold cH;omega) n1 n2 d d' r1 r2).1 ⟨.bl _,H,I,rfl,q⟩
theorem JL (hu:X.A.units+64<cLine):Cg X (compareOp .NotEq) (xB true):=by intro pins s σ H x y v u Q I r1 r2 ⟨t,t',d,d',hd,n1,n2,q⟩;exact EqBoolInt.of_rcne (VU I.hok cH X.A t t' x y v u hd (by unfold cH;omega) n1 n2 d d' r1 r2) ⟨.bl _,H,I,rfl,q⟩
theorem JM:fX G (xB false) cA:=by
 intro E μ h H x y vx vy Q s rx ry o;unfold cA at o
 split at o
 ·rename_i t t' e e';obtain⟨a1,a2,a3⟩:=qW s _ x vx t rx e;obtain⟨b1,b2,b3⟩:=qW s _ y vy t' ry e';exact⟨t,t',a1,b1,a2,a3,b3,o.val s rfl⟩
 ·exact o.elim
theorem JN:fX G (xB true) dG:=by
 intro E μ h H x y vx vy Q s rx ry o;unfold dG at o
 split at o
 ·rename_i t t' e e';obtain⟨a1,a2,a3⟩:=qW s _ x vx t rx e;obtain⟨b1,b2,b3⟩:=qW s _ y vy t' ry e';exact⟨t,t',a1,b1,a2,a3,b3,o.val s rfl⟩
 ·exact o.elim
end
def jB (g:Int->Int->Dv):Dv->Dv->Hs->Rs Dv
 | .int i,.int j,h=>.ok (g i j) h
 |_,_,_=>.bad
def lO (C:Int->Int->Bool) (g:Int->Int->Dv):Dv->Dv->Hs->Rs Dv
 | .int i,.int j,h=>if C i j=true then .ok (g i j) h else .bad
 |_,_,_=>.bad
section
variable{X:Cx}{G:Cfg}
theorem VV {f:Int->Int->Int}:fX G (jX λi j=>.int (f i j)) (jB λi j=>.int (f i j)):=by
 intro E μ h H x y vx vy Q s rx ry o
 cases x with
 |int i=>
  cases y with
  |int j=>exact⟨i,j,rx,ry,o.val s rfl⟩
  |_=>exact o.elim
 |_=>exact o.elim
theorem qX {f:Int->Int->Bool}:fX G (jX λi j=>.bl (f i j)) (jB λi j=>.bl (f i j)):=by
 intro E μ h H x y vx vy Q s rx ry o
 cases x with
 |int i=>
  cases y with
  |int j=>exact⟨i,j,rx,ry,o.val s rfl⟩
  |_=>exact o.elim
 |_=>exact o.elim
theorem xC {C:Int->Int->Prop}{B:Int->Int->Bool}{f:Int->Int->Int}(hB:∀i j,B i j=true->C i j):fX G (rI C λi j=>.int (f i j)) (lO B λi j=>.int (f i j)):=by
 intro E μ h H x y vx vy Q s rx ry o
 cases x with
 |int i=>
  cases y with
  |int j=>
   dsimp only[lO]at o
   split at o
   ·rename_i hb;exact⟨i,j,rx,ry,hB i j hb,o.val s rfl⟩
   ·exact o.elim
  |_=>exact o.elim
 |_=>exact o.elim
def jP (i:Int):Bool:=decide (-18446744073709551616<i)&&decide (i<18446744073709551616)
def xD (i j:Int):Bool:=jP i||jP j
theorem VW (i j:Int) (h:xD i j=true):CMul i j:=by
 unfold xD jP at h;unfold CMul;simp only[Bool.or_eq_true,fe,decide_eq_true_eq]at h
 rcases h with h|h
 ·exact .inl ⟨by omega,by omega⟩
 ·exact .inr ⟨by omega,by omega⟩
def qY (_ j:Int):Bool:=decide (0<j)
theorem VX (i j:Int) (h:qY i j=true):0<j:=by unfold qY at h;simpa using h
def tF (i j:Int):Bool:=decide (0<=j)&&decide (j<=1000000)&&decide (i.natAbs<18446744073709551616)
theorem VY (i j:Int) (h:tF i j=true):A8 i j:=by unfold tF at h;unfold A8;simp only[fe,decide_eq_true_eq]at h;exact⟨h.1.1,h.1.2,by have:=h.2;omega⟩
def jZ:Dv->Dv->Hs->Rs Dv
 | .int i,.int j,h=>.ok (.int (i+j)) h
 | .ref i,.ref j,h=>match getL h i,getL h j with
  |some xs,some ys=>lim (xs.length+ys.length) (.ok (.ref h.length) (h++[.lst (xs++ys)]))
  |_,_=>.bad
 | .tup xs,.tup ys,h=>if xs.isEmpty=true then .bad else lim (xs.length+ys.length) (.ok (.tup (xs++ys)) h)
 |_,_,_=>.bad
def BP (K:ao):R2:=λx y H Q=>(jX λi j=>.int (i+j)) x y H Q∨IE x y H Q∨HS K x y H Q
theorem VZ:Cg X (binaryOp .Add) (BP X.K):=op_add.or (op_cat.or UG)
theorem V0:fX G (BP G.K) jZ:=by
 intro E μ h H x y vx vy Q s rx ry o
 cases x with
 |int i=>
  cases y with
  |int j=>exact .inl ⟨i,j,rx,ry,o.val s rfl⟩
  |_=>exact o.elim
 |ref i=>
  cases y with
  |ref j=>
   dsimp only[jZ]at o
   cases g1:getL h i with
   |none=>rw[g1]at o;exact o.elim
   |some xs=>
    cases g2:getL h j with
    |none=>rw[g1,g2]at o;exact o.elim
    |some ys=>
     rw[g1,g2]at o;dsimp only at o;unfold lim at o
     split at o
     ·rename_i hl;obtain⟨vs,e1,r1⟩:=s.ob i _ (cU g1);obtain⟨ws,e2,r2⟩:=s.ob j _ (cU g2);obtain⟨_,rfl⟩:=rx;obtain⟨_,rfl⟩:=ry;exact .inr (.inl ⟨_,_,vs,ws,rfl,rfl,e1,e2,by rw[r1.length,r2.length];exact sY hl,λp hp=>oX s (r1.append r2) hp o⟩)
     ·exact o.elim
  |_=>exact o.elim
 |tup xs=>
  cases y with
  |tup ys=>
   dsimp only[jZ]at o
   split at o
   ·exact o.elim
   ·rename_i hne;unfold lim at o
    split at o
    ·rename_i hl;obtain⟨a,vs,rfl,e1,r1⟩:=rx;obtain⟨b,ws,rfl,e2,r2⟩:=ry;refine .inr (.inr ⟨a,b,vs,ws,rfl,rfl,Bp.of e1,Bp.of e2, ?_,by rw[r1.length,r2.length];exact sY hl,λz=>?_,λ_ p hp=>?_⟩)
     ·intro z;subst z;have:=r1.length
      cases xs <;> simp_all
     ·subst z;have e3:ys=[]:=by have:=r2.length;cases ys <;> simp_all
      subst e3;refine o.val s ?_;rw[qe];exact⟨a,vs,rfl,e1,r1⟩
     ·exact o μ _ _ (Ext.same (cZ hp)) (s.same (cZ hp)) ⟨p,_,rfl,dF,RelDL.mono (Ext.same (cZ hp)) _ _ (r1.append r2)⟩
    ·exact o.elim
  |_=>exact o.elim
 |_=>exact o.elim
def kS (xs:Aw) (i:Int) (h:Hs):Rs Dv:=match iF xs i with
 |some d=>.ok d h
 |none=>.bad
def gY (scr:Aq):Dv->Dv->Hs->Rs Dv
 | .tup xs,.int i,h=>kS xs i h
 | .ref k,.int i,h=>match getL h k with
  |some xs=>kS xs i h
  |none=>.bad
 | .scr,.int i,h=>kS (scr.map Dv.int) i h
 |_,_,_=>.bad
theorem tG {μ:Nat->ah}{n:Nat}{H:Hp}:∀ns:Aq,RelDL G μ n H (ns.map Dv.int) (ns.map V.int)
 | []=>RelDL.nil
 |i::ns=>RelDL.cons rfl (tG ns)
theorem BQ {E:XK}{μ:Nat->ah}{h:Hs}{H:Hp}{xs:Aw}{vs:List V}{i:Int}{Q:VK}(s:Bk G μ h H) (r:RelDL G μ h.length H xs vs) (o:Out G E μ h.length H (kS xs i h) (Bc G) Q):∃v,iF vs i=some v/\Q v H:=by
 unfold kS at o
 cases e:iF xs i with
 |none=>rw[e]at o;exact o.elim
 |some d=>
  rw[e]at o;unfold iF at e ⊢;rw[r.length]
  cases q:gE xs.length i with
  |none=>rw[q]at e;cases e
  |some j=>rw[q]at e;obtain⟨v,e1,r1⟩:=r.get e;exact⟨v,e1,o.val s r1⟩
theorem JO:fX G (BE G.K) (gY G.scr):=by
 intro E μ h H x y vx vy Q s rx ry o
 cases y with
 |int i=>
  cases x with
  |tup xs=>obtain⟨a,vs,rfl,e1,r1⟩:=rx;obtain⟨v,e2,q⟩:=BQ s r1 o;exact .inr (.inl ⟨a,vs,i,v,rfl,ry,Bp.of e1,e2,q⟩)
  |ref k=>
   dsimp only[gY]at o
   cases g:getL h k with
   |none=>rw[g]at o;exact o.elim
   |some xs=>rw[g]at o;obtain⟨vs,e1,r1⟩:=s.ob k _ (cU g);obtain⟨_,rfl⟩:=rx;obtain⟨v,e2,q⟩:=BQ s r1 o;exact .inl ⟨_,vs,i,v,rfl,ry,Bs.of e1,e2,q⟩
  |scr=>obtain⟨rfl,hf⟩:=rx;obtain⟨v,e2,q⟩:=BQ s (tG G.scr) o;exact .inl ⟨_,_,i,v,rfl,ry,hf.sq,e2,q⟩
  |_=>exact o.elim
 |_=>cases x <;> exact o.elim
theorem V1 {E:XK}{a b:bo}{ma mb:M Dv}{pos:Pos}(ha:aK X G E a ma) (hb:aK X G E b mb) (hs:BD b:=by intro _ _;rfl):aK X G E (.Subscript a b pos) (m2 (gY G.scr) ma mb):=λhK=>PE.imp (HU (by have:=HY (X:=X);rw[hK]at this;exact this) (ha hK) (hb hK) hs) λ_ _ _ t=>sZ JO t
theorem V2:dy "abs" = some (.builtin "abs"):=by decide +kernel
theorem BR:dy "tuple" = some (.type "tuple"):=by decide +kernel
theorem xE:dy "list" = some (.type "list"):=by decide +kernel
theorem BS:dy "max" = some (.builtin "max"):=by decide +kernel
theorem JP:dy "min" = some (.builtin "min"):=by decide +kernel
variable{E:XK}{aO:M Aw }{e:bo}{es:List bo}{x:Str}{p pos:Pos}{id T:String}
def pA (G:Cfg) (r:List V->Hp->VK->Prop) (f:Av):Prop:=∀(E:XK) (μ:Nat->ah) (h:Hs) (H:Hp) (xs:Aw) (vs:List V) (Q:VK),Bk G μ h H->RelDL G μ h.length H xs vs->Out G E μ h.length H (f xs h) (Bc G) Q->r vs H Q
def aF (f:Av) (ms:M Aw ):M Dv:=λρ h=>(ms ρ h).bind f
theorem JQ {r:List V->Hp->VK->Prop}{f:Av}(hd:pA G r f) {σ:St}{H:Hp}{Q:VK}(t:iO G E (aF f aO) σ H Q):wI r (BN G E aO) σ H Q:=by obtain⟨μ,ρ,h,rs,s,o⟩:=t;exact kR rs s o λμ1 ds h1 vs H1 x1 Bo s1 r1 o1=>hd E μ1 h1 H1 ds vs Q s1 r1 o1
theorem pC {r:List V->Hp->VK->Prop}{f:Av}(hc:Bi X (.builtin id) r) (hd:pA G r f) (hg:Gl X x) (hm:X.mg x=none) (hv:dy x=some (.builtin id)) (ha:eF X G E (e::es) aO) (hn:x ≠ "__name__" := by decide) (Dq:(x==("__debug__" : Str))=false:=by decide)
  (he:ar (e::es) X.env=(false,eval e X.env)::ar es X.env:=by rfl) (Cj:(backTo pos (ar es X.env)).any (·.1)=false:=by rfl):aK X G E (.Call (.Name x p) (e::es) [] pos) (aF f aO):=λhK=>
 PE.imp (sR hc hg hm hv (ha hK) hn Dq he Cj) λ_ _ _ t=>JQ hd t
theorem JR {r:List V->Hp->VK->Prop}{f:Av}(hc:Bi X (.type T) r) (hd:pA G r f) (hg:Gl X x) (hm:X.mg x=none) (hv:dy x=some (.type T)) (ha:eF X G E (e::es) aO) (hn:x ≠ "__name__" := by decide) (Dq:(x==("__debug__" : Str))=false:=by decide)
  (he:ar (e::es) X.env=(false,eval e X.env)::ar es X.env:=by rfl) (Cj:(backTo pos (ar es X.env)).any (·.1)=false:=by rfl):aK X G E (.Call (.Name x p) (e::es) [] pos) (aF f aO):=λhK=>
 PE.imp (wJ hc hg hm hv (ha hK) hn Dq he Cj) λ_ _ _ t=>JQ hd t
def fY (scr:Aq):Dv->Hs->Option Aw 
 | .tup xs,_=>some xs
 | .ref i,h=>getL h i
 | .scr,_=>some (scr.map Dv.int)
 |_,_=>none
def f1 (g:Dv->Hs->Rs Dv):Av
 | [d],h=>g d h
 |_,_=>.bad
def iQ (scr:Aq) (d:Dv) (h:Hs):Rs Dv:=match fY scr d h with
 |some xs=>.ok (.int xs.length) h
 |none=>.bad
theorem tH {μ:Nat->ah}{n:Nat}{H:Hp}{d:Dv}{vs:List V}(r:RelDL G μ n H [d] vs):∃v,vs=[v]/\Bc G μ n H d v:=by rw[RelDL]at r;obtain⟨v,rr,rfl,h1,h2⟩:=r;rw[RelDL]at h2;subst h2;exact⟨v,rfl,h1⟩
theorem pD {r:V->Hp->VK->Prop}{g:Dv->Hs->Rs Dv}(hg:lM G r g):pA G (λxs H Q=>∃v,xs=[v]/\r v H Q) (f1 g):=by
 intro E μ h H xs vs Q s rr o
 match xs,rr,o with
 | [],_,o=>exact o.elim
 |_::_::_,_,o=>exact o.elim
 | [d],rr,o=>obtain⟨v,rfl,r1⟩:=tH rr;exact⟨v,rfl,hg E μ h H d v Q s r1 o⟩
theorem tI {μ:Nat->ah}{n:Nat}{H:Hp}{d d':Dv}{vs:List V}(r:RelDL G μ n H [d,d'] vs):∃v v',vs=[v,v']/\Bc G μ n H d v/\Bc G μ n H d' v':=by rw[RelDL]at r;obtain⟨v,rr,rfl,h1,h2⟩:=r;obtain⟨v',rfl,h3⟩:=tH h2;exact⟨v,v',rfl,h1,h3⟩
theorem BU {μ:Nat->ah}{h:Hs}{H:Hp}{d:Dv}{v:V}{xs:Aw}(s:Bk G μ h H) (r:Bc G μ h.length H d v) (e:fY G.scr d h=some xs):∃a vs,v=.ref a/\(Bs G.K H a vs∨Bp G.K H a vs)/\RelDL G μ h.length H xs vs:=by
 cases d with
 |tup ds=>cases e;obtain⟨a,vs,rfl,e1,r1⟩:=r;exact⟨a,vs,rfl,.inr (Bp.of e1),r1⟩
 |ref i=>obtain⟨_,rfl⟩:=r;obtain⟨vs,e1,r1⟩:=s.ob i _ (cU e);exact⟨_,vs,rfl,.inl (Bs.of e1),r1⟩
 |scr=>cases e;obtain⟨rfl,hf⟩:=r;exact⟨_,_,rfl,.inl hf.sq,tG _⟩
 |_=>cases e
def JS (K:ao):V->Hp->VK->Prop:=λx H Q=>∃p ys,x=.ref p/\(Bs K H p ys∨Bp K H p ys)/\Q (.int ys.length) H
theorem JT:lM G (JS G.K) (iQ G.scr):=by
 intro E μ h H d v Q s r1 o;unfold iQ at o
 cases e:fY G.scr d h with
 |none=>rw[e]at o;exact o.elim
 |some ys=>rw[e]at o;obtain⟨a,ws,rfl,hs,r2⟩:=BU s r1 e;exact⟨a,ws,rfl,hs,by rw[r2.length];exact o.val s rfl⟩
theorem Bi.imp {f:af}{r r':List V->Hp->VK->Prop}(h:Bi X f r) (i:∀xs H Q,r' xs H Q->r xs H Q):Bi X f r':=λpins s σ H xs us Q I rv q=>h pins s σ H xs us Q I rv (i xs H Q q)
theorem JU (hg:Gl X "len") (hm:X.mg "len" = none) (ha:eF X G E (e::es) aO)
  (he:ar (e::es) X.env=(false,eval e X.env)::ar es X.env:=by rfl) (Cj:(backTo pos (ar es X.env)).any (·.1)=false:=by rfl):aK X G E (.Call (.Name "len" p) (e::es) [] pos) (aF (f1 (iQ G.scr)) aO):=λhK=>
 pC (Bi.imp (HZ (X:=X)) λxs H Q ⟨v,h1,a,ys,h2,h3,h4⟩=>⟨a,ys,by rw[h1,h2],by rw[hK];exact h3,h4⟩) (pD JT) hg hm PySem.boot_len ha (by decide) (by decide) he Cj hK
def lQ:Dv->Hs->Rs Dv
 | .int i,h=>.ok (.int (if i<0 then -i else i)) h
 |_,_=>.bad
theorem V3:lM G (λx H Q=>∃i,x=.int i/\Q (.int (if i<0 then -i else i)) H) lQ:=by
 intro E μ h H d v Q s r1 o
 cases d with
 |int i=>rw[Bc]at r1;subst r1;exact⟨i,rfl,o.val s rfl⟩
 |_=>exact o.elim
theorem JV (hg:Gl X "abs") (hm:X.mg "abs" = none) (ha:eF X G E (e::es) aO)
  (he:ar (e::es) X.env=(false,eval e X.env)::ar es X.env:=by rfl) (Cj:(backTo pos (ar es X.env)).any (·.1)=false:=by rfl):aK X G E (.Call (.Name "abs" p) (e::es) [] pos) (aF (f1 lQ) aO):=
 pC (Bi.imp (S9 (X:=X)) λxs H Q ⟨v,h1,i,h2,h3⟩=>⟨i,by rw[h1,h2],h3⟩) (pD V3) hg hm V2 ha (by decide) (by decide) he Cj
def nA:Av
 | [.int i,.int j],h=>.ok (.int (if j>i then j else i)) h
 |_,_=>.bad
def qZ:Av
 | [.int i,.int j],h=>.ok (.int (if j<i then j else i)) h
 |_,_=>.bad
theorem JW {f:Av}{g:Int->Int->Int}(h2:∀i j h,f [.int i,.int j] h=.ok (.int (g i j)) h) (hb:∀xs h,(∀i j,xs≠[.int i,.int j])->f xs h=.bad):
  pA G (λxs H Q=>∃i j,xs=[.int i,.int j]/\Q (.int (g i j)) H) f:=by
 intro E μ h H xs vs Q s r o
 by_cases hx:∃i j,xs=[.int i,.int j]
 ·obtain⟨i,j,rfl⟩:=hx;obtain⟨v,v',rfl,r1,r2⟩:=tI r;rw[Bc]at r1 r2;subst r1;subst r2;rw[h2]at o;exact⟨i,j,rfl,o.val s rfl⟩
 ·rw[hb xs h (λi j e=>hx ⟨i,j,e⟩)]at o;exact o.elim
theorem V4:pA G (λxs H Q=>∃i j,xs=[.int i,.int j]/\Q (.int (if j>i then j else i)) H) nA:=JW (λ_ _ _=>rfl) λxs h hx=>by
 unfold nA;split
 ·rename_i i j;exact absurd rfl (hx i j)
 ·rfl
theorem V5:pA G (λxs H Q=>∃i j,xs=[.int i,.int j]/\Q (.int (if j<i then j else i)) H) qZ:=JW (λ_ _ _=>rfl) λxs h hx=>by
 unfold qZ;split
 ·rename_i i j;exact absurd rfl (hx i j)
 ·rfl
def nB:Dv->Hs->Rs Dv
 | .tup xs,h=>.ok (.tup xs) h
 | .ref i,h=>match getL h i with
  |some xs=>.ok (.tup xs) h
  |none=>.bad
 |_,_=>.bad
def V6 (K:ao):V->Hp->VK->Prop:=λx H Q=>∃p ys,x=.ref p/\((Bs K H p ys/\∀l,H l=none->Q (.ref l) (aT H l (.tup ys)))∨(Bp K H p ys/\Q (.ref p) H))
theorem V7:lM G (V6 G.K) nB:=by
 intro E μ h H d v Q s r1 o
 cases d with
 |tup ds=>have r1':=r1;obtain⟨a,ws,rfl,e1,r2⟩:=r1;exact⟨a,ws,rfl,.inr ⟨Bp.of e1,o.val s r1'⟩⟩
 |ref i=>
  dsimp only[nB]at o
  cases g:getL h i with
  |none=>rw[g]at o;exact o.elim
  |some ys=>rw[g]at o;obtain⟨_,rfl⟩:=r1;obtain⟨ws,e1,r2⟩:=s.ob i _ (cU g);exact⟨_,ws,rfl,.inl ⟨Bs.of e1,λl hl=>o μ _ _ (Ext.same (cZ hl)) (s.same (cZ hl)) ⟨l,ws,rfl,dF,RelDL.mono (Ext.same (cZ hl)) _ _ r2⟩⟩⟩
 |_=>exact o.elim
theorem V8 (hg:Gl X "tuple") (hm:X.mg "tuple" = none) (ha:eF X G E (e::es) aO)
  (he:ar (e::es) X.env=(false,eval e X.env)::ar es X.env:=by rfl) (Cj:(backTo pos (ar es X.env)).any (·.1)=false:=by rfl):aK X G E (.Call (.Name "tuple" p) (e::es) [] pos) (aF (f1 nB) aO):=λhK=>
 JR (Bi.imp (UQ (X:=X)) λxs H Q ⟨v,h1,a,ys,h2,h3⟩=>⟨a,ys,by rw[h1,h2],by rw[hK];exact h3⟩) (pD V7) hg hm BR ha (by decide) (by decide) he Cj hK
def rA (scr:Aq) (d:Dv) (h:Hs):Rs Dv:=match fY scr d h with
 |some xs=>.ok (.ref h.length) (h++[.lst xs])
 |none=>.bad
theorem V9:lM G (λx H Q=>∃p ys,x=.ref p/\(Bs G.K H p ys∨Bp G.K H p ys)/\∀l,H l=none->Q (.ref l) (aT H l (.lst ys))) (rA G.scr):=by
 intro E μ h H d v Q s r1 o;unfold rA at o
 cases e:fY G.scr d h with
 |none=>rw[e]at o;exact o.elim
 |some ys=>rw[e]at o;obtain⟨a,ws,rfl,hs,r2⟩:=BU s r1 e;exact⟨a,ws,rfl,hs,λl hl=>oX s r2 hl o⟩
theorem JX (hc:X.calm=true) (hg:Gl X "max") (hm:X.mg "max" = none) (ha:eF X G E (e::es) aO)
  (he:ar (e::es) X.env=(false,eval e X.env)::ar es X.env:=by rfl) (Cj:(backTo pos (ar es X.env)).any (·.1)=false:=by rfl):aK X G E (.Call (.Name "max" p) (e::es) [] pos) (aF nA aO):=
 pC (TB hc) V4 hg hm BS ha (by decide) (by decide) he Cj
theorem WA (hc:X.calm=true) (hg:Gl X "min") (hm:X.mg "min" = none) (ha:eF X G E (e::es) aO)
  (he:ar (e::es) X.env=(false,eval e X.env)::ar es X.env:=by rfl) (Cj:(backTo pos (ar es X.env)).any (·.1)=false:=by rfl):aK X G E (.Call (.Name "min" p) (e::es) [] pos) (aF qZ aO):=
 pC (TF hc) V5 hg hm JP ha (by decide) (by decide) he Cj
end
inductive Sr where
 |nx (ρ:Ev) (h:Hs)|rt (d:Dv) (h:Hs)|bk (ρ:Ev) (h:Hs)|ct (ρ:Ev) (h:Hs)|ex (c:Nat) (h:Hs)|bad
abbrev MS:=Ev->Hs->Sr
def Bz (G:Cfg) (E:XK) (μ:Nat->ah) (n:Nat) (H:Hp) (r:Sr) (D:Ends):Prop:=match r with
 | .nx ρ h'=>∀μ' H' σ',Ext μ n H μ' h'.length H'->Bk G μ' h' H'->Bf G μ' h'.length H' ρ σ'->D.nx σ' H'
 | .bk ρ h'=>∀μ' H' σ',Ext μ n H μ' h'.length H'->Bk G μ' h' H'->Bf G μ' h'.length H' ρ σ'->D.bk σ' H'
 | .ct ρ h'=>∀μ' H' σ',Ext μ n H μ' h'.length H'->Bk G μ' h' H'->Bf G μ' h'.length H' ρ σ'->D.ct σ' H'
 | .rt d h'=>∀μ' H' v,Ext μ n H μ' h'.length H'->Bk G μ' h' H'->Bc G μ' h'.length H' d v->D.rt v H'
 | .ex c h'=>∀μ' H' u,Ext μ n H μ' h'.length H'->Bk G μ' h' H'->wY G H' c u->E u none H'
 | .bad=>False
theorem Bz.ext {G:Cfg}{E:XK}{μ μ1:Nat->ah}{n n1:Nat}{H H1:Hp}{r:Sr}{D:Ends}(o:Bz G E μ n H r D) (x:Ext μ n H μ1 n1 H1):Bz G E μ1 n1 H1 r D:=by
 cases r with
 |nx ρ h'=>exact λμ' H' σ' y=>o μ' H' σ' (x.trans y)
 |bk ρ h'=>exact λμ' H' σ' y=>o μ' H' σ' (x.trans y)
 |ct ρ h'=>exact λμ' H' σ' y=>o μ' H' σ' (x.trans y)
 |rt d h'=>exact λμ' H' σ' y=>o μ' H' σ' (x.trans y)
 |ex c h'=>exact λμ' H' σ' y=>o μ' H' σ' (x.trans y)
 |bad=>exact o
def xF (G:Cfg) (E:XK) (m:MS):TS:=λD σ H=>∃μ ρ h,Bf G μ h.length H ρ σ/\Bk G μ h H/\Bz G E μ h.length H (m ρ h) D
def jI (X:Cx) (G:Cfg) (E:XK) (st:gz) (m:MS):Prop:=X.K=G.K->PS X st (xF G E m)
def jQ (X:Cx) (G:Cfg) (E:XK) (st:List gz) (m:MS):Prop:=X.K=G.K->Fe X st (xF G E m)
theorem PS.imp {X:Cx}{e:gz}{t t':TS}(h:PS X e t) (i:∀D σ H,t' D σ H->t D σ H):PS X e t':=λpins s σ H D I q=>h pins s σ H D I (i D σ H q)
theorem Fe.imp {X:Cx}{e:List gz}{t t':TS}(h:Fe X e t) (i:∀D σ H,t' D σ H->t D σ H):Fe X e t':=λpins s σ H D I q=>h pins s σ H D I (i D σ H q)
noncomputable def Rs.thenS {α:Type}(r:Rs α) (f:α->Hs->Sr):Sr:=match r with
 | .ok a h=>f a h
 | .ex c h=>.ex c h
 | .bad=>.bad
@[simp] theorem Rs.thenS_ok {α:Type}(a:α) (h:Hs) (f:α->Hs->Sr):(Rs.ok a h).thenS f=f a h:=rfl
@[simp] theorem Rs.thenS_ex {α:Type}(c:Nat) (h:Hs) (f:α->Hs->Sr):(Rs.ex c h).thenS f=.ex c h:=rfl
@[simp] theorem Rs.thenS_bad {α:Type}(f:α->Hs->Sr):(Rs.bad).thenS f=.bad:=rfl
theorem Bz.thenS {α β:Type}{G:Cfg}{E:XK}{μ:Nat->ah}{n:Nat}{H:Hp}{r:Rs α}{f:α->Hs->Sr}{D:Ends}{R:(Nat->ah)->Nat->Hp->α->β->Prop}
  (o:Bz G E μ n H (r.thenS f) D):Out G E μ n H r R λv H1=>∃μ1 d h1,Ext μ n H μ1 h1.length H1/\Bk G μ1 h1 H1/\R μ1 h1.length H1 d v/\Bz G E μ1 h1.length H1 (f d h1) D:=by
 cases r with
 |bad=>exact o
 |ex c h'=>exact o
 |ok d h'=>exact λμ1 H1 v x1 s1 r1=>⟨μ1,d,h',x1,s1,r1,Bz.ext o x1⟩
section
variable{X:Cx}{G:Cfg}{E:XK}{st:gz}{rest:List gz}{m u:MS}{e:bo}{me:M Dv}{pos:Pos}
theorem oA {m:M Dv}{σ:St}{H:Hp}{f:Dv->Hs->Sr}{D:Ends}{Q1:V->Hp->Prop}{μ:Nat->ah}{ρ:Ev}{h:Hs}(rs:Bf G μ h.length H ρ σ) (s:Bk G μ h H) (o:Bz G E μ h.length H ((m ρ h).thenS f) D)
  (k:∀μ1 d h1 v H1,Ext μ h.length H μ1 h1.length H1->Bf G μ1 h1.length H1 ρ σ->Bk G μ1 h1 H1->Bc G μ1 h1.length H1 d v->Bz G E μ1 h1.length H1 (f d h1) D->Q1 v H1):iO G E m σ H Q1:=
 ⟨μ,ρ,h,rs,s,(o.thenS (R:=Bc G)).mono λv H1 ⟨μ1,d,h1,x,s1,r1,o1⟩=>k μ1 d h1 v H1 x (rs.mono x) s1 r1 o1⟩
theorem JY {m:M Bool}{σ:St}{H:Hp}{f:Bool->Hs->Sr}{D:Ends}{Q1:Bool->Hp->Prop}{μ:Nat->ah}{ρ:Ev}{h:Hs}(rs:Bf G μ h.length H ρ σ) (s:Bk G μ h H) (o:Bz G E μ h.length H ((m ρ h).thenS f) D)
  (k:∀μ1 b h1 H1,Ext μ h.length H μ1 h1.length H1->Bf G μ1 h1.length H1 ρ σ->Bk G μ1 h1 H1->Bz G E μ1 h1.length H1 (f b h1) D->Q1 b H1):iY G E m σ H Q1:=
 ⟨μ,ρ,h,rs,s,(o.thenS (R:=RB)).mono λv H1 ⟨μ1,d,h1,x,s1,r1,o1⟩=>by have e:v=d:=r1;subst e;exact k μ1 v h1 H1 x (rs.mono x) s1 o1⟩
def cO:MS:=λρ h=>.nx ρ h
def aH (m u:MS):MS:=λρ h=>match m ρ h with
 | .nx ρ1 h1=>u ρ1 h1
 |r=>r
theorem gZ:jQ X G E [] cO:=λ_=>Fe.imp RI λD σ H ⟨μ,ρ,h,rs,s,o⟩=>o μ H σ Ext.refl s rs
theorem bE (h1:jI X G E st m) (h2:jQ X G E rest u):jQ X G E (st::rest) (aH m u):=λhK=>Fe.imp (RJ (h1 hK) (h2 hK)) λD σ H ⟨μ,ρ,h,rs,s,o⟩=>by
 refine⟨μ,ρ,h,rs,s, ?_⟩;unfold aH at o
 cases q:m ρ h with
 |nx ρ1 h1=>rw[q]at o;exact λμ1 H1 σ1 x1 s1 Bo=>⟨μ1,ρ1,h1,Bo,s1,Bz.ext o x1⟩
 |bk ρ1 h1=>rw[q]at o;exact o
 |ct ρ1 h1=>rw[q]at o;exact o
 |rt ρ1 h1=>rw[q]at o;exact o
 |ex ρ1 h1=>rw[q]at o;exact o
 |bad=>rw[q]at o;exact o
theorem bO (h1:jI X G E st m):jQ X G E [st] m:=λhK=>GW (h1 hK)
def cT (me:M Dv):MS:=λρ h=>(me ρ h).thenS λ_ h1=>.nx ρ h1
theorem kT (he:aK X G E e me) (hs:swapsWith e none pos.line X.env=pure false:=by rfl):jI X G E (.Expr e pos) (cT me):=λhK=>PS.imp (RM (he hK) hs) λD σ H ⟨μ,ρ,h,rs,s,o⟩=>oA rs s o λμ1 d h1 v H1 x1 Bo s1 r1 o1=>o1 μ1 H1 σ Ext.refl s1 Bo
def aN (me:M Dv):MS:=λρ h=>(me ρ h).thenS λd h1=>.rt d h1
theorem cI (he:aK X G E e me):jI X G E (.Return (some e) pos) (aN me):=λhK=>PS.imp (RO (he hK)) λD σ H ⟨μ,ρ,h,rs,s,o⟩=>oA rs s o λμ1 d h1 v H1 x1 Bo s1 r1 o1=>o1 μ1 H1 v Ext.refl s1 r1
def bX (c:M Bool) (t u:MS):MS:=λρ h=>(c ρ h).thenS λb h1=>if b=true then t ρ h1 else u ρ h1
theorem hJ {c:bo}{a b:List gz}{mc:M Bool}(hc:gW X G E c mc) (ha:jQ X G E a m) (hb:jQ X G E b u):jI X G E (.If c a b pos) (bX mc m u):=λhK=>PS.imp (RQ (hc hK) (ha hK) (hb hK)) λD σ H ⟨μ,ρ,h,rs,s,o⟩=>
 JY rs s o λμ1 k h1 H1 x1 Bo s1 o1=>by
  cases k with
  |true=>rw[if_pos rfl]at o1 ⊢;exact⟨μ1,ρ,h1,Bo,s1,o1⟩
  |false=>rw[if_neg (by decide)]at o1 ⊢;exact⟨μ1,ρ,h1,Bo,s1,o1⟩
theorem Bf.set {μ:Nat->ah}{n:Nat}{H:Hp}{ρ:Ev}{σ:St}{d:Dv}{v:V}(rs:Bf G μ n H ρ σ) (i:Nat) (r:Bc G μ n H d v):Bf G μ n H (ρ.set i (some d)) (σ.set i (some v)):=⟨by rw[lr,lr];exact rs.len,λj d' e=>by
 have hl:=rs.len
 by_cases Cu:i=j
 ·subst Cu;have hi:i<ρ.length:=by have:=(ax.mp e).1;simpa using this
  rw[dg hi]at e;cases e;exact⟨v,dg (by omega),r⟩
 ·rw[dw Cu]at e ⊢;exact rs.at_ j d' e⟩
abbrev dQ:=Dv->Ev->Option Ev
def rB (G:Cfg) (st:dQ):TG:=λv σ H Q=>∃μ ρ h d ρ',Bf G μ h H ρ σ/\Bc G μ h H d v/\st d ρ=some ρ'/\∀σ',Bf G μ h H ρ' σ'->Q σ' H
def jR (X:Cx) (G:Cfg) (tg:bo) (st:dQ):Prop:=X.K=G.K->PG X tg (rB G st)
theorem PG.imp {tg:bo}{t t':TG}(h:PG X tg t) (i:∀v σ H Q,t' v σ H Q->t v σ H Q):PG X tg t':=λpins s σ H v u Q I r q=>h pins s σ H v u Q I r (i v σ H Q q)
theorem PGs.imp {tg:List bo}{t t':mW}(h:PGs X tg t) (i:∀v σ H Q,t' v σ H Q->t v σ H Q):PGs X tg t':=λpins s σ H v u Q I r q=>h pins s σ H v u Q I r (i v σ H Q q)
def aD (i:Nat):dQ:=λd ρ=>some (ρ.set i (some d))
theorem WB {i:Nat}{x:Str}(hN:X.N.Nodup) (hi:X.N[i]?=some x) (hx:lL X.env.scope x) (hf:X.fn x=true∨X.env.scope.names.lookup x=some .local:=by first|exact .inl rfl|exact .inr rfl|assumption):jR X G (.Name x pos) (aD i):=λ_=>PG.imp (RR hN hi hx hf) λv σ H Q ⟨μ,ρ,h,d,ρ',rs,r,e,k⟩=>by cases e;exact k _ (rs.set i r)
abbrev oC:=Aw->Ev->Option Ev
def WC (G:Cfg) (st:oC):mW:=λvs σ H Q=>∃μ ρ h ds ρ',Bf G μ h H ρ σ/\RelDL G μ h H ds vs/\st ds ρ=some ρ'/\∀σ',Bf G μ h H ρ' σ'->Q σ' H
def xG (X:Cx) (G:Cfg) (tg:List bo) (st:oC):Prop:=X.K=G.K->PGs X tg (WC G st)
def cP:oC:=λds ρ=>match ds with
 | []=>some ρ
 |_=>none
def bA (s:dQ) (t:oC):oC:=λds ρ=>match ds with
 |d::r=>match s d ρ with
  |some ρ1=>t r ρ1
  |none=>none
 | []=>none
theorem iR:xG X G [] cP:=λ_=>PGs.imp RU λvs σ H Q ⟨μ,ρ,h,ds,ρ',rs,r,e,k⟩=>by
 cases ds with
 |nil=>cases e;rw[RelDL]at r;subst r;exact⟨rfl,k _ rs⟩
 |cons d r=>cases e
theorem dS {tg:bo}{tgs:List bo}{s:dQ}{t:oC}(h1:jR X G tg s) (h2:xG X G tgs t)
  (hs:(assignEach (tg::tgs) X.env).map (·.2)=assign tg X.env::(assignEach tgs X.env).map (·.2):=by rfl):xG X G (tg::tgs) (bA s t):=λhK=>PGs.imp (RV (h1 hK) (h2 hK) hs) λvs σ H Q ⟨μ,ρ,h,ds,ρ',rs,r,e,k⟩=>by
 cases ds with
 |nil=>cases e
 |cons d ds=>
  rw[RelDL]at r;obtain⟨v,rr,rfl,r1,r2⟩:=r;unfold bA at e;dsimp only at e
  cases q:s d ρ with
  |none=>rw[q]at e;cases e
  |some ρ1=>rw[q]at e;exact⟨v,rr,rfl,μ,ρ,h,d,ρ1,rs,r1,q,λσ1 Bo=>⟨μ,ρ1,h,ds,ρ',Bo,r2,e,k⟩⟩
def cM (n:Nat) (t:oC):dQ:=λd ρ=>match d with
 | .tup ds=>if ds.length=n then t ds ρ else none
 |_=>none
theorem iS {tgs:List bo}{k:Nat}{t:oC}{n:Nat}(hc:X.calm=true) (h:xG X G tgs t)
  (hn:(assignEach tgs X.env).length=n:=by rfl) (Fb:(assignEach tgs X.env).findIdx? (·.1)=none:=by rfl):jR X G (.Tuple tgs k pos) (cM n t):=λhK=>
 PG.imp (RX hc (h hK) hn Fb) λv σ H Q ⟨μ,ρ,hh,d,ρ',rs,r,e,kk⟩=>by
  cases d with
  |tup ds=>
   dsimp only[cM]at e
   split at e
   ·rename_i hl;obtain⟨a,vs,rfl,e1,r1⟩:=r;exact⟨a,vs,rfl,Bp.of e1,by rw[r1.length];exact hl,μ,ρ,hh,ds,ρ',rs,r1,e,kk⟩
   ·cases e
  |_=>cases e
def aJ (me:M Dv) (st:dQ):MS:=λρ h=>(me ρ h).thenS λd h1=>match st d ρ with
 |some ρ1=>.nx ρ1 h1
 |none=>.bad
theorem WD {st:dQ}{σ:St}{H:Hp}{D:Ends}(t:xF G E (aJ me st) D σ H):wD (iO G E me) (rB G st) D σ H:=by
 obtain⟨μ,ρ,h,rs,s,o⟩:=t;refine oA rs s o λμ1 d h1 v H1 x1 Bo s1 r1 o1=>?_
 cases q:st d ρ with
 |none=>rw[q]at o1;exact o1.elim
 |some ρ1=>rw[q]at o1;exact⟨μ1,ρ,h1.length,d,ρ1,Bo,r1,q,λσ' rs'=>o1 μ1 H1 σ' Ext.refl s1 rs'⟩
theorem JZ {tg:bo}{st:dQ}(he:aK X G E e me) (hg:jR X G tg st) (hs:swapsWithSole [tg] e pos.line X.env=pure false:=by rfl) (hw:swappedStores [tg] e X.env=pure none:=by rfl)
  (h1:(assignEach [tg] X.env).map (·.2)=[assign tg X.env]:=by rfl):jI X G E (.Assign [tg] e pos) (aJ me st):=λhK=>PS.imp (GY (he hK) (hg hK) hs hw h1) λ_ _ _ t=>WD t
theorem BV {i:Nat}{x:Str}{pos':Pos}(hN:X.N.Nodup) (hi:X.N[i]?=some x) (hx:lL X.env.scope x) (he:aK X G E e me) (hs:swapsWith e (some (.Name x pos')) pos.line X.env=pure false:=by rfl) (hf:X.fn x=true∨X.env.scope.names.lookup x=some .local:=by first|exact .inl rfl|exact .inr rfl|assumption):
  jI X G E (.Assign [.Name x pos'] e pos) (aJ me (aD i)):=λhK=>PS.imp (A3 hN hi hx (he hK) hs hf) λD σ H t=>by
 obtain⟨μ,ρ,h,rs,s,o⟩:=t;exact oA rs s o λμ1 d h1 v H1 x1 Bo s1 r1 o1=>o1 μ1 H1 _ Ext.refl s1 (Bo.set i r1)
end
structure Src where
 n:Nat
 get:Nat->Hs->Ax
 fin:Hs->Bool
def Ce (G:Cfg) (μ0:Nat->ah) (n0:Nat) (H0:Hp) (src:Src) (J:It):Prop:=
 ∀(k:Nat) (μ:Nat->ah) (h:Hs) (H:Hp),Ext μ0 n0 H0 μ h.length H->Bk G μ h H->
  (k<src.n->∀d,src.get k h=some d->J.go k H/\∀x H',J.yld k H x H'->Cn H H'/\Bc G μ h.length H' d x)/\(k=src.n->src.fin h=true->J.stop k H)
def BW (G:Cfg) (E:XK) (m:M Src):TI:=λσ H R=>∃μ ρ h,Bf G μ h.length H ρ σ/\Bk G μ h H/\Out G E μ h.length H (m ρ h) (Ce G) R
def jJ (X:Cx) (G:Cfg) (E:XK) (tg iter:bo) (m:M Src):Prop:=X.K=G.K->PI X tg iter (BW G E m)
theorem PI.imp {X:Cx}{tg iter:bo}{t t':TI}(h:PI X tg iter t) (i:∀σ H R,t' σ H R->t σ H R):PI X tg iter t':=λpins s σ H R I q=>h pins s σ H R I (i σ H R q)
def eK (xs:Aw):Src:=⟨xs.length,λk _=>xs[k]?,λ_=>true⟩
def bR (i n:Nat):Src:=⟨n,λk h=>match getL h i with
 |some xs=>if xs.length=n then xs[k]? else none
 |none=>none,λh=>match getL h i with
 |some xs=>xs.length==n
 |none=>false⟩
def cG (lo hi:Int):Src:=⟨(hi - lo).toNat,λk _=>some (.int (lo+k)),λ_=>true⟩
def aX (f:Dv->Hs->Rs Src) (m:M Dv):M Src:=λρ h=>(m ρ h).bind f
section
variable{X:Cx}{G:Cfg}{E:XK}{tg e a b:bo}{me ma mb:M Dv}{pos p:Pos}
def bG:Dv->Hs->Rs Src
 | .ref i,h=>match getL h i with
  |some xs=>.ok (bR i xs.length) h
  |none=>.bad
 |_,_=>.bad
def fZ:Dv->Hs->Rs Src
 | .tup xs,h=>.ok (eK xs) h
 |_,_=>.bad
theorem iT (he:aK X G E e me):jJ X G E tg e (aX bG me):=λhK=>PI.imp (R9 (he hK)) λσ H R ⟨μ,ρ,h,rs,s,o⟩=>eG rs s o λμ1 x h1 vx H1 x1 Bo s1 r1 o1=>by
 rw[hK]
 cases x with
 |ref i=>
  obtain⟨hi,rfl⟩:=r1;dsimp only[bG]at o1
  cases g:getL h1 i with
  |none=>rw[g]at o1;exact o1.elim
  |some xs=>
   rw[g]at o1;obtain⟨vs,e1,r2⟩:=s1.ob i _ (cU g);refine⟨_,rfl,⟨vs,Bs.of e1⟩,o1.val s1 λk μ2 h2 H2 x2 s2=>?_⟩;have emu:=x2.mu i hi;constructor
   ·intro hk d hd;dsimp only[bR]at hd
    cases g2:getL h2 i with
    |none=>rw[g2]at hd;cases hd
    |some ys=>
     rw[g2]at hd;dsimp only at hd
     split at hd
     ·obtain⟨ws,e2,r3⟩:=s2.ob i _ (cU g2);rw[emu]at e2;obtain⟨v,ev,rv⟩:=r3.get hd;refine⟨⟨ws,v,Bs.of e2,ev⟩,λx H' hy=>?_⟩;obtain⟨rfl,hy⟩:=hy;have:=hy ws (Bs.of e2);rw[ev]at this;cases this;exact⟨Cn.refl _,rv⟩
     ·cases hd
   ·intro hk hf;dsimp only[bR]at hf
    cases g2:getL h2 i with
    |none=>rw[g2]at hf;cases hf
    |some ys=>
     rw[g2]at hf;obtain⟨ws,e2,r3⟩:=s2.ob i _ (cU g2);rw[emu]at e2;refine⟨ws,Bs.of e2, ?_⟩;have h3:ys.length=xs.length:=by simpa using hf
     rw[r3.length,h3,hk];exact aj _
 |_=>exact o1.elim
theorem Ce.tup {μ:Nat->ah}{n:Nat}{H:Hp}{a:ah}{vs:List V}{xs:Aw}{K:ao}(e:H a=some (.tup vs)) (r:RelDL G μ n H xs vs) (hi:∀(X:Cx),True):Ce G μ n H (eK xs) (A5 K a):=by
 intro k μ2 h2 H2 x2 s2;have e2:=x2.im a (.tup vs) trivial e;have r2:=RelDL.mono x2 _ _ r;have inj:∀ws,Bp K H2 a ws->ws=vs->True:=λ_ _ _=>trivial;constructor
 ·intro hk d hd;obtain⟨v,ev,rv⟩:=r2.get hd;refine⟨⟨vs,v,Bp.of e2,ev⟩,λx H' hy=>?_⟩;obtain⟨rfl,hy⟩:=hy;have:=hy vs (Bp.of e2);rw[ev]at this;cases this;exact⟨Cn.refl _,rv⟩
 ·intro hk _;exact⟨vs,Bp.of e2,by rw[r2.length,hk];exact aj _⟩
theorem pE (he:aK X G E e me):jJ X G E tg e (aX fZ me):=λhK=>PI.imp (SA (he hK)) λσ H R ⟨μ,ρ,h,rs,s,o⟩=>eG rs s o λμ1 x h1 vx H1 x1 Bo s1 r1 o1=>by
 cases x with
 |tup xs=>obtain⟨a,vs,rfl,e1,r2⟩:=r1;exact⟨a,rfl,⟨vs,Bp.of e1⟩,o1.val s1 (Ce.tup e1 r2 λ_=>trivial)⟩
 |_=>exact o1.elim
def gA (i:Int):Bool:=decide (-4611686018427387904<=i)&&decide (i<4611686018427387904)
def bY:Aw->Hs->Rs Src
 | [.int j],h=>if gA j=true then .ok (cG 0 j) h else .bad
 |_,_=>.bad
def gM:Aw->Hs->Rs Src
 | [.int i,.int j],h=>if gA i=true/\gA j=true then .ok (cG i j) h else .bad
 |_,_=>.bad
def aO (f:Aw->Hs->Rs Src) (ms:M Aw ):M Src:=λρ h=>(ms ρ h).bind f
theorem Ce.rng {μ:Nat->ah}{n:Nat}{H:Hp}(lo hi:Int):Ce G μ n H (cG lo hi) (sP lo (hi - lo).toNat):=by
 intro k μ2 h2 H2 x2 s2;constructor
 ·intro hk d hd;cases hd;exact⟨hk,λx H' hy=>by obtain⟨rfl,rfl⟩:=hy;exact⟨Cn.refl _,rfl⟩⟩
 ·intro hk _;exact qr hk.symm
variable{ms:M Aw }
theorem jC (hg:Gl X "range") (hm:X.mg "range" = none) (ha:eF X G E [a] ms) (hs:ar [a] X.env=[(false,eval a X.env)]:=by rfl):jJ X G E tg (.Call (.Name "range" p) [a] [] pos) (aO bY ms):=λhK=>
 PI.imp (SF hg hm (ha hK) hs) λσ H R ⟨μ,ρ,h,rs,s,o⟩=>kR rs s o λμ1 ds h1 vs H1 x1 Bo s1 r1 o1=>by
  unfold bY at o1
  split at o1
  ·rename_i j
   split at o1
   ·rename_i hj;obtain⟨v,rfl,rv⟩:=tH r1;rw[Bc]at rv;subst rv;simp only[gA,fe,decide_eq_true_eq]at hj;refine⟨j,rfl,by omega,by omega, ?_⟩;have:=o1.val s1 (Ce.rng (G:=G) (μ:=μ1) (n:=h1.length) (H:=H1) 0 j);rw[Int.sub_zero]at this;exact this
   ·exact o1.elim
  ·exact o1.elim
theorem BX (hg:Gl X "range") (hm:X.mg "range" = none) (ha:eF X G E [a,b] ms) (hs:ar [a,b] X.env=[(false,eval a X.env),(false,eval b X.env)]:=by rfl) (hs2:ar [b] X.env=[(false,eval b X.env)]:=by rfl):jJ X G E tg (.Call (.Name "range" p) [a,b] [] pos) (aO gM ms):=λhK=>
 PI.imp (SG hg hm (ha hK) hs hs2) λσ H R ⟨μ,ρ,h,rs,s,o⟩=>kR rs s o λμ1 ds h1 vs H1 x1 Bo s1 r1 o1=>by
  unfold gM at o1
  split at o1
  ·rename_i i j
   split at o1
   ·rename_i hj;obtain⟨v,v',rfl,rv,rv'⟩:=tI r1;rw[Bc]at rv rv';subst rv;subst rv';simp only[gA,fe,decide_eq_true_eq]at hj;exact⟨i,j,rfl,⟨by omega,by omega,by omega,by omega⟩,o1.val s1 (Ce.rng (G:=G) (μ:=μ1) (n:=h1.length) (H:=H1) i j)⟩
   ·exact o1.elim
  ·exact o1.elim
end
def iU (src:Src) (st:dQ) (body:MS):Nat->Nat->MS
 |0,_=>λρ h=>if src.fin h=true then .nx ρ h else .bad
 |f+1,k=>λρ h=>match src.get k h with
  |none=>.bad
  |some d=>match st d ρ with
   |none=>.bad
   |some ρ1=>match body ρ1 h with
    | .nx ρ2 h2=>iU src st body f (k+1) ρ2 h2
    | .ct ρ2 h2=>iU src st body f (k+1) ρ2 h2
    | .bk ρ2 h2=>.nx ρ2 h2
    |r=>r
def cX (mi:M Src) (st:dQ) (body:MS):MS:=λρ h=>(mi ρ h).thenS λsrc h1=>iU src st body src.n 0 ρ h1
section
variable{X:Cx}{G:Cfg}{E:XK}{tg iter:bo}{body:List gz}{mi:M Src}{st:dQ}{mb:MS}{pos:Pos}
theorem kU (hp:yg (model X.prog X.w) X.A X.env X.xe) (hc:X.calm=true) (hi:jJ X G E tg iter mi) (hg:jR X G tg st) (hb:jQ X G E body mb)
  (hs:∀x,foldedSetIterable iter X.env x=pure x:=by intro _;rfl):jI X G E (.For tg iter body [] pos) (cX mi st mb):=λhK=>PS.imp (SI hp hc (hi hK) (hg hK) (hb hK) hs) λD σ H ⟨μ,ρ,h,rs,s,o⟩=>by
 refine⟨μ,ρ,h,rs,s,(o.thenS (R:=Ce G)).mono λJ H1 ⟨μ1,src,h1,x1,s1,ok,o1⟩=>?_⟩;refine⟨λi m σ H=>∃μ2 ρ2 h2,Ext μ1 h1.length H1 μ2 h2.length H/\Bf G μ2 h2.length H ρ2 σ/\Bk G μ2 h2 H/\i+m=src.n/\Bz G E μ2 h2.length H (iU src st mb m i ρ2 h2) D,⟨src.n,μ1,ρ,h1,Ext.refl,rs.mono x1,s1,zm _,o1⟩, ?_⟩
 rintro i m σ2 H2 ⟨μ2,ρ2,h2,x2,Cw,s2,him,o2⟩
 cases m with
 |zero=>
  unfold iU at o2
  split at o2
  ·rename_i hf;exact .inl ⟨(ok i μ2 h2 H2 x2 s2).2 (by omega) hf,o2 μ2 H2 σ2 Ext.refl s2 Cw⟩
  ·exact o2.elim
 |succ m=>
  unfold iU at o2
  cases q:src.get i h2 with
  |none=>rw[q]at o2;exact o2.elim
  |some d=>
   rw[q]at o2;dsimp only at o2
   cases q2:st d ρ2 with
   |none=>rw[q2]at o2;exact o2.elim
   |some ρ3=>
    rw[q2]at o2;dsimp only at o2;obtain⟨go,yl⟩:=(ok i μ2 h2 H2 x2 s2).1 (by omega) d q;refine .inr ⟨go,λσ' H'=>∃μ3 ρ4 h4,Ext μ1 h1.length H1 μ3 h4.length H'/\Bf G μ3 h4.length H' ρ4 σ'/\Bk G μ3 h4 H'/\(i+1)+m=src.n/\Bz G E μ3 h4.length H' (iU src st mb m (i+1) ρ4 h4) D,λσ' H' z=>⟨m,jm m,z⟩,λx H' hy=>?_⟩;obtain⟨sm,rx⟩:=yl x H' hy;have xs:Ext μ2 h2.length H2 μ2 h2.length H':=Ext.same sm;refine⟨μ2,ρ2,h2.length,d,ρ3,Cw.mono xs,rx,q2,λσ3 rs3=>⟨μ2,ρ3,h2,rs3,s2.same sm, ?_⟩⟩;have step:∀ρ5 h5,Bz G E μ2 h2.length H2 (iU src st mb m (i+1) ρ5 h5) D->∀μ6 H6 σ6,Ext μ2 h2.length H' μ6 h5.length H6->Bk G μ6 h5 H6->Bf G μ6 h5.length H6 ρ5 σ6->
      ∃μ3 ρ4 h4,Ext μ1 h1.length H1 μ3 h4.length H6/\Bf G μ3 h4.length H6 ρ4 σ6/\Bk G μ3 h4 H6/\(i+1)+m=src.n/\Bz G E μ3 h4.length H6 (iU src st mb m (i+1) ρ4 h4) D:=
     λρ5 h5 o5 μ6 H6 σ6 x6 s6 rs6=>⟨μ6,ρ5,h5,(x2.trans xs).trans x6,rs6,s6,by omega,o5.ext (xs.trans x6)⟩
    cases q3:mb ρ3 h2 with
    |nx ρ5 h5=>rw[q3]at o2;exact step ρ5 h5 o2
    |ct ρ5 h5=>rw[q3]at o2;exact step ρ5 h5 o2
    |bk ρ5 h5=>rw[q3]at o2;exact λμ6 H6 σ6 x6 s6 rs6=>o2 μ6 H6 σ6 (xs.trans x6) s6 rs6
    |rt d5 h5=>rw[q3]at o2;exact λμ6 H6 σ6 x6 s6 rs6=>o2 μ6 H6 σ6 (xs.trans x6) s6 rs6
    |ex d5 h5=>rw[q3]at o2;exact λμ6 H6 σ6 x6 s6 rs6=>o2 μ6 H6 σ6 (xs.trans x6) s6 rs6
    |bad=>rw[q3]at o2;exact o2.elim
end
abbrev MC:=Ev->Hs->Aw->Rs (Ev×Aw)
def aY (me:M Dv):MC:=λρ h acc=>match me ρ h with
 | .ok d h1=>if acc.length<1000000 then .ok (ρ,acc++[d]) h1 else .bad
 |_=>.bad
def eV (src:Src) (st:dQ) (test:M Bool) (inner:MC):Nat->Nat->MC
 |0,_=>λρ h acc=>if src.fin h=true then .ok (ρ,acc) h else .bad
 |f+1,k=>λρ h acc=>match src.get k h with
  |none=>.bad
  |some d=>match st d ρ with
   |none=>.bad
   |some ρ1=>match test ρ1 h with
    | .ok true h2=>match inner ρ1 h2 acc with
     | .ok r h3=>eV src st test inner f (k+1) r.1 h3 r.2
     |_=>.bad
    | .ok false h2=>eV src st test inner f (k+1) ρ1 h2 acc
    |_=>.bad
def iH (mi:M Src) (st:dQ) (test:M Bool) (inner:MC):MC:=λρ h acc=>match mi ρ h with
 | .ok src h1=>eV src st test inner src.n 0 ρ h1 acc
 |_=>.bad
def bT:M Bool:=λ_ h=>.ok true h
def iI (cap:List (Option Nat)) (ρ:Ev):Ev:=cap.map λo=>match o with
 |some j=>(ρ[j]?).getD none
 |none=>none
def bC (mi:M Src) (cap:List (Option Nat)) (st:dQ) (test:M Bool) (inner:MC):M Aw :=λρ h=>(mi ρ h).bind λsrc h1=>match eV src st test inner src.n 0 (iI cap ρ) h1 []with
 | .ok r h2=>.ok r.2 h2
 |_=>.bad
def tJ (G:Cfg) (m:MC):TC:=λσ H vs K=>∃μ ρ h xs ρ' xs' h',Bf G μ h.length H ρ σ/\Bk G μ h H/\RelDL G μ h.length H xs vs/\m ρ h xs=.ok (ρ',xs') h' /\
 ∀μ' H' σ' Cc,Ext μ h.length H μ' h'.length H'->Bk G μ' h' H'->Bf G μ' h'.length H' ρ' σ'->RelDL G μ' h'.length H' xs' Cc->K σ' H' Cc
section
variable{G:Cfg}
theorem J0 {μ:Nat->ah}{n:Nat}{H:Hp}{ρ:Ev}{σ:St}(rs:Bf G μ n H ρ σ) (cap:List (Option Nat)):Bf G μ n H (iI cap ρ) (qP cap σ):=⟨by simp[iI,qP],λi d e=>by
 unfold iI at e;rw[dk]at e
 cases q:cap[i]? with
 |none=>rw[q]at e;cases e
 |some o=>
  rw[q]at e
  cases o with
  |none=>cases e
  |some j=>
   have e':(ρ[j]?).getD none=some d:=by simpa using e
   have e2:ρ[j]?=some (some d):=by
    cases z:ρ[j]? with
    |none=>rw[z]at e';cases e'
    |some y=>rw[z]at e';simp at e';rw[e']
   obtain⟨v,e3,r⟩:=rs.at_ j d e2;refine⟨v, ?_,r⟩;unfold qP;rw[dk,q];simp[e3]⟩
theorem BY {E:XK}{me:M Dv}{σ:St}{H:Hp}{vs:List V}{K:St->Hp->List V->Prop}(t:tJ G (aY me) σ H vs K):wU (iO G E me) σ H vs K:=by
 obtain⟨μ,ρ,h,xs,ρ',xs',h',rs,s,r,e,k⟩:=t;refine⟨μ,ρ,h,rs,s, ?_⟩;unfold aY at e
 cases q:me ρ h with
 |bad=>rw[q]at e;cases e
 |ex c h1=>rw[q]at e;cases e
 |ok d h1=>
  rw[q]at e;dsimp only at e
  split at e
  ·rename_i hl;cases e;intro μ1 H1 v x1 s1 r1;refine⟨?_,k μ1 H1 σ _ x1 s1 (rs.mono x1) ((RelDL.mono x1 _ _ r).append (RelDL.cons r1 RelDL.nil))⟩;rw[r.length];exact av hl (by decide)
  ·cases e
theorem J1 {E:XK}{src:Src}{st:dQ}{test:M Bool}{inner:MC}{J:It}{μ1:Nat->ah}{h1:Hs}{H1:Hp}{ρ ρ':Ev}{σ:St}{xs xs':Aw}{vs:List V}{h':Hs}{K:St->Hp->List V->Prop}
  (ok:Ce G μ1 h1.length H1 src J) (rs:Bf G μ1 h1.length H1 ρ σ) (s1:Bk G μ1 h1 H1) (r:RelDL G μ1 h1.length H1 xs vs) (e:eV src st test inner src.n 0 ρ h1 xs=.ok (ρ',xs') h')
  (k:∀μ' H' σ' Cc,Ext μ1 h1.length H1 μ' h'.length H'->Bk G μ' h' H'->Bf G μ' h'.length H' ρ' σ'->RelDL G μ' h'.length H' xs' Cc->K σ' H' Cc):
  qQ J (rB G st) (iY G E test) (tJ G inner) K σ H1 vs:=by
 refine⟨λi m σ H vs=>∃μ2 ρ2 h2 xs2,Ext μ1 h1.length H1 μ2 h2.length H/\Bf G μ2 h2.length H ρ2 σ/\Bk G μ2 h2 H/\RelDL G μ2 h2.length H xs2 vs/\i+m=src.n/\eV src st test inner m i ρ2 h2 xs2=.ok (ρ',xs') h',⟨src.n,μ1,ρ,h1,xs,Ext.refl,rs,s1,r,zm _,e⟩, ?_⟩
 rintro i m σ2 H2 Ex ⟨μ2,ρ2,h2,xs2,x2,Cw,s2,r2,him,e2⟩
 cases m with
 |zero=>
  unfold eV at e2
  split at e2
  ·rename_i hf;cases e2;exact .inl ⟨(ok i μ2 _ H2 x2 s2).2 (by omega) hf,k μ2 H2 σ2 Ex x2 s2 Cw r2⟩
  ·cases e2
 |succ m=>
  unfold eV at e2
  cases q:src.get i h2 with
  |none=>rw[q]at e2;cases e2
  |some d=>
   rw[q]at e2;dsimp only at e2
   cases q2:st d ρ2 with
   |none=>rw[q2]at e2;cases e2
   |some ρ3=>
    rw[q2]at e2;dsimp only at e2;obtain⟨go,yl⟩:=(ok i μ2 h2 H2 x2 s2).1 (by omega) d q;refine .inr ⟨go,λσ' H' Cc=>∃μ3 ρ4 h4 xs4,Ext μ1 h1.length H1 μ3 h4.length H'/\Bf G μ3 h4.length H' ρ4 σ'/\Bk G μ3 h4 H'/\RelDL G μ3 h4.length H' xs4 Cc/\(i+1)+m=src.n/\eV src st test inner m (i+1) ρ4 h4 xs4=.ok (ρ',xs') h',
     λσ' H' Cc z=>⟨m,jm m,z⟩,λx H' hy=>?_⟩
    obtain⟨sm,rx⟩:=yl x H' hy;have xsm:Ext μ2 h2.length H2 μ2 h2.length H':=Ext.same sm;refine⟨μ2,ρ2,h2.length,d,ρ3,Cw.mono xsm,rx,q2,λσ3 rs3=>⟨μ2,ρ3,h2,rs3,s2.same sm, ?_⟩⟩
    cases q3:test ρ3 h2 with
    |bad=>rw[q3]at e2;cases e2
    |ex c h3=>rw[q3]at e2;cases e2
    |ok b h3=>
     rw[q3]at e2;intro μ4 H4 b' x4 s4 rb;have eb:b'=b:=rb;subst eb
     cases b' with
     |false=>rw[if_neg (by decide)];exact⟨μ4,ρ3,h3,xs2,(x2.trans xsm).trans x4,rs3.mono x4,s4,RelDL.mono (xsm.trans x4) _ _ r2,by omega,e2⟩
     |true=>
      rw[if_pos rfl];dsimp only at e2
      cases q4:inner ρ3 h3 xs2 with
      |bad=>rw[q4]at e2;cases e2
      |ex c h5=>rw[q4]at e2;cases e2
      |ok rr h5=>rw[q4]at e2;obtain⟨ρ5,xs5⟩:=rr;exact⟨μ4,ρ3,h3,xs2,ρ5,xs5,h5,rs3.mono x4,s4,RelDL.mono (xsm.trans x4) _ _ r2,q4,λμ6 H6 σ6 vs6 x6 s6 rs6 r6=>⟨μ6,ρ5,h5,xs5,((x2.trans xsm).trans x4).trans x6,rs6,s6,r6,by omega,e2⟩⟩
theorem J2 {E:XK}{mi:M Src}{st:dQ}{test:M Bool}{inner:MC}{σ:St}{H:Hp}{vs:List V}{K:St->Hp->List V->Prop}(t:tJ G (iH mi st test inner) σ H vs K):IX (BW G E mi) (rB G st) (iY G E test) (tJ G inner) σ H vs K:=by
 obtain⟨μ,ρ,h,xs,ρ',xs',h',rs,s,r,e,k⟩:=t;refine⟨μ,ρ,h,rs,s, ?_⟩;unfold iH at e
 cases q:mi ρ h with
 |bad=>rw[q]at e;cases e
 |ex c h1=>rw[q]at e;cases e
 |ok src h1=>rw[q]at e;exact λμ1 H1 J x1 s1 ok=>J1 ok (rs.mono x1) s1 (RelDL.mono x1 _ _ r) e λμ2 H2 σ2 Ex x2=>k μ2 H2 σ2 Ex (x1.trans x2)
def RL (G:Cfg):(Nat->ah)->Nat->Hp->Aw->V->Prop:=λμ n H xs v=>∃p vs,v=.ref p/\H p=some (.lst vs)/\(∀i,i<n->μ i≠p)/\RelDL G μ n H xs vs
def xH (G:Cfg) (E:XK) (m:M Aw ):TE:=λσ H Q=>∃μ ρ h,Bf G μ h.length H ρ σ/\Bk G μ h H/\Out G E μ h.length H (m ρ h) (RL G) Q
def nE (X:Cx) (G:Cfg) (E:XK) (pe:bo) (m:M Aw ):Prop:=X.K=G.K->PE X pe (xH G E m)
theorem Bk.adopt {μ:Nat->ah}{h:Hs}{H:Hp}{p:ah}{ds:Aw}{vs:List V}(s:Bk G μ h H) (e:H p=some (.lst vs)) (hq:∀i,i<h.length->μ i≠p) (r:RelDL G μ h.length H ds vs):
  Ext μ h.length H (λi=>if i=h.length then p else μ i) (h++[Ob.lst ds]).length H/\Bk G (λi=>if i=h.length then p else μ i) (h++[.lst ds]) H:=by
 have hl:(h++[Ob.lst ds]).length=h.length+1:=by simp
 have x:Ext μ h.length H (λi=>if i=h.length then p else μ i) (h++[Ob.lst ds]).length H:=⟨by omega,λi hi=>if_neg (az hi),λa o _ e=>e⟩
 refine⟨x,λi j hi hj e=>?_,λi o q=>?_,s.tab⟩
 ·rw[hl]at hi hj
  by_cases h1:i=h.length <;> by_cases h2:j=h.length
  ·omega
  ·rw[if_pos h1,if_neg h2]at e;exact absurd e.symm (hq j (by omega))
  ·rw[if_neg h1,if_pos h2]at e;exact absurd e (hq i (by omega))
  ·rw[if_neg h1,if_neg h2]at e;exact s.inj i j (by omega) (by omega) e
 ·by_cases h1:i<h.length
  ·rw[ff h1]at q;have r1:=s.ob i o q
   cases o with
   |lst xs=>obtain⟨ws,e1,r2⟩:=r1;exact⟨ws,by rw[if_neg (az h1)];exact e1,RelDL.mono x _ _ r2⟩
   |clo k t=>rw[if_neg (az h1)];exact r1.clo x
  ·rw[fv (by omega)]at q;have h2:i=h.length:=by have:=(ax.mp q).1;simp at this;omega
   subst h2;simp at q;subst q;exact⟨vs,by rw[if_pos rfl];exact e,RelDL.mono x _ _ r⟩
def aZ (m:M Aw ):M Dv:=λρ h=>(m ρ h).bind λxs h1=>.ok (.ref h1.length) (h1++[.lst xs])
theorem J3 {E:XK}{m:M Aw }{σ:St}{H:Hp}{Q:VK}(t:iO G E (aZ m) σ H Q):xH G E m σ H Q:=by obtain⟨μ,ρ,h,rs,s,o⟩:=t;refine⟨μ,ρ,h,rs,s,(o.bind (R1:=RL G)).mono λv H1 ⟨μ1,xs,h1,x1,s1,⟨p,vs,ev,e1,hq,r1⟩,o1⟩=>?_⟩;subst ev;obtain⟨x2,s2⟩:=s1.adopt e1 hq r1;exact o1 _ _ _ x2 s2 ⟨by simp,by show V.ref p=V.ref (if h1.length=h1.length then p else μ1 h1.length);rw[if_pos rfl]⟩
theorem gB {X:Cx}{E:XK}{pe:bo}{m:M Aw }(h:nE X G E pe m):aK X G E pe (aZ m):=λhK=>PE.imp (h hK) λ_ _ _ t=>J3 t
theorem BZ {E E':XK}{mi:M Src}{cap:List (Option Nat)}{st:dQ}{test:M Bool}{inner:MC}{σ:St}{H:Hp}{Q:VK}(t:xH G E (bC mi cap st test inner) σ H Q):wW (BW G E mi) cap (rB G st) (iY G E' test) (tJ G inner) σ H Q:=by
 obtain⟨μ,ρ,h,rs,s,o⟩:=t;refine⟨μ,ρ,h,rs,s,(o.bind (R1:=Ce G)).mono λJ H1 ⟨μ1,src,h1,x1,s1,ok,o1⟩=>?_⟩
 cases q:eV src st test inner src.n 0 (iI cap ρ) h1 []with
 |bad=>rw[q]at o1;exact o1.elim
 |ex c h2=>rw[q]at o1;exact o1.elim
 |ok r h2=>rw[q]at o1;obtain⟨ρ',xs'⟩:=r;refine J1 ok (J0 (rs.mono x1) cap) s1 RelDL.nil q λμ2 H2 σ2 Ex x2 s2 Cw r2 p hp=>?_;exact o1 μ2 _ _ (x2.trans (Ext.same (cZ hp))) (s2.same (cZ hp)) ⟨p,Ex,rfl,dF,s2.not hp,RelDL.mono (Ext.same (cZ hp)) _ _ r2⟩
end
section
variable{X:Cx}{G:Cfg}{E:XK}{elt tg iter De Bm:bo}{ifs By:List bo}{sc:gh}{ps pos:Pos}{mi mi':M Src}{st Dp:dQ}{test Ds:M Bool}{me:M Dv}{N:Au}{cap:List (Option Nat)}
def pF (X:Cx) (G:Cfg) (ifs:List bo) (m:M Bool):Prop:=X.K=G.K->PTs X ifs (iY G E0 m)
theorem PTs.imp {Y:Cx}{ifs:List bo}{t t':TT}(h:PTs Y ifs t) (i:∀σ H Q,t' σ H Q->t σ H Q):PTs Y ifs t':=λpins s σ H Q I q=>h pins s σ H Q I (i σ H Q q)
theorem gN {Y:Cx}:pF Y G [] bT:=λ_=>PTs.imp IQ λσ H Q ⟨μ,ρ,h,rs,s,o⟩=>o.val s rfl
theorem kA {Y:Cx}{c:bo}{m:M Bool}(h:gW Y G E0 c m):pF Y G [c] m:=λhK=>VI (h hK)
theorem Eu.imp {Y:Cx}{D:ah}{m:Sem Unit}{t t':TC}(h:Eu Y D m t) (i:∀σ H xs K,t' σ H xs K->t σ H xs K):Eu Y D m t':=λpins s σ H xs K I a f q=>h pins s σ H xs K I a f (i σ H xs K q)
theorem fF (hc:X.calm=true) (C:Bu X sc N cap) (hi:jJ X G E tg iter mi) (hg:∀s H ex,jR (bZ X sc N s H ex) G tg st) (Ei:∀s H ex,pF (bZ X sc N s H ex) G ifs test) (hel:∀s H ex,aK (bZ X sc N s H ex) G E0 elt me)
  (hs:∀x,foldedSetIterable iter X.env x=pure x:=by intro _;rfl):nE X G E (.ListComp elt [⟨tg,iter,ifs,0⟩] sc ps) (bC mi cap st test (aY me)):=λhK=>
 PE.imp (IZ hc C rfl (λit D env=>IT elt tg iter ifs sc ps (.ref it) D env) (hi hK) (λs H ex=>hg s H ex hK) (λs H ex=>Ei s H ex hK) (λs H ex D=>Eu.imp (wV (hel s H ex hK)) λ_ _ _ _ t=>BY t) hs) λ_ _ _ t=>BZ t
theorem J4 (hc:X.calm=true) (C:Bu X sc N cap) (hi:jJ X G E tg iter mi) (hg:∀s H ex,jR (bZ X sc N s H ex) G tg st) (Ei:∀s H ex,pF (bZ X sc N s H ex) G ifs test)
  (hi':∀s H ex,jJ (bZ X sc N s H ex) G E0 De Bm mi') (Em:∀s H ex,jR (bZ X sc N s H ex) G De Dp) (htt':∀s H ex,pF (bZ X sc N s H ex) G By Ds) (hel:∀s H ex,aK (bZ X sc N s H ex) G E0 elt me)
  (hs:∀x,foldedSetIterable iter X.env x=pure x:=by intro _;rfl) (hs':∀s H ex x,foldedSetIterable Bm (bZ X sc N s H ex).env x=pure x:=by intro _ _ _ _;rfl):
  nE X G E (.ListComp elt [⟨tg,iter,ifs,0⟩,⟨De,Bm,By,0⟩] sc ps) (bC mi cap st test (iH mi' Dp Ds (aY me))):=λhK=>
 PE.imp (IZ hc C rfl (inner:=λD env=>qR Bm (.ListComp elt [⟨tg,iter,ifs,0⟩,⟨De,Bm,By,0⟩] sc ps) 1 D env) (λit D env=>IU elt tg iter De Bm ifs By sc ps (.ref it) D env) (hi hK) (λs H ex=>hg s H ex hK) (λs H ex=>Ei s H ex hK)
  (λs H ex D=>Eu.imp (IY (X:=bZ X sc N s H ex) (D:=D) (gens:=[⟨tg,iter,ifs,0⟩,⟨De,Bm,By,0⟩]) (d:=1) rfl hc rfl (λit=>IV elt tg iter De Bm ifs By sc ps (.ref it) D _) (hi' s H ex hK) (Em s H ex hK) (htt' s H ex hK) (Eu.imp (wV (hel s H ex hK)) λ_ _ _ _ t=>BY t) (hs' s H ex)) λ_ _ _ _ t=>J2 t) hs) λ_ _ _ t=>BZ t
end
def eM (T:ah) (h:cx):Prop:=∃oT ts,h.get? T=some oT/\oT.data=.fields ts/\ts[3]?=some .none
structure Chg (fs:List ah) (e T:ah) (h h':cx):Prop where
 new:h.objs.size<=T
 keep:∀b o,b≠e->b∉fs->h.get? b=some o->h'.get? b=some o
 slot:∀b o,b≠e->h.get? b=some o->∃sl,h'.get? b=some { o with slots:=sl }
 tb:eM T h'
theorem WE (f:Array af->Array af) (o:Obj):(Obj.mapFields f o).dict=o.dict:=by
 unfold Obj.mapFields
 split <;> rfl
section
variable{M:yr}{A:cm}{E:af->ag->Prop}{s:ag}
theorem CA {a:ah}{o:Obj}{vs:Array af}{i:Nat}{v:af}{Q:Unit->ag->Prop}(e:s.heap.get? a=some o) (hd:o.data=.fields vs) (hi:i<vs.size)
  (k:∀h' o',jf a s.heap h'->h'.get? a=some o'->o'.cls=o.cls->o'.dict=o.dict->o'.data=.fields (vs.setIfInBounds i v)->Q () { s with heap:=h' }):wpAny M A (setField (.ref a) i v) Q E s:=
 have d':=vv hd (·.setIfInBounds i v)
 zo e hd hi (k _ _ (ow ..) (ka _ e (zy d')) (Obj.cls_mapFields ..) (WE ..) d')
theorem WG {head v:af}{L:Int}{pl:List af}{Q:af->ag->Prop}(Cj:IsPlace pl) (k:∀ob ts,ob.data=.fields ts->3<ts.size->ob.isFreed=false->Q (.ref s.heap.objs.size) { s with heap:=s.heap.push ob }):
  wpAny M A (yk head v .none (rawInt L) .none pl) Q E s:=
 fz (k _ _ rfl (by simp only[aw,bw,cy,qf];omega) rfl) (Cj.sizeOk5 ..)
theorem J5 {e T:ah}{oe oT:Obj}{vs ts:Array af}{Q:Unit->ag->Prop}(he:s.heap.get? e=some oe) (hd:oe.data=.fields vs) (h1:vs[1]?=some (.ref T)) (hT:s.heap.get? T=some oT) (hdT:oT.data=.fields ts) (hs:3<ts.size)
  (k:∀h',jf T s.heap h'->eM T h'->Q () { s with heap:=h' }):wpAny M A (setFlight (.ref e) none) Q E s:=by
 refine ae (gm he hd h1 ?_);show wpAny M A (if(ja T != jy)=true then _ else _) Q E s;rw[if_pos (by simp)];exact CA hT hdT hs λh' o' sb g _ _ d=>k h' sb ⟨o',_,g,d,by rw[jk hs];rfl⟩
theorem J6 {base:cx}{l:List Env}{a:ah}{o:Obj}{vs:Array af}(hl:s.heap.FunFrames base l) (e:s.heap.get? a=some o) (hd:o.data=.fields vs):a∉dZ l:=λhm=>by obtain⟨_,o',e',nf⟩:=hl.mem hm;rw[e]at e';cases e';exact nf vs hd
theorem J7 {base:cx}{env:Env}{outer:List Env}{L e:ah}{oe:Obj}{vs:Array af}{head a0:af}{nx:Bool}{Q:Unit->ag->Prop}(hfr:A.frames=some (env::outer)) (hl:s.heap.FunFrames base (env::outer)) (hf:env.frame=some L)
  (he:s.heap.get? e=some oe) (hd:oe.data=.fields vs) (hdn:oe.dict=none) (Cf:1<vs.size) (h0:vs[0]?=some a0)
  (k:∀h' T,Chg (dZ (env::outer)) e T s.heap h'->eC oe.cls e T a0 h'->Q () { s with heap:=h' }):
  wpAny M A (do let a <-frameOf env;let pl <-entryPlaceOf L nx;let b <-yk head a .none (rawInt L) .none pl;setField (.ref e) 1 b)
   (λ_ s'=>wpAny M A (setFlight (.ref e) none) Q E s') E s:=by
 have ne:=J6 hl he hd;refine ae (wpAny_frameOf_fun hfr hl hf λg1 so=>ae (wpAny_entryPlaceOf λpl Cj=>ae (WG Cj λob ts dt hts nf=>?_)));have e1:g1.get? e=some oe:=(so.2.1 e ne).trans he;have lt:e<g1.objs.size:=aq e1;refine CA (s:={ s with heap:=g1.push ob }) (ak _ e1) hd Cf λg2 oe2 sb2 ge c2 dn2 d2=>?_;have gT:g2.get? g1.objs.size=some ob:=sb2.extBut _ _ (jn lt) (bc _ nf);refine J5 (s:={ s with heap:=g2 }) ge d2 (T:=g1.objs.size) (by rw[jk Cf]) gT dt hts λg3 sb3 tb=>?_;have kp:∀b o,b≠e->g1.get? b=some o->g3.get? b=some o:=λb o hb q=>sb3.extBut _ _ (az (aq q)) (sb2.extBut _ _ hb (ak _ q));refine k g3 g1.objs.size ⟨qr so.1.symm,λb o hb hn q=>kp b o hb ((so.2.1 b hn).trans q),λb o hb q=>?_,tb⟩ ⟨oe2,_,sb3.extBut _ _ (az lt) ge,c2,d2, ?_, ?_,dn2.trans hdn⟩
 ·obtain⟨sl,q'⟩:=so.2.2 b o q;exact⟨sl,kp b _ hb q'⟩
 ·rw[Array.getElem?_setIfInBounds_ne (by decide)];exact h0
 ·rw[jk Cf]
theorem WH {base:cx}{env:Env}{outer:List Env}{L e:ah}{oe:Obj}{vs:Array af}{a0:af}{Q:Unit->ag->Prop}(hfr:A.frames=some (env::outer)) (hl:s.heap.FunFrames base (env::outer)) (hf:env.frame=some L)
  (he:s.heap.get? e=some oe) (hd:oe.data=.fields vs) (hdn:oe.dict=none) (h0:vs[0]?=some a0) (h1:vs[1]?=some .none)
  (k:∀h' T,Chg (dZ (env::outer)) e T s.heap h'->eC oe.cls e T a0 h'->Q () { s with heap:=h' }):
  wpAny M A (noteFrame (.ref e) env) (λ_ s'=>wpAny M A (setFlight (.ref e) none) Q E s') E s:=by
 unfold noteFrame;rw[hf];refine ae (gm he hd h1 ?_);exact J7 hfr hl hf he hd hdn (du.mp h1).1 h0 k
theorem WI {base:cx}{env:Env}{outer:List Env}{L e T:ah}{C a0:af}{Q:Unit->ag->Prop}(hfr:A.frames=some (env::outer)) (hl:s.heap.FunFrames base (env::outer)) (hf:env.frame=some L)
  (hx:eC C e T a0 s.heap) (ht:eM T s.heap) (hne:T≠e)
  (k:∀h' T',s.heap.objs.size<=T'->(∀b o,b≠e->b≠T->b∉dZ (env::outer)->s.heap.get? b=some o->h'.get? b=some o)->(∀b o,b≠e->b≠T->s.heap.get? b=some o->∃sl,h'.get? b=some { o with slots:=sl })->
   eC C e T' a0 h'->eM T h'->eM T' h'->Q () { s with heap:=h' }):
  wpAny M A (noteFrame (.ref e) env) (λ_ s'=>wpAny M A (setFlight (.ref e) none) Q E s') E s:=by
 obtain⟨oe,vs,he,rfl,hd,h0,h1,hdn⟩:=hx;obtain⟨oT,ts,hT,hdT,h3⟩:=ht;have l3:3<ts.size:=(du.mp h3).1;have nT:=J6 hl hT hdT;unfold noteFrame;rw[hf];refine ae (gm he hd h1 ?_);rw[if_pos (by simp)];refine ae (gm hT hdT h3 ?_);rw[if_neg (by simp[rawInt])];refine ae (CA hT hdT l3 λg o' sb gT _ _ dT=>?_);have hl':g.FunFrames base (env::outer):=hl.of_keeps λb o q nf=>⟨o,sb.extBut _ _ (λz=>by subst z;rw[hT]at q;cases q;exact nf ts hdT) q,rfl⟩
 refine J7 (s:={ s with heap:=g }) hfr hl' hf (sb.extBut _ _ (dh hne) he) hd hdn (du.mp h1).1 h0 λh' T' c x=>?_;refine k h' T' (by rw[<-sb.1];exact c.new) (λb o n1 n2 n3 q=>c.keep b o n1 n3 (sb.extBut _ _ n2 q)) (λb o n1 n2 q=>c.slot b o n1 (sb.extBut _ _ n2 q)) x ⟨_,_,c.keep T _ hne nT gT,dT, ?_⟩ c.tb;rw[jk l3]
end
theorem CB {P:bj}{w:cq}{H:Hp}{h:cx}{a:ah}{o:HO}(x:Bh P w H h a o):∃ob,h.get? a=some ob:=by
 cases o with
 |lst xs=>obtain⟨_,_,_,_,e⟩:=x;exact⟨_,e⟩
 |tup xs=>obtain⟨_,_,_,ob,e,_⟩:=x;exact⟨_,e⟩
 |dK kvs=>obtain⟨_,_,_,_,o,_,_,e,_⟩:=x;exact⟨_,e⟩
 |dT kvs=>obtain⟨_,_,_,_,o,_,_,e,_⟩:=x;exact⟨_,e⟩
 |set S n=>obtain⟨o,_,_,_,e,_⟩:=x;exact⟨_,e⟩
 |ins C dx fs=>obtain⟨_,_,_,e,_⟩:=x;exact⟨_,e⟩
 |own y=>exact x
 |xd fs=>obtain⟨_,⟨_,_,_,e,_⟩,_⟩:=x;exact⟨_,e⟩
 |rng lo hi=>obtain⟨_,_,_,e⟩:=x;exact⟨_,e⟩
 |frz ob u=>obtain⟨e,_⟩:=x;exact⟨_,e⟩
 |tbl ps=>exact⟨_,(show h.get? a=some _ from x)⟩
 |met f y=>exact⟨_,(show h.get? a=some _ from x)⟩
 |ext φ=>obtain⟨_,e,_⟩:=x;exact e
def xI (base:cx) (H:Hp) (C:af) (e:ah):Prop:=∃T a0,H e=some (.ext (eC C e T a0))/\H T=some (.ext (eM T))/\base.get? e=none/\T≠e
def tK (e:ah) (H H':Hp):Prop:=∀b o,b≠e->H b=some o->H' b=some o
theorem WJ {C a0:af}{e T:ah}{h1 h2:cx}(x:eC C e T a0 h1) (k:∀o,h1.get? e=some o->h2.get? e=some o):eC C e T a0 h2:=by obtain⟨oe,vs,he,r⟩:=x;exact⟨oe,vs,k oe he,r⟩
theorem WK {T:ah}{h1 h2:cx}(x:eM T h1) (k:∀o,h1.get? T=some o->h2.get? T=some o):eM T h2:=by obtain⟨oe,vs,he,r⟩:=x;exact⟨oe,vs,k oe he,r⟩
theorem J8 {P:bj}{w:cq}{H:Hp}{h:cx}{C a0:af}{e T:ah}(x:eC C e T a0 h):Bh P w H h e (.ext (eC C e T a0)):=⟨x,(let ⟨oe,_,he,_⟩:=x;⟨oe,he⟩),λ_ _ y k=>WJ y k⟩
theorem xJ {P:bj}{w:cq}{H:Hp}{h:cx}{T:ah}(x:eM T h):Bh P w H h T (.ext (eM T)):=⟨x,(let ⟨oe,_,he,_⟩:=x;⟨oe,he⟩),λ_ _ y k=>WK y k⟩
section
variable{P:bj}{w:cq}{M:yr}{A:cm}{E:af->ag->Prop}{s:ag}{H:Hp}{base:cx}{env:Env}{outer:List Env}{L e:ah}{C:af}
theorem CC {Q:Unit->ag->Prop}(hfr:A.frames=some (env::outer)) (hl:s.heap.FunFrames base (env::outer)) (hf:env.frame=some L) (hok:Ci P w H s.heap) (hfree:∀b∈dZ (env::outer),H b=none) (fl:xI base H C e)
  (k:∀h' H',Un (dZ (env::outer)) [] H H' s.heap h'->Ci P w H' h'->xI base H' C e->tK e H H'->Q () { s with heap:=h' }):
  wpAny M A (noteFrame (.ref e) env) (λ_ s'=>wpAny M A (setFlight (.ref e) none) Q E s') E s:=by
 obtain⟨T,a0,he,hT,hb,hne⟩:=fl;have xe:eC C e T a0 s.heap:=(show Bh P w H s.heap e _ from hok e _ he).1;have xt:eM T s.heap:=(show Bh P w H s.heap T _ from hok T _ hT).1;refine WI hfr hl hf xe xt hne λh' T' Ea keep slot x' t0 t'=>?_;have nT':H T'=none:=hok.fresh Ea;have eT':T'≠e:=(fW he nT').symm;have TT':T'≠T:=(fW hT nT').symm;have sx:tK e H (aT (aT H e (.ext (eC C e T' a0))) T' (.ext (eM T'))):=λb o hbe q=>by rw[bW (fW q nT'),bW hbe];exact q
 have ee:aT (aT H e (.ext (eC C e T' a0))) T' (.ext (eM T')) e=some (.ext (eC C e T' a0)):=by rw[bW (dh eT'),dF]
 refine k h' (aT (aT H e (.ext (eC C e T' a0))) T' (.ext (eM T'))) ?_ ?_ ⟨T',a0,ee,dF,hb,eT'⟩ sx
 ·have free:∀b o,s.heap.get? b=some o->H b=none->aT (aT H e (.ext (eC C e T' a0))) T' (.ext (eM T')) b=none:=λb o q n=>by have h1:b≠T':=az (av (aq q) Ea);have h2:b≠e:=(fW he n).symm;rw[bW h1,bW h2];exact n
  refine⟨λb o q n hb _=>keep b o (fW he n).symm (fW hT n).symm hb q,λb o q n _ _=>slot b o (fW he n).symm (fW hT n).symm q,λb o q n _=>free b o q n,λb o q _=>?_,λb xs q=>?_,λb o u q=>?_,λb ps q=>?_⟩
  ·by_cases h1:b=e
   ·subst h1;obtain⟨oe,_,z,_⟩:=x';exact⟨oe,z⟩
   ·by_cases h2:b=T
    ·subst h2;obtain⟨oe,_,z,_⟩:=t0;exact⟨oe,z⟩
    ·obtain⟨sl,z⟩:=slot b o h1 h2 q;exact⟨_,z⟩
  ·exact sx b _ (nV q he (by intro z;cases z)) q
  ·exact sx b _ (nV q he (by intro z;cases z)) q
  ·exact⟨#[],by rw[sx b _ (nV q he (by intro z;cases z)) q];simp⟩
 ·intro a o q
  by_cases h1:a=T'
  ·subst h1;rw[dF]at q;cases q;exact xJ t'
  ·rw[bW h1]at q
   by_cases h2:a=e
   ·subst h2;rw[dF]at q;cases q;exact J8 x'
   ·rw[bW h2]at q
    by_cases h3:a=T
    ·subst h3;rw[hT]at q;cases q;exact xJ t0
    ·have nf:a∉dZ (env::outer):=λz=>by rw[hfree a z]at q;cases q
     refine(hok a o q).stay (λb u hb z=>?_) (λb z=>sx b _ (nV z he (by intro y;cases y)) z) λb xs z=>sx b _ (nV z he (by intro y;cases y)) z
     rcases hb with rfl|hb
     ·exact keep b u h2 h3 nf z
     ·exact keep b u (nV hb he (by intro y;cases y)) (nV hb hT (by intro y;cases y)) (λy=>by rw[hfree b y]at hb;cases hb) z
theorem J9 {Q:Unit->ag->Prop}{h0:cx}{args:List af}(hfr:A.frames=some (env::outer)) (hl:h0.FunFrames base (env::outer)) (hf:env.frame=some L) (hok:Ci P w H h0) (hfree:∀b∈dZ (env::outer),H b=none) (hsb:∀b o,base.get? b=some o->h0.get? b=some o)
  (mx:Heap.MadeExcOf h0 s.heap e C args)
  (k:∀h' H',Un (dZ (env::outer)) [] H H' h0 h'->Ci P w H' h'->xI base H' C e->Cn H H'->Q () { s with heap:=h' }):
  wpAny M A (noteFrame (.ref e) env) (λ_ s'=>wpAny M A (setFlight (.ref e) none) Q E s') E s:=by
 obtain⟨t,he,hnt,ht⟩:=mx.there;have hbn:base.get? e=none:=by
  cases q:base.get? e with
  |none=>rfl
  |some o=>have:=hsb e o q;rw[mx.new]at this;cases this
 have nH:H e=none:=by
  cases q:H e with
  |none=>rfl
  |some o=>
   have z:∀a o,H a=some o->h0.get? a≠none:=λa o q n=>by
    have lt:=hok.lt q;have:=(hok a o q)
    have ex:∃ob,h0.get? a=some ob:=CB this;obtain⟨ob,eo⟩:=ex;rw[n]at eo;cases eo
   exact absurd mx.new (z e o q)
 have hl1:s.heap.FunFrames base (env::outer):=hl.of_keeps λb o hb _=>⟨o,mx.keeps b o hb,rfl⟩
 refine WH hfr hl1 hf he rfl rfl (a0:=.ref t) rfl rfl λh' T c x=>?_;have ne_e:∀b o,h0.get? b=some o->b≠e:=λb o q z=>by subst z;rw[mx.new]at q;cases q
 have lt0:∀b o,h0.get? b=some o->b<T:=λb o q=>av (aq (mx.keeps b o q)) c.new;have nT:H T=none:=by
  cases q:H T with
  |none=>rfl
  |some o=>obtain⟨ob,eo⟩:=CB (hok T o q);exact absurd (lt0 T ob eo) (ij _)
 have eT:T≠e:=jn (av (aq he) c.new);have sm:Cn H (aT (aT H e (.ext (eC C e T (.ref t)))) T (.ext (eM T))):=λb o q=>by rw[bW (fW q nT),bW (fW q nH)];exact q
 refine k h' (aT (aT H e (.ext (eC C e T (.ref t)))) T (.ext (eM T))) ?_ ?_ ⟨T,.ref t,by rw[bW (dh eT),dF],dF,hbn,eT⟩ sm
 ·refine⟨λb o q n hb _=>c.keep b o (ne_e b o q) hb (mx.keeps b o q),λb o q n _ _=>c.slot b o (ne_e b o q) (mx.keeps b o q),λb o q n _=>?_,λb o q _=>?_,λb xs q=>sm b _ q,λb o u q=>sm b _ q,λb ps q=>⟨#[],by rw[sm b _ q];simp⟩⟩
  ·rw[bW (az (lt0 b o q)),bW (ne_e b o q)];exact n
  ·obtain⟨sl,z⟩:=c.slot b o (ne_e b o q) (mx.keeps b o q);exact⟨_,z⟩
 ·intro a o q
  by_cases h1:a=T
  ·subst h1;rw[dF]at q;cases q;exact xJ c.tb
  ·rw[bW h1]at q
   by_cases h2:a=e
   ·subst h2;rw[dF]at q;cases q;exact J8 x
   ·rw[bW h2]at q;have nf:a∉dZ (env::outer):=λz=>by rw[hfree a z]at q;cases q
    refine(hok a o q).stay (λb u hb z=>?_) (λb z=>sm b _ z) λb xs z=>sm b _ z
    rcases hb with rfl|hb
    ·exact c.keep b u (ne_e b u z) nf (mx.keeps b u z)
    ·exact c.keep b u (ne_e b u z) (λy=>by rw[hfree b y]at hb;cases hb) (mx.keeps b u z)
end
def bI (P:bj) (w:cq) (base:cx):mY:=λouter H s E u s'=>∃e C H',u=.ref e/\s'.os=s.os/\ue s'.gens/\Un (dZ outer) [] H H' s.heap s'.heap/\Ci P w H' s'.heap/\xI base H' C e/\E u none H'
def WL (X:Cx) (E:XK):Prop:=∀(pins:List (ah×Obj)) (σ:St) (H:Hp) (s:ag) (h':cx) (e:ah) (C:af) (args:List af),Inv X pins σ H s->Heap.MadeExcOf s.heap h' e C args->
 (∀H',Cn H H'->(∃T a0,H' e=some (.ext (eC C e T a0)))->E (.ref e) none H')->X.xe (.ref e) { s with heap:=h' }
structure Good (X:Cx) (G:Cfg) (E:XK) (k:Nat):Prop where
 calm:X.calm=true
 room:Bt k X.A
 K:X.K=G.K
 pas:A9 (bI X.prog X.w X.base) X E
 own:yg (model X.prog X.w) X.A X.env X.xe
 rais:WL X E
def CD (E:XK):Prop:=∀e H H',tK e H H'->(∃C T a0 T' a0',H e=some (.ext (eC C e T a0))/\(∃h,eC C e T a0 h)/\H' e=some (.ext (eC C e T' a0')))->E (.ref e) none H->E (.ref e) none H'
section
variable{P:bj}{w:cq}{K:ao}{mg:Str->Option af}{base:cx}{N:Au}{qual:Str}{scope:gh}{f:ah}{cdv:af}{A:cm}{outer:List Env}{s0:ag}{H0:Hp}{E0:XK}{G:Cfg}{E:XK}{k:Nat}
theorem CF (hr:Bt k (A.deeper (envOfC qual scope s0.heap.objs.size f cdv))) (hK:K=G.K) (hE:∀u H',E u none H'->E0 u none H') (hF:CD E):
  Good (fR (bI P w base) P w K mg base N qual scope f cdv A outer s0 H0 E0) G E k where
 calm:=rfl
 room:=hr
 K:=hK
 own:=zc
 pas:=by intro pins σ H s u s' I ⟨e,C,H',eu,os,bare,un,hok,fl,he⟩;subst eu;have I':=I.call' os un hok bare (λb z=>absurd z (by simp));refine ae (CC (P:=P) (w:=w) (H:=H') (base:=base) I'.ok.frames I'.stack rfl hok I'.stkFree fl λh'' H'' un2 Dk Fd sx=>?_);have I2:=I'.call (h':=h'') (g':=s'.gens) (d':=s'.drawn) (t':=s'.toks) un2 Dk I'.bare (λb z=>absurd z (by simp));obtain⟨T,a0,h1,_⟩:=id fl;obtain⟨T2,a2,h3,_⟩:=id Fd;have xe1:eC C e T a0 s'.heap:=(show Bh P w H' s'.heap e _ from hok e _ h1).1;have:E (.ref e) none H'':=hF e H' H'' sx ⟨C,T,a0,T2,a2,h1,⟨_,xe1⟩,h3⟩ he;exact⟨e,C,H'',rfl,I2.os,I2.bare,I2.base,Dk,Fd,hE _ _ this⟩
 rais:=by intro pins σ H s h' e C args I mx he;refine ae (J9 (P:=P) (w:=w) (H:=H) (base:=base) I.ok.frames I.stack rfl I.hok I.stkFree I.bk mx λh'' H'' un2 Dk Fd sm=>?_);have I2:=I.call (h':=h'') (g':=s.gens) (d':=s.drawn) (t':=s.toks) un2 Dk I.bare (λb z=>absurd z (by simp));obtain⟨T2,a2,h3,_⟩:=id Fd;exact⟨e,C,H'',rfl,I2.os,I2.bare,I2.base,Dk,Fd,hE _ _ (he H'' sm ⟨T2,a2,h3⟩)⟩
theorem dD {X:Cx}{sc:gh}{N':Au}{s:ag}{H:Hp}{ex:List ah}(g:Good X G E k):Good (bZ X sc N' s H ex) G L2.E0 k where
 calm:=g.calm
 room:=g.room
 K:=g.K
 own:=PassesOwn.never
 pas:=λ_ _ _ _ _ _ _ ⟨_,_,_,_,_,_,_,_,_,z⟩=>z
 rais:=λ_ _ H s h' e C args I mx he=>by
  have nH:H e=none:=by
   cases q:H e with
   |none=>rfl
   |some o=>obtain⟨ob,eo⟩:=CB (I.hok e o q);rw[mx.new]at eo;cases eo
  exact he (aT H e (.ext (eC C e 0 .none))) (cZ nH) ⟨0,.none,dF⟩
def bV (n:Nat) (ds:Aw):Ev:=ds.map some++bu (n - ds.length) none
def bH:Sr->Rs Dv
 | .rt d h=>.ok d h
 | .nx _ h=>.ok .non h
 | .ex c h=>.ex c h
 |_=>.bad
def aW (np n:Nat) (mb:MS):Av:=λds h=>if ds.length=np then bH (mb (bV n ds) h)else .bad
def cR (G:Cfg) (F:Av):Sp:=λvs H Q E=>∃μ h ds,RelDL G μ h.length H ds vs/\Bk G μ h H/\Out G E μ h.length H (F ds h) (Bc G) Q
theorem CG {μ:Nat->ah}{n:Nat}{H:Hp}{ds:Aw}{vs:List V}(r:RelDL G μ n H ds vs) (N:Au):Bf G μ n H (bV N.length ds) (start N vs):=by
 have hl:=r.length;refine⟨by simp[bV,start,hl],λi d e=>?_⟩;unfold bV at e
 by_cases hi:i<ds.length
 ·rw[ff (by simpa using hi),dk]at e
  cases q:ds[i]? with
  |none=>rw[q]at e;cases e
  |some d'=>rw[q]at e;cases e;obtain⟨v,e1,r1⟩:=r.get q;refine⟨v, ?_,r1⟩;unfold start;rw[ff (by simp;omega),dk,e1];rfl
 ·rw[fv (by simpa using hi),tm]at e
  split at e <;> cases e
def EB (G:Cfg) (μ0:Nat->ah) (n0:Nat) (H0:Hp) (r:Sr):XK:=λu _ H'=>∃c h' μ',r=.ex c h'/\Ext μ0 n0 H0 μ' h'.length H'/\Bk G μ' h' H'/\wY G H' c u
theorem Bk.sameX {μ:Nat->ah}{h:Hs}{H H':Hp}{e:ah}(s:Bk G μ h H) (sx:tK e H H') (hx:∃φ,H e=some (.ext φ)):Bk G μ h H'/\∀(n:Nat),Ext μ n H μ n H':=by
 obtain⟨φ,hx⟩:=hx;have x:∀n:Nat,Ext μ n H μ n H':=λn=>⟨aj _,λ_ _=>rfl,λa o i q=>sx a o (by rintro rfl;rw[hx]at q;cases q;exact i) q⟩
 refine⟨⟨s.inj,λi o q=>?_,s.tab.keep λa o _ n2 q=>sx a o (by rintro rfl;rw[hx]at q;cases q;exact n2 _ rfl) q⟩,x⟩;have r:=s.ob i o q
 cases o with
 |lst xs=>obtain⟨vs,e1,r1⟩:=r;exact⟨vs,sx _ _ (nV e1 hx (by intro z;cases z)) e1,RelDL.mono (x _) _ _ r1⟩
 |clo k t=>exact r.clo (x _)
theorem CH {μ0:Nat->ah}{n0:Nat}{H0:Hp}{r:Sr}:CD (EB G μ0 n0 H0 r):=by intro e H H' sx ⟨C,T,a0,T',a0',h1,⟨hp,hx⟩,h3⟩ ⟨c,h',μ',er,x,s,e',φ,eu,h4,h5⟩;cases eu;obtain⟨s2,x2⟩:=s.sameX sx ⟨_,h1⟩;refine⟨c,h',μ',er,x.trans (x2 _),s2,e,_,rfl,h3,λhh z=>?_⟩;rw[h1]at h4;cases h4;obtain⟨o,g1,g2⟩:=h5 hp hx;obtain⟨oe,vs,g3,g4,_⟩:=hx;rw[g3]at g1;cases g1;obtain⟨oe',Cc,g5,g6,_⟩:=z;exact⟨oe',g5,by rw[g6,<-g4,g2]⟩
theorem dR {x qual:Str}{st:gz}{fd:bq}{ps:Au}{mb:MS}(Fn:B' K x qual st f fd) (S:Bb N ps (aU st)) (hK:K=G.K)
  (Bw:∀(cdv:af) (A:cm) (outer:List Env) (s:ag) (H:Hp) (E₀ E:XK),Good (fR (bI P w base) P w K mg base N qual (aU st) f cdv A outer s H E₀) G E k->jQ (fR (bI P w base) P w K mg base N qual (aU st) f cdv A outer s H E₀) G E (iG st) mb):
  Bg P w K mg base (bI P w base) (k+1) f fd ps (cR G (aW ps.length N.length mb)):=by
 obtain⟨oc,od,kV,doc,pm,an,cdv,ct,osl,rfl,lk,hcd⟩:=Fn.ex;have hlen:∀vs H Q E,cR G (aW ps.length N.length mb) vs H Q E->vs.length=ps.length:=λvs H Q E ⟨μ,h,ds,r,sm,o⟩=>by
  rw[r.length];unfold aW at o
  by_cases hd:ds.length=ps.length
  ·exact hd
  ·rw[if_neg hd]at o;exact o.elim
 refine BA lk hcd S hlen λA outer s H vs Q E hr hsp=>?_;have hl:=hlen _ _ _ _ hsp;obtain⟨μ,h,ds,r,sm,o⟩:=hsp;have o':Out G E μ h.length H (bH (mb (bV N.length ds) h)) (Bc G) Q:=by unfold aW at o;rw[if_pos (by rw[<-r.length];exact hl)]at o;exact o
 refine⟨_,Bw cdv A outer s H E (EB G μ h.length H (mb (bV N.length ds) h)) (CF hr hK (λu H' ⟨c,h',μ',er,x,s',fl⟩=>?_) CH) hK, ?_⟩
 ·rw[er]at o';exact o' μ' H' u x s' fl
 ·refine⟨μ,bV N.length ds,h,CG r N,sm, ?_⟩
  cases q:mb (bV N.length ds) h with
  |bad=>rw[q]at o';exact o'.elim
  |bk ρ h'=>rw[q]at o';exact o'.elim
  |ct ρ h'=>rw[q]at o';exact o'.elim
  |rt d h'=>rw[q]at o';exact o'
  |nx ρ h'=>rw[q]at o';exact λμ' H' σ' x' s' rs'=>o' μ' H' .non x' s' rfl
  |ex c h'=>exact λμ' H' u x' s' fl=>⟨c,h',μ',rfl,x',s',fl⟩
theorem KC {X:Cx}{F:Av}{ps:Au}{fd:bq}{x:Str}{p pos:Pos}{e:bo}{es:List bo}{ms:M Aw }{j:Nat}(g:Good X G E k) (Fn:Bg X.prog X.w X.K X.mg X.base (bI X.prog X.w X.base) j f fd ps (cR G F)) (hj:j<=k)
  (hg:Gl X x) (hm:X.mg x=some (.ref f)) (hk:ki X.K (.ref f)=true) (hb:Binds X.K fd ps []) (ha:eF X G E (e::es) ms)
  (Dq:(x==("__debug__" : Str))=false:=by decide) (he:ar (e::es) X.env=(false,eval e X.env)::ar es X.env:=by rfl) (Cj:(backTo pos (ar es X.env)).any (·.1)=false:=by rfl):
  aK X G E (.Call (.Name x p) (e::es) [] pos) (aF F ms):=λhK=>
 PE.imp (HF Fn (g.room.mono hj) hg hm hk hb .nil g.pas (ha hK) Dq he Cj) λσ H Q ⟨μ,ρ,h,rs,s,o⟩=>kR rs s o λμ1 ds1 h1 vs H1 x1 Bo s1 r1 o1=>by rw[qe];exact⟨μ1,h1,ds1,r1,s1,o1⟩
end
abbrev CI:List af:=[.type "ValueError",.type "Exception",.type "BaseException",.type "object"]
theorem WM {K:ao}{mg:Str->Option af}{base:cx}(p:bj) (m:Mod K mg base):∃loose mb,PySem.W.TopRead p loose mg mb base:=by
 obtain⟨mb,hb,hbb⟩:=m.blt;obtain⟨o,es,ep,ho,hd,hk,hf⟩:=id m.glob;refine⟨es.toList.filterMap λe=>match e.key with
  | .str n _=>some n
  |_=>none,mb,m.glob,hb,m.nolimit,hbb,λx _ hx _ _ _=>?_⟩
 rw[<-hf x]
 cases q:nsFind es x with
 |none=>rfl
 |some v=>
  exfalso
  apply hx
  unfold nsFind findBy at q;obtain⟨e,he,_⟩:=Option.map_eq_some_iff.mp q;have h1:=Array.find?_some he;have h2:=Array.mem_of_find?_eq_some he;obtain⟨n,t,hn⟩:=hk e h2;rw[hn]at h1;have h3:n=x:=by simpa[Value.isStr]using h1
  exact jz.mpr ⟨e,by simpa using h2,by rw[hn,h3]⟩
section
variable{X:Cx}{G:Cfg}{E:XK}{k:Nat}{x:Str}{C:ah}{np cpos pos:Pos}{e:bo}{es:List bo}{t:TA}{ms:M Aw }{c:Nat}
theorem WN (g:Good X G E k) (hg:Gl X x) (hm:X.mg x=some (.ref C)) (hns:ym X.K dj x=some (some (.ref C))) (hx:xk X.K C CI "ValueError.__new__" = true) (ha:PA X (e::es) t) (hd:(x==("__debug__" : Str))=false:=by decide)
  (he:ar (e::es) X.env=(false,eval e X.env)::ar es X.env:=by rfl) (Cj:(backTo cpos (ar es X.env)).any (·.1)=false:=by rfl):
  PS X (.Raise (some (.Call (.Name x np) (e::es) [] cpos)) none pos) (λ_ σ H=>t σ H λvs H1=>vs.length<=cf/\∀e H',Cn H1 H'->(∃T a0,H' e=some (.ext (eC (.ref C) e T a0)))->E (.ref e) none H'):=by
 intro pins s σ H D I h;obtain⟨bm,N,nm,q,bs,hdct,sn,sub,ab,col,dd,k0,k1,k2,k3,k5,mN,hC,hN,hni,T⟩:=(let ⟨_,_,tr⟩:=WM X.prog I.ok.mod;PySem.W.own_of_in I.ok.mod.kin tr hns hx).obj;refine wpAny_Raise_call_subU (C:=C) (nm:=nm) (q:=q) (N:=N) (bs:=bs) (bm:=bm) (hdct:=hdct) (sn:=sn) (sub:=sub) (ab:=ab) (col:=col) (dd:=dd) (k0:=k0) (k1:=k1) (k2:=k2) (k3:=k3) (k5:=k5)
  xc (by decide) xc (mN:=mN) (T.hasType (by decide)) (I.ok.hd g.calm) (by rw[he];show(false||(backTo cpos (ar es X.env)).any (·.1))=false;rw[Cj];rfl) hni (wC I hg hm ⟨rfl, ?_⟩ hd)
 have hh:=ha cpos pins s σ H _ I h;rw[he]at hh ⊢;refine Calls.evalArgs_plain (bD hh λus s2 ⟨vs,H2,I2,r,hz,w⟩=>⟨rfl,by rw[<-r.length];exact hz,I2.bk _ _ hC,hN.keeps I2.bk,T.keeps I2.bk,λh' e' mx=>?_⟩);exact g.rais pins σ H2 s2 h' e' _ _ I2 mx λH' sm z=>w e' H' sm z
theorem WO {H:Hp}{e:ah}(hc:C=G.cl c) (z:∃T a0,H e=some (.ext (eC (.ref C) e T a0))):wY G H c (.ref e):=by obtain⟨T,a0,z⟩:=z;exact⟨e,_,rfl,z,λh ⟨oe,vs,h1,h2,_⟩=>⟨oe,h1,by rw[h2,hc]⟩⟩
def tM (c:Nat) (ms:M Aw ):MS:=λρ h=>(ms ρ h).thenS λds h1=>if ds.length<=1000 then .ex c h1 else .bad
theorem WQ (g:Good X G E k) (hg:Gl X x) (hm:X.mg x=some (.ref C)) (hns:ym X.K dj x=some (some (.ref C))) (hx:xk X.K C CI "ValueError.__new__" = true) (hc:C=G.cl c) (ha:eF X G E (e::es) ms) (hd:(x==("__debug__" : Str))=false:=by decide)
  (he:ar (e::es) X.env=(false,eval e X.env)::ar es X.env:=by rfl) (Cj:(backTo cpos (ar es X.env)).any (·.1)=false:=by rfl):
  jI X G E (.Raise (some (.Call (.Name x np) (e::es) [] cpos)) none pos) (tM c ms):=λhK=>PS.imp (WN g hg hm hns hx (ha hK) hd he Cj) λD σ H ⟨μ,ρ,h,rs,s,o⟩=>
 ⟨μ,ρ,h,rs,s,(o.thenS (R:=RelDL G)).mono λvs H1 ⟨μ1,ds,h1,x1,s1,r1,o1⟩=>by
  split at o1
  ·rename_i hl;refine⟨by rw[r1.length];exact df hl (by decide),λe' H' sm z=>?_⟩;exact o1 μ1 H' (.ref e') (Ext.same sm) (s1.same sm) (WO hc z)
  ·exact o1.elim⟩
end
open PySem.W
section
variable{prog:bj}{w:cq}{A:cm}{E:af->ag->Prop}{h:cx}{g:Array GenState}{d:Drawn}{t:Nat}{os:OsState}{a C:ah}{o:Obj}{K:Frag}
structure Dg (K:Frag) (C:ah):Prop where
 ga:findIn K (.ref C) "__getattribute__" = some (some (.builtin "BaseException.__getattribute__"))
 ng:findIn K (.ref C) "__getattr__" = some none
 cl:findIn K (.ref C) "__class__" = some (some (.builtin "object.__class__"))
 ob:mroIn K C (.type "object")=some true
 be:subIn K (.ref C) (.type "BaseException")=some true
 se:kitCls K (.ref C) (.ref C)=some true
 lk:∃oc od cd osl,K.lookup C=some ⟨oc,od,.cls cd,osl⟩
theorem kindGa:builtinKind "BaseException.__getattribute__" = some .slot/\splitId "BaseException.__getattribute__" = some ("BaseException","__getattribute__"):=by decide +kernel
theorem WR:(ve "BaseException.__getattribute__" == ve "object.__getattribute__")=false:=by decide +kernel
section
variable{R:yh->ag->Prop}{s:ag}
theorem WS {M:yr}{n:af}{Q:Unit->ag->Prop}(X:K.In s.heap) (I:InstAt s.heap a o C none) (k:Dg K C) (hq:Q () s):wpAny M A (checkBuiltinCall "BaseException.__getattribute__" ⟨[.ref a,n],[]⟩) Q E s:=by
 have one:Looks M s.heap (isInstance (.ref a) (.type "BaseException")) true:=I.type.andThen (looks_subIn X k.be);have two:=F.args_bexc_ga (.ref a) n;obtain⟨hh,g,d,t,os⟩:=s;unfold checkBuiltinCall;rw[kindGa.1,kindGa.2];refine ae (one.at ?_)
 repeat (first|assumption|wp_step)
theorem WT {n:Tok}(X:K.In s.heap) (I:InstAt s.heap a o C none) (k:Dg K C) (hq:R (.ok (.ret (.ref C))) s):codeAny (model prog w) A (.call (.builtin "BaseException.__getattribute__") ⟨[.ref a,.str "__class__" n],[]⟩) R s:=by
 refine qt F.excAttr_ValueError.ga.plain F.entry_bexc_ga (WS X I k ?_);have own:=I.type (M:=model prog w);have entry:=looks_findIn (M:=model prog w) X k.cl;have of_get:=F.slot_gs_get.lookup;have of_set:=F.slot_gs_set.lookup;have kind:=F.typeOf_object_class;have kindIs:s.TypeIs (.builtin "object.__class__") "getset_descriptor" := kind;obtain⟨hh,g,d,t,os⟩:=s
 repeat (any_goals (first|assumption|with_reducible refine own.at ?_|with_reducible refine entry.at ?_|wp_step))
 exact class_get (s:=⟨hh,g,d,t,os⟩) X I k.ob (by repeat (any_goals (first|assumption|wp_step)))
end
theorem WU {Q:Option af->ag->Prop}(X:K.In h) (I:InstAt h a o C none) (k:Dg K C) (hq:Q (some (.ref C)) ⟨h,g,d,t+1,os⟩):
  wpAny (model prog w) A (getAttr? (.ref a) "__class__") Q E ⟨h,g,d,t,os⟩:=by
 have own:=I.type (M:=model prog w);have first_:=looks_findIn (M:=model prog w) X k.ga;have then_:=looks_findIn (M:=model prog w) X k.ng;have bound:=F.excAttr_ValueError.ga.bind (.ref a);have other:=WR;have apart:(onTheHeap (ja C)&&ve "BaseException.__getattribute__" == ve "object.__getattribute__")=false:=by rw[other];rfl
 unfold getAttr? getAttrBy?
 repeat (any_goals (first|assumption|with_reducible refine own.at ?_|with_reducible refine first_.at ?_|with_reducible refine then_.at ?_|wp_step))
 exact WT X I k (by repeat (any_goals (first|assumption|wp_step)))
def WV (a C:ah) (h:cx):Prop:=∃o,InstAt h a o C none
theorem WW (k:Dg K C):KitX K (.ref a) (.ref C) (WV a C) where
 ty:=λ_ _ _ ⟨_,I⟩=>I.type
 it:=λ_ _ X _=>(kit_cls X k.se).2.1
 ne:=λh tp dd its n sl X htp=>by
  cases z:(ja C==ja tp)with
  |false=>rfl
  |true=>
   obtain rfl:C=tp:=by simpa using z
   obtain⟨oc,od,cd,osl,lk⟩:=k.lk;have:=X _ _ lk;rw[htp]at this;simp at this
 ca:=λ{prog w A E Q s} X ⟨o,I⟩ hq=>by obtain⟨hh,g,d,t,os⟩:=s;exact WU X I k hq
end
inductive Ty where
 |non|bl|int|str|tup|lst|dct|exc (c:Nat)
def gG:Dv->Hs->Option Ty
 | .non,_=>some .non
 | .bl _,_=>some .bl
 | .int _,_=>some .int
 | .str _,_=>some .str
 | .tup _,_=>some .tup
 | .ref i,h=>match getL h i with
  |some _=>some .lst
  |none=>none
 | .edc,_=>some .dct
 | .exc c,_=>some (.exc c)
 | .scr,_=>none
def lR (cl:Nat->ah):Ty->af
 | .non=>.type "NoneType"
 | .bl=>.type "bool"
 | .int=>.type "int"
 | .str=>.type "str"
 | .tup=>.type "tuple"
 | .lst=>.type "list"
 | .dct=>.type "dict"
 | .exc c=>.ref (cl c)
def bB (f:Ty->Option Bool) (d:Dv) (h:Hs):Rs Dv:=match gG d h with
 |some ty=>match f ty with
  |some b=>.ok (.bl b) h
  |none=>.bad
 |none=>.bad
section
variable{X:Cx}{G:Cfg}{E:XK}{pins:List (ah×Obj)}{σ:St}{H:Hp}{s:ag}
theorem KD {μ:Nat->ah}{h:Hs}{d:Dv}{v:V}{u:af}{ty:Ty}(I:Inv X pins σ H s) (sm:Bk G μ h H) (r:Bc G μ h.length H d v) (ru:RelV v u) (e:gG d h=some ty) (hex:∀c,ty=.exc c->Dg X.K (G.cl c)):
  ∃P,KitX X.K u (lR G.cl ty) P/\P s.heap/\u≠.builtin "__main__.__loader__#opaque":=by
 cases d with
 |non=>cases e;rw[Bc]at r;subst r;cases ru;exact⟨_,kitx_none,trivial,λz=>nomatch z⟩
 |bl b=>cases e;rw[Bc]at r;subst r;cases ru;exact⟨_,kitx_bool,trivial,λz=>nomatch z⟩
 |int i=>cases e;rw[Bc]at r;subst r;obtain⟨t,rfl⟩:=ru;exact⟨_,kitx_int,trivial,λz=>nomatch z⟩
 |str i=>cases e;rw[Bc]at r;subst r;obtain⟨t,rfl⟩:=ru;exact⟨_,kitx_str,trivial,λz=>nomatch z⟩
 |tup ds=>
  cases e;obtain⟨a,vs,rfl,ea,_⟩:=r;cases ru;obtain⟨_,_,_,o,h1,h2,_⟩:=(show Bh X.prog X.w H s.heap a (.tup vs) from I.hok a _ ea)
  exact⟨_,kitx_tuple,⟨o,h1,h2⟩,λz=>nomatch z⟩
 |ref i=>
  dsimp only[gG]at e
  cases g:getL h i with
  |none=>rw[g]at e;cases e
  |some xs=>
   rw[g]at e;cases e;obtain⟨_,rfl⟩:=r;cases ru;obtain⟨vs,ea,_⟩:=sm.ob i _ (cU g);obtain⟨_,_,n,_,h1⟩:=(show Bh X.prog X.w H s.heap (μ i) (.lst vs) from I.hok _ _ ea)
   exact⟨_,kitx_list,⟨_,h1,rfl⟩,λz=>nomatch z⟩
 |edc=>
  cases e;obtain⟨a,rfl,ea⟩:=r;cases ru;obtain⟨_,_,vs,_,p⟩:=(show Bh X.prog X.w H s.heap a (.dK []) from I.hok a _ ea)
  obtain⟨o,es,ep,h1,h2,_⟩:=p;exact⟨_,kitx_dict,⟨o,h1,h2.1⟩,λz=>nomatch z⟩
 |exc c=>
  cases e;obtain⟨a,o,uo,rfl,ea,hc,hdn,vs,hd⟩:=r;cases ru;obtain⟨h1,_⟩:=(show Bh X.prog X.w H s.heap a (.frz o uo) from I.hok a _ ea)
  refine⟨_,WW (hex c rfl),⟨o,h1,hc, ?_, ?_⟩,λz=>nomatch z⟩
  ·unfold notCls;rw[hd]
  ·rw[hdn];trivial
 |scr=>cases e
end
section
variable{X:Cx}{G:Cfg}{E:XK}{a b:bo}{ma:M Dv}{p pos:Pos}{f:Ty->Option Bool}
theorem KG:dy "isinstance" = some (.builtin "isinstance"):=by decide +kernel
def KH (G:Cfg) (f:Ty->Option Bool) (c:V):List V->Hp->VK->Prop:=λxs H Q=>∃μ h d v ty bb,xs=[v,c]/\Bk G μ h H/\Bc G μ h.length H d v/\gG d h=some ty/\f ty=some bb/\Q (.bl bb) H
theorem WX {c:V}{u:af}(hc:(∃T,c=.ty T)∨∃C,c=.ref C) (rc:RelV c u) (hf:∀ty bb,f ty=some bb->kitOne X.K (lR G.cl ty) u=some bb) (hex:∀c bb,f (.exc c)=some bb->Dg X.K (G.cl c)):Bi X (.builtin "isinstance") (KH G f c):=by
 intro pins s σ H xs us Q I rv ⟨μ,h,d,v,ty,bb,e1,sm,r,et,ef,q⟩;subst e1;obtain⟨u1,u2,rfl,r1,r2⟩:=qO rv;have e2:u2=u:=by rcases hc with⟨T,rfl⟩|⟨C,rfl⟩ <;> (cases rc;cases r2;rfl)
 subst e2;obtain⟨P,Z,hP,hne⟩:=KD I sm r r1 et (λc z=>by subst z;exact hex c bb ef);exact kia_one Z I.kIn hP (hf ty bb ef) hne λtk=>⟨.bl bb,H,I.tok _,rfl,q⟩
theorem pG {x:Str}{T:String}(hg:Gl X x) (hm:X.mg x=none) (hv:dy x=some (.type T)) (hn:x ≠ "__name__" := by decide) (hd:(x==("__debug__" : Str))=false:=by decide):PE X (.Name x pos) (tC (.ty T)):=λpins s σ H Q I h=>nW I hg hm hv ⟨.ty T,H,I,rfl,h⟩ hn hd
theorem rC {c:V}{u:af}(hg:Gl X "isinstance") (hm:X.mg "isinstance" = none) (ha:aK X G E a ma) (hb:PE X b (tC c)) (hc:(∃T,c=.ty T)∨∃C,c=.ref C) (rc:RelV c u)
  (hf:∀ty bb,f ty=some bb->kitOne G.K (lR G.cl ty) u=some bb) (hex:∀c bb,f (.exc c)=some bb->Dg G.K (G.cl c))
  (he:ar [a,b] X.env=[(false,eval a X.env),(false,eval b X.env)]:=by rfl) (Ed:ar [b] X.env=[(false,eval b X.env)]:=by rfl):
  aK X G E (.Call (.Name "isinstance" p) [a,b] [] pos) (m1 (bB f) ma):=λhK=>
 PE.imp (sR (WX (G:=G) (f:=f) hc rc (by rw[hK];exact hf) (by rw[hK];exact hex)) hg hm KG (iE (ha hK) (iE hb jH Ed) (by rw[he,Ed])) (by decide) (by decide) (by rw[he,Ed]) (by rw[Ed];rfl))
  λσ H Q ⟨μ,ρ,h,rs,s,o⟩=>eG rs s o λμ1 d h1 v H1 x1 Bo s1 r1 o1=>by
   show KH G f c [v,c] H1 Q;unfold bB at o1
   cases q:gG d h1 with
   |none=>rw[q]at o1;exact o1.elim
   |some ty=>
    rw[q]at o1;dsimp only at o1
    cases q2:f ty with
    |none=>rw[q2]at o1;exact o1.elim
    |some bb=>rw[q2]at o1;exact⟨μ1,h1,d,v,ty,bb,rfl,s1,r1,q,q2,o1.val s1 rfl⟩
def KI (G:Cfg) (f:Ty->Option Bool) (cs:List V):List V->Hp->VK->Prop:=λxs H Q=>∃μ h d v ty bb tp,xs=[v,.ref tp]/\H tp=some (.tup cs)/\Bk G μ h H/\Bc G μ h.length H d v/\gG d h=some ty/\f ty=some bb/\Q (.bl bb) H
theorem WY {cs:List V}{us:List af}(hcs:∀us',Bd cs us'->us'=us) (hf:∀ty bb,f ty=some bb->kitAny X.K (lR G.cl ty) us=some bb) (hex:∀c bb,f (.exc c)=some bb->Dg X.K (G.cl c)):Bi X (.builtin "isinstance") (KI G f cs):=by
 intro pins s σ H xs uu Q I rv ⟨μ,h,d,v,ty,bb,tp,e1,etp,sm,r,et,ef,q⟩;subst e1;obtain⟨u1,u2,rfl,r1,r2⟩:=qO rv;cases r2;obtain⟨_,its,rits,o,h1,h2,_,n,h3⟩:=(show Bh X.prog X.w H s.heap tp (.tup cs) from I.hok tp _ etp)
 have eits:=hcs its rits;subst eits;obtain⟨oc,od,odata,osl⟩:=o
 cases h2;cases h3
 obtain⟨P,Z,hP,hne⟩:=KD I sm r r1 et (λc z=>by subst z;exact hex c bb ef);exact kia_tup Z I.kIn hP h1 (hf ty bb ef) hne λtk=>⟨.bl bb,H,I.tok _,rfl,q⟩
theorem WZ {cs:List V}{us:List af}{bs:List bo}{kt:Nat}{tpos:Pos}(hg:Gl X "isinstance") (hm:X.mg "isinstance" = none) (ha:aK X G E a ma) (hb:PA X bs (λ_ H Q=>Q cs H)) (hl:cs.length<=cf) (hcs:∀us',Bd cs us'->us'=us)
  (hf:∀ty bb,f ty=some bb->kitAny G.K (lR G.cl ty) us=some bb) (hex:∀c bb,f (.exc c)=some bb->Dg G.K (G.cl c))
  (he:ar [a,.Tuple bs kt tpos] X.env=[(false,eval a X.env),(false,eval (.Tuple bs kt tpos) X.env)]:=by rfl) (Ed:ar [.Tuple bs kt tpos] X.env=[(false,eval (.Tuple bs kt tpos) X.env)]:=by rfl):
  aK X G E (.Call (.Name "isinstance" p) [a,.Tuple bs kt tpos] [] pos) (m1 (bB f) ma):=λhK=>
 PE.imp (sR (WY (G:=G) (f:=f) hcs (by rw[hK];exact hf) (by rw[hK];exact hex)) hg hm KG (iE (ha hK) (iE (HE hb) jH Ed) (by rw[he,Ed])) (by decide) (by decide) (by rw[he,Ed]) (by rw[Ed];rfl))
  λσ H Q ⟨μ,ρ,h,rs,s,o⟩=>eG rs s o λμ1 d h1 v H1 x1 Bo s1 r1 o1=>by
   refine⟨hl,λtp htp=>?_⟩;show KI G f cs [v,.ref tp] (aT H1 tp (.tup cs)) Q;unfold bB at o1
   cases q:gG d h1 with
   |none=>rw[q]at o1;exact o1.elim
   |some ty=>
    rw[q]at o1;dsimp only at o1
    cases q2:f ty with
    |none=>rw[q2]at o1;exact o1.elim
    |some bb=>rw[q2]at o1;have x2:Ext μ1 h1.length H1 μ1 h1.length (aT H1 tp (.tup cs)):=Ext.same (cZ htp);exact⟨μ1,h1,d,v,ty,bb,tp,rfl,dF,s1.same (cZ htp),Bc.mono x2 _ _ r1,q,q2,o1 μ1 _ _ x2 (s1.same (cZ htp)) rfl⟩
end
def oD:Dv->Option Bool
 | .bl b=>some b
 |_=>none
theorem CJ {G:Cfg}{μ:Nat->ah}{n:Nat}{H:Hp}:∀{xs:Aw}{vs:List V}{bs:List Bool},RelDL G μ n H xs vs->bU oD xs=some bs->vs=bs.map V.bl
 | [],vs,bs,r,e=>by cases e;rw[RelDL]at r;exact r
 |x::xs,vs,bs,r,e=>by
  rw[RelDL]at r;obtain⟨v,rr,rfl,r1,r2⟩:=r;unfold bU at e
  cases x with
  |bl b=>
   dsimp only[oD]at e
   cases q:bU oD xs with
   |none=>rw[q]at e;cases e
   |some zs=>rw[q]at e;cases e;rw[Bc]at r1;subst r1;rw[CJ r2 q];rfl
  |_=>cases e
section
variable{X:Cx}{pins:List (ah×Obj)}{σ:St}{H:Hp}{s:ag}
theorem W0 (bs:List Bool):(bf bs.length).all (λi=>bs.getD i false)=bs.all id:=by
 rw[dm,gu,gu];constructor
 ·intro h b hb;obtain⟨i,hi,rfl⟩:=mr.mp hb;simpa[qp,hi]using h i (bx.mpr hi)
 ·intro h i hi;have hi:=bx.mp hi;simpa[qp,hi]using h _ (de hi)
theorem W2 (bs:List Bool):(bf bs.length).any (λi=>bs.getD i false)=bs.any id:=by
 rw[dm,pf,pf];constructor
 ·rintro ⟨i,hi,h⟩
  have hi:=bx.mp hi;exact⟨bs[i],de hi,by simpa[qp,hi]using h⟩
 ·rintro ⟨b,hb,h⟩
  obtain⟨i,hi,rfl⟩:=mr.mp hb;exact⟨i,bx.mpr hi,by simpa[qp,hi]using h⟩
theorem W3 {bs:List Bool}{its:List af}(rv:Bd (bs.map V.bl) its) {i:Nat}{v:af}(e:its.toArray[i]?=some v):v=.bool (bs.getD i false):=by
 have hl:=rv.length;rw[ba]at hl;have e':its[i]?=some v:=by simpa using e
 have hi:i<its.length:=(ax.mp e').1;have hb:i<bs.length:=by omega
 obtain⟨u,e2,r⟩:=rv.get (i:=i) (x:=V.bl bs[i]) (by simp[hb]);rw[e']at e2;cases e2;have hg:bs.getD i false=bs[i]:=by simp[qp,hb]
 rw[hg];exact r
theorem KJ {bs:List Bool}{its:List af}{A:cm}(rv:Bd (bs.map V.bl) its):TruthOf X.prog X.w A (λi v=>its.toArray[i]?=some v) (λi=>bs.getD i false):=by intro i v s Q E e q;rw[W3 rv e];exact kn q
theorem xK {o:Obj}{h':cx}{tk:Nat}(I:Inv X pins σ H s) (k:∀b u,b∉[s.heap.objs.size]->(s.heap.push o).get? b=some u->h'.get? b=some u):Inv X pins σ H { s with heap:=h',toks:=tk }:=by have I1:Inv X pins σ H { s with heap:=s.heap.push o }:=I.kept (t':=s.toks) λb u e=>ak _ e;obtain⟨f0,f1,f2,f3,f4,f5⟩:=I.fpOk (aj s.heap.objs.size) I.fresh;exact I1.turned (t':=tk) (λb u hb e=>k b u (by simpa using hb) e) f0 f1 f3 f4 f5
theorem W4 (hc:X.calm=true):Bi X (.builtin "all") (λxs H Q=>∃(p:ah) (bs:List Bool),xs=[.ref p]/\H p=some (.lst (bs.map V.bl))/\Q (.bl (bs.all id)) H):=by
 intro pins s σ H xs us Q I rv ⟨p,bs,e,hp,q⟩;subst e;obtain⟨u,rfl,ru⟩:=iX rv;cases ru;obtain⟨its,rits,pl,hz⟩:=I.list (Bs.of hp);have hn:its.toArray.size=bs.length:=by have:=rits.length;simp at this ⊢;omega
 have ne:p≠s.heap.objs.size:=az (I.hok.lt hp);refine call_all_walk (kq pl.isList ⟨_,_,_,_,_,_,λi=>bs.getD i false,rfl,uc (A:=X.A.in1) (show X.A.in1.handled=none from I.ok.hd hc) _ p ne its.toArray,⟨⟨_,bc _ rfl,rfl,rfl⟩,pl.isList.push _⟩,KJ rits,λh' tk k=>?_⟩);rw[hn,W0];exact⟨.bl _,H,(xK (tk:=tk) I k:Inv X pins σ H { s with heap:=h',toks:=tk }),rfl,q⟩
theorem W5 (hc:X.calm=true):Bi X (.builtin "any") (λxs H Q=>∃(p:ah) (bs:List Bool),xs=[.ref p]/\H p=some (.lst (bs.map V.bl))/\Q (.bl (bs.any id)) H):=by
 intro pins s σ H xs us Q I rv ⟨p,bs,e,hp,q⟩;subst e;obtain⟨u,rfl,ru⟩:=iX rv;cases ru;obtain⟨its,rits,pl,hz⟩:=I.list (Bs.of hp);have hn:its.toArray.size=bs.length:=by have:=rits.length;simp at this ⊢;omega
 have ne:p≠s.heap.objs.size:=az (I.hok.lt hp);refine call_any_walk (kq pl.isList ⟨_,_,_,_,_,_,λi=>bs.getD i false,rfl,uc (A:=X.A.in1) (show X.A.in1.handled=none from I.ok.hd hc) _ p ne its.toArray,⟨⟨_,bc _ rfl,rfl,rfl⟩,pl.isList.push _⟩,KJ rits,λh' tk k=>?_⟩);rw[hn,W2];exact⟨.bl _,H,(xK (tk:=tk) I k:Inv X pins σ H { s with heap:=h',toks:=tk }),rfl,q⟩
end
section
variable{X:Cx}{G:Cfg}{E:XK}{e:bo}{ml:M Aw }{x:Str}{p pos:Pos}{bid T:String}
def mL (f:Av) (ml:M Aw ):M Dv:=λρ h=>(ml ρ h).bind f
def KL (G:Cfg) (r:List V->Hp->VK->Prop) (f:Av):Prop:=∀(E:XK) (μ:Nat->ah) (h:Hs) (H:Hp) (xs:Aw) (a:ah) (vs:List V) (Q:VK),Bk G μ h H->H a=some (.lst vs)->RelDL G μ h.length H xs vs->Out G E μ h.length H (f xs h) (Bc G) Q->r [.ref a] H Q
theorem W6 {r:List V->Hp->VK->Prop}{f:Av}(hd:KL G r f) {σ:St}{H:Hp}{Q:VK}(t:iO G E (mL f ml) σ H Q):wI r (HD (xH G E ml) HC) σ H Q:=by obtain⟨μ,ρ,h,rs,s,o⟩:=t;refine⟨μ,ρ,h,rs,s,(o.bind (R1:=RL G)).mono λv H1 ⟨μ1,xs,h1,x1,s1,⟨a,vs,ev,ea,_,r1⟩,o1⟩=>?_⟩;subst ev;exact hd E μ1 h1 H1 xs a vs Q s1 ea r1 o1
theorem KN {r:List V->Hp->VK->Prop}{f:Av}(hc:Bi X (.builtin bid) r) (hd:KL G r f) (hg:Gl X x) (hm:X.mg x=none) (hv:dy x=some (.builtin bid)) (ha:nE X G E e ml) (hn:x ≠ "__name__" := by decide) (Dq:(x==("__debug__" : Str))=false:=by decide)
  (he:ar [e] X.env=[(false,eval e X.env)]:=by rfl):aK X G E (.Call (.Name x p) [e] [] pos) (mL f ml):=λhK=>
 PE.imp (sR hc hg hm hv (iE (ha hK) jH he) hn Dq he rfl) λ_ _ _ t=>W6 hd t
theorem W7:dy "all" = some (.builtin "all"):=by decide +kernel
theorem W8:dy "any" = some (.builtin "any"):=by decide +kernel
def kB (xs:Aw) (h:Hs):Rs Dv:=match bU oD xs with
 |some bs=>.ok (.bl (bs.all id)) h
 |none=>.bad
def tN (xs:Aw) (h:Hs):Rs Dv:=match bU oD xs with
 |some bs=>.ok (.bl (bs.any id)) h
 |none=>.bad
theorem tO (hc:X.calm=true) (hg:Gl X "all") (hm:X.mg "all" = none) (ha:nE X G E e ml) (he:ar [e] X.env=[(false,eval e X.env)]:=by rfl):aK X G E (.Call (.Name "all" p) [e] [] pos) (mL kB ml):=
 KN (W4 hc) (λE μ h H xs a vs Q s ea r o=>by
  unfold kB at o
  cases q:bU oD xs with
  |none=>rw[q]at o;exact o.elim
  |some bs=>rw[q]at o;exact⟨a,bs,rfl,by rw[ea,CJ r q],o.val s rfl⟩) hg hm W7 ha (by decide) (by decide) he
theorem W9 (hc:X.calm=true) (hg:Gl X "any") (hm:X.mg "any" = none) (ha:nE X G E e ml) (he:ar [e] X.env=[(false,eval e X.env)]:=by rfl):aK X G E (.Call (.Name "any" p) [e] [] pos) (mL tN ml):=
 KN (W5 hc) (λE μ h H xs a vs Q s ea r o=>by
  unfold tN at o
  cases q:bU oD xs with
  |none=>rw[q]at o;exact o.elim
  |some bs=>rw[q]at o;exact⟨a,bs,rfl,by rw[ea,CJ r q],o.val s rfl⟩) hg hm W8 ha (by decide) (by decide) he
end
section
variable{X:Cx}{G:Cfg}{E:XK}{o e i:bo}{mo me mi:M Dv}{ml:M Aw }{pos apos cpos:Pos}
theorem XA {H:Hp}{a:ah}{vs:List V}(e:H a=some (.lst vs)):wL X.K "list" (.ref a) H:=.inl ⟨rfl,vs,Bs.of e⟩
def lS (o d:Dv) (h:Hs):Rs Dv:=match o with
 | .ref j=>match getL h j with
  |some xs=>if xs.length<1000000 then .ok .non (h.set j (.lst (xs++[d])))else .bad
  |none=>.bad
 |_=>.bad
def iJ (o:Dv) (h:Hs):Bool:=match o with
 | .ref j=>(getL h j).isSome
 |_=>false
def eO (mo me:M Dv):M Dv:=λρ h=>(mo ρ h).bind λx h1=>if iJ x h1=true then(me ρ h1).bind λd h2=>lS x d h2 else .bad
theorem tP {μ:Nat->ah}{h:Hs}{H:Hp}{x:Dv}{v:V}(s:Bk G μ h H) (r:Bc G μ h.length H x v) (e:iJ x h=true):wL X.K "list" v H:=by
 cases x with
 |ref j=>obtain⟨xs,q⟩:=xw.mp (show(getL h j).isSome=true from e);obtain⟨vs,ea,_⟩:=s.ob j _ (cU q);obtain⟨_,rfl⟩:=r;exact XA ea
 |_=>cases e
theorem pH {y:Str}{np:Pos}(ho:aK X G E (.Name y np) mo) (he:aK X G E e me) (hs:ar [e] X.env=[(false,eval e X.env)]:=by rfl) (hl:(apos.endLine==cpos.line)=true:=by rfl):aK X G E (.Call (.Attribute (.Name y np) "append" apos) [e] [] cpos) (eO mo me):=λhK=>
 PE.imp (sT kj xl xm ID (ho hK) (iE (he hK) jH hs) rfl (by rw[hs];rfl) hl hs rfl) λσ H Q ⟨μ,ρ,h,rs,s,oo⟩=>eG rs s oo λμ1 x h1 vx H1 x1 Bo s1 r1 o1=>by
  split at o1
  ·rename_i hl;refine⟨tP s1 r1 hl,eG Bo s1 o1 λμ2 d h2 vd H2 x2 Cw s2 r2 o2=>?_⟩
   cases x with
   |ref j=>
    dsimp only[lS]at o2
    cases q:getL h2 j with
    |none=>rw[q]at o2;exact o2.elim
    |some xs=>
     rw[q]at o2;dsimp only at o2
     split at o2
     ·rename_i hz;obtain⟨vs,ea,ra⟩:=s2.ob j _ (cU q);obtain⟨_,rfl⟩:=Bc.mono x2 _ _ r1;obtain⟨x3,s3⟩:=s2.write (cU q) (ra.append (RelDL.cons r2 RelDL.nil));exact⟨_,vs,vd,rfl,rfl,ea,by rw[ra.length];exact av hz (by decide),o2 μ2 _ _ x3 s3 rfl⟩
     ·exact o2.elim
   |_=>exact o2.elim
  ·exact o1.elim
end
section
variable{X:Cx}{G:Cfg}{E:XK}{e i:bo}{mo me mi:M Dv}{ml:M Aw }{pos apos cpos np:Pos}{y:Str}
def xM (o:Dv) (ys:Aw) (h:Hs):Rs Dv:=match o with
 | .ref j=>match getL h j with
  |some xs=>lim (xs.length+ys.length) (.ok .non (h.set j (.lst (xs++ys))))
  |none=>.bad
 |_=>.bad
def pI (mo:M Dv) (ml:M Aw ):M Dv:=λρ h=>(mo ρ h).bind λx h1=>if iJ x h1=true then(ml ρ h1).bind λys h2=>xM x ys h2 else .bad
theorem XB (ho:aK X G E (.Name y np) mo) (he:nE X G E e ml) (hs:ar [e] X.env=[(false,eval e X.env)]:=by rfl) (hl:(apos.endLine==cpos.line)=true:=by rfl):aK X G E (.Call (.Attribute (.Name y np) "extend" apos) [e] [] cpos) (pI mo ml):=λhK=>
 PE.imp (sT kj PySem.F.slot_list_extend PySem.F.type_list_extend UW (ho hK) (iE (he hK) jH hs) rfl (by rw[hs];rfl) hl hs rfl) λσ H Q ⟨μ,ρ,h,rs,s,oo⟩=>eG rs s oo λμ1 x h1 vx H1 x1 Bo s1 r1 o1=>by
  split at o1
  ·rename_i hl;refine⟨tP s1 r1 hl,μ1,ρ,h1,Bo,s1,(o1.bind (R1:=RL G)).mono λv H2 ⟨μ2,ys,h2,x2,s2,⟨b,ws,ev,eb,nb,rb⟩,o2⟩=>?_⟩;subst ev
   cases x with
   |ref j=>
    dsimp only[xM]at o2
    cases q:getL h2 j with
    |none=>rw[q]at o2;exact o2.elim
    |some xs=>
     rw[q]at o2;dsimp only at o2;unfold lim at o2
     split at o2
     ·rename_i hz;obtain⟨vs,ea,ra⟩:=s2.ob j _ (cU q);obtain⟨_,rfl⟩:=Bc.mono x2 _ _ r1;obtain⟨x3,s3⟩:=s2.write (cU q) (ra.append rb);exact⟨_,b,vs,ws,rfl,rfl,ea,eb,by rw[ra.length,rb.length];exact sY hz,o2 μ2 _ _ x3 s3 rfl⟩
     ·exact o2.elim
   |_=>exact o2.elim
  ·exact o1.elim
def xN (o i d:Dv) (h:Hs):Option Hs:=match o,i with
 | .ref j,.int k=>match getL h j with
  |some xs=>match gE xs.length k with
   |some n=>some (h.set j (.lst (xs.set n d)))
   |none=>none
  |none=>none
 |_,_=>none
def tQ (mo mi me:M Dv):MS:=λρ h=>(me ρ h).thenS λd h1=>(mo ρ h1).thenS λo h2=>(mi ρ h2).thenS λi h3=>match xN o i d h3 with
 |some h4=>.nx ρ h4
 |none=>.bad
theorem KO {o:bo}{spos:Pos}(ho:aK X G E o mo) (hi:aK X G E i mi) (he:aK X G E e me)
  (ha:∀v,assign (.Subscript o i spos) X.env v=(do
   let ov <-holding [v] (eval o X.env)
   let iv <-holding [v,ov] (eval i X.env)
   standAt spos
   holding [v,ov,iv] (setItem ov iv v)
   release [v,ov,iv] []):=by intro _;rfl)
  (hs:swapsWithSole [.Subscript o i spos] e pos.line X.env=pure false:=by rfl) (hw:swappedStores [.Subscript o i spos] e X.env=pure none:=by rfl)
  (h1:(assignEach [.Subscript o i spos] X.env).map (·.2)=[assign (.Subscript o i spos) X.env]:=by rfl):jI X G E (.Assign [.Subscript o i spos] e pos) (tQ mo mi me):=λhK=>
 PS.imp (GY (he hK) (RZ (ho hK) (hi hK) UK ha) hs hw h1) λD σ H ⟨μ,ρ,h,rs,s,oo⟩=>oA rs s oo λμ1 d h1 v H1 x1 Bo s1 r1 o1=>oA Bo s1 o1 λμ2 ob h2 vo H2 x2 Cw s2 r2 o2=>oA Cw s2 o2 λμ3 ix h3 vi H3 x3 rs3 s3 r3 o3=>by
  cases ob with
  |ref j=>
   cases ix with
   |int k=>
    dsimp only[xN]at o3
    cases q:getL h3 j with
    |none=>rw[q]at o3;exact o3.elim
    |some xs=>
     rw[q]at o3;dsimp only at o3
     cases q2:gE xs.length k with
     |none=>rw[q2]at o3;exact o3.elim
     |some n=>rw[q2]at o3;obtain⟨vs,ea,ra⟩:=s3.ob j _ (cU q);obtain⟨_,rfl⟩:=Bc.mono x3 _ _ r2;rw[Bc]at r3;subst r3;obtain⟨x4,s4⟩:=s3.write (cU q) (RelDL.set (Bc.mono (x2.trans x3) _ _ r1) n ra);exact⟨_,vs,k,n,rfl,rfl,ea,by rw[ra.length];exact q2,o3 μ3 _ σ x4 s4 (rs3.mono x4)⟩
   |_=>exact o3.elim
  |_=>cases ix <;> exact o3.elim
end
section
variable{prog:bj}{w:cq}{A:cm}{E:af->ag->Prop}{s:ag}
theorem XC {it t:ah}{i:Nat}{items:Array af}{x:af}{Q:af->ag->Prop}(hit:s.heap.IsTupleIter it t i) (ht:s.heap.IsTuple t items) (hx:items[i]?=some x)
  (k:∀h',h'.IsTupleIter it t (i+1)->jf it s.heap h'->Q x { s with heap:=h' }):wpAny (model prog w) A (fj (.ref it)) Q E s:=by
 obtain⟨o,ho,hc,hd⟩:=id hit;obtain⟨ol,hol,hcl,nl,hdl⟩:=id ht;refine ae (ik (name:=nh "__next__") hit.typeIs F.slot_tuple_iterator_next (gy F.slot_tuple_iterator_next hit.typeIs F.entry_tuple_iterator_next ?_ (F.args_tuple_iterator_next_1 _)));have q0:∀{Q':af->ag->Prop}{E':af->ag->Prop}{B:cm},Q' (.ref t) s->wpAny (model prog w) B (field (.ref it) 0) Q' E' s:=λq=>gm ho hd (x:=.ref t) rfl q;have q1:∀{Q':af->ag->Prop}{E':af->ag->Prop}{B:cm},Q' (.int i 0) s->wpAny (model prog w) B (field (.ref it) 1) Q' E' s:=λq=>gm ho hd (x:=.int i 0) rfl q;refine ae (ai (ae (q0 ?_)));dsimp only;rw[if_neg (by simp)];refine ae (q1 (ae (jd hol hdl ?_)));rw[show((i:Int)).toNat=i from fi i];dsimp only;rw[hx];refine ae (zo ho hd (by simp) (ai ⟨x,rfl,ai (k _ ⟨_,ka _ ho (zy (vv hd _)), ?_, ?_⟩ (ow ..))⟩))
 ·rw[Obj.cls_mapFields];exact hc
 ·rw[vv hd];simp[rawInt]
end
section
variable{prog:bj}{w:cq}{A:cm}{E:af->ag->Prop}{s:ag}
theorem XD {α:Type}{Q:α->ag->Prop}(hh:A.handled=none) (k:∀h' e,(∀b o,s.heap.get? b=some o->h'.get? b=some o)->(∃o,h'.get? e=some o/\o.cls=.type "StopIteration")->E (.ref e) { s with heap:=h' }):
  wpAny (model prog w) A (sk:Sem α) Q E s:=by
 have e0:firstArgMember (.type "StopIteration") []=pure jy:=by show(pure (if _ then jy else jy):Sem af)=_;rw[ite_self]
 unfold sk newExc newTuple;refine ae (ae (fz (ae (uf e0 (fz (wpAny_raiseNew_none hh (k _ _ (λb o q=>ak _ (ak _ q)) ⟨_,bc _ rfl,rfl⟩)) (by size_fits)))) (by size_fits)))
theorem XE {it t:ah}{i:Nat}{items:Array af}{Q:af->ag->Prop}(hh:A.handled=none) (hit:s.heap.IsTupleIter it t i) (ht:s.heap.IsTuple t items) (hx:items[i]?=none)
  (k:∀h' e,Aa it s.heap h'->(∃o,h'.get? e=some o/\o.cls=.type "StopIteration")->E (.ref e) { s with heap:=h' }):wpAny (model prog w) A (fj (.ref it)) Q E s:=by
 obtain⟨o,ho,hc,hd⟩:=id hit;obtain⟨ol,hol,hcl,nl,hdl⟩:=id ht;refine ae (ik (name:=nh "__next__") hit.typeIs F.slot_tuple_iterator_next (gy F.slot_tuple_iterator_next hit.typeIs F.entry_tuple_iterator_next ?_ (F.args_tuple_iterator_next_1 _)));have q0:∀{Q':af->ag->Prop}{E':af->ag->Prop}{B:cm},Q' (.ref t) s->wpAny (model prog w) B (field (.ref it) 0) Q' E' s:=λq=>gm ho hd (x:=.ref t) rfl q;have q1:∀{Q':af->ag->Prop}{E':af->ag->Prop}{B:cm},Q' (.int i 0) s->wpAny (model prog w) B (field (.ref it) 1) Q' E' s:=λq=>gm ho hd (x:=.int i 0) rfl q;refine ae (ai (ae (q0 ?_)));dsimp only;rw[if_neg (by simp)];refine ae (q1 (ae (jd hol hdl ?_)));rw[show((i:Int)).toNat=i from fi i];dsimp only;rw[hx];refine ae (tj (ae (zo ho hd (by simp) (XD (show A.in1.handled=none from hh) λh' e kp st=>k h' e (λb u hb q=>kp b u ?_) st))));rw[lh _ _ (dh hb)];exact q
end
structure Draws (prog:bj) (w:cq) (it src:ah) (xs:List af) (st:Nat->cx->Prop):Prop where
 keep:∀i h h',st i h->(∀b o,b=it∨b=src->h.get? b=some o->h'.get? b=some o)->st i h'
 there:∀i h,st i h->∃o vs,h.get? it=some o/\o.data=.fields vs
 item:∀(A:cm) (i:Nat) (x:af) (s:ag) (Q:af->ag->Prop) (E:af->ag->Prop),xs[i]?=some x->st i s.heap->
  (∀h',st (i+1) h'->jf it s.heap h'->Q x { s with heap:=h' })->wpAny (model prog w) A (fj (.ref it)) Q E s
 done:∀(A:cm) (i:Nat) (s:ag) (Q:af->ag->Prop) (E:af->ag->Prop),A.handled=none->xs[i]?=none->st i s.heap->
  (∀h' e,Aa it s.heap h'->(∃o,h'.get? e=some o/\o.cls=.type "StopIteration")->E (.ref e) { s with heap:=h' })->wpAny (model prog w) A (fj (.ref it)) Q E s
structure Four (z TI TO i j u v:ah):Prop where
 a:z≠TO
 b:z≠i
 c:z≠j
 d:TO≠i
 e:TO≠j
 f:i≠j
 g:TI≠z
 h:TI≠TO
 k:TI≠i
 l:TI≠j
 u1:u≠z
 u2:u≠TO
 u3:u≠i
 u4:u≠j
 v1:v≠z
 v2:v≠TO
 v3:v≠i
 v4:v≠j
theorem iV {b x y c:ah}(h:b=x∨b=y) (p:x≠c) (q:y≠c):b≠c:=by
 rcases h with h|h
 ·rw[h];exact p
 ·rw[h];exact q
def xO (z TO i j:ah) (h h':cx):Prop:=∀b o,b≠z->b≠TO->b≠i->b≠j->h.get? b=some o->h'.get? b=some o
section
variable{prog:bj}{w:cq}{A:cm}{E:af->ag->Prop}{s:ag}{z TI TO i j u v:ah}{xs ys:List af}{st su:Nat->cx->Prop}
theorem XF {n:Nat}{x y a b:af}{Q:af->ag->Prop}(F4:Four z TI TO i j u v) (P:Draws prog w i u xs st) (R:Draws prog w j v ys su) (hz:xq s.heap z TI TO .none) (hTI:mw s.heap TI (.ref i) (.ref j)) (hTO:mw s.heap TO a b)
  (p:st n s.heap) (r:su n s.heap) (hx:xs[n]?=some x) (hy:ys[n]?=some y)
  (k:∀h' T,s.heap.objs.size<=T->xq h' z TI TO (rawInt T)->mw h' TI (.ref i) (.ref j)->mw h' TO x y->st (n+1) h'->su (n+1) h'->mw h' T x y->xO z TO i j s.heap h'->Q (.ref T) { s with heap:=h' }):
  wpAny (model prog w) A (nq.«zip.__next__» ⟨[.ref z],[]⟩) (λfin s'=>∃v,fin=.done (.ret v)/\Q v s') E s:=by
 refine ae (ai (ae (gm hz rfl (x:=.bool false) rfl (ae (gm hz rfl (x:=.ref TI) rfl (ae (jd hTI rfl ?_)))))));have fr:∀{Q':Bool->ag->Prop}{E':af->ag->Prop},Q' true s->wpAny (model prog w) A (rp (.ref z)) Q' E' s:=λq=>ae (gm hz rfl (x:=.none) rfl (ai q));refine ae (fr ?_);rw[if_pos rfl];refine ae (tj (ae (gm hz rfl (x:=.ref TO) rfl (ae (jt hz (by simp) λg1 z1 b1=>?_)))));have z1':xq g1 z TI TO .ellipsis:=z1;refine ae ?_;show wpAny _ _ (forIn [(ja i,0),(ja j,1)] _ _) _ _ _;rw[qg];refine ae (ae (uk ?_));show wpAny _ _ (fj (.ref i) >>= _) _ _ _;refine ae (P.item A n x _ _ _ hx (P.keep n _ _ p λb o hb q=>b1.extBut _ _ (iV hb (dh F4.b) F4.u1) q) λg2 p2 b2=>ai ?_);have t2:mw g2 TO a b:=b2.extBut _ _ F4.d (b1.extBut _ _ (dh F4.a) hTO);refine ae (jd t2 rfl (ae (vz t2 λg3 t3 b3=>ae (qu (ai ?_)))));have t3':mw g3 TO x b:=t3;dsimp only;rw[qg];refine ae (ae (uk ?_));show wpAny _ _ (fj (.ref j) >>= _) _ _ _;have r3:su n g3:=R.keep n _ _ r λb o hb q=>b3.extBut _ _ (iV hb (dh F4.e) F4.v2) (b2.extBut _ _ (iV hb (dh F4.f) F4.v3) (b1.extBut _ _ (iV hb (dh F4.c) F4.v1) q));refine ae (R.item A n y _ _ _ hy r3 λg4 r4 b4=>ai ?_);have t4:mw g4 TO x b:=b4.extBut _ _ F4.e t3';refine ae (jd t4 rfl (ae (vz t4 λg5 t5 b5=>ae (qu (ai ?_)))));have t5':mw g5 TO x y:=t5;dsimp only;rw[List.forIn_nil];refine ai ?_;refine ae (jd t5' rfl (ae (wpAny_newTuple ?_)));have z5:xq g5 z TI TO .ellipsis:=b5.extBut _ _ F4.a (b4.extBut _ _ F4.c (b3.extBut _ _ F4.a (b2.extBut _ _ F4.b z1')));have sz:g5.objs.size=s.heap.objs.size:=by rw[b5.1,b4.1,b3.1,b2.1,b1.1]
 have all5:xO z TO i j s.heap g5:=λc o c1 c2 c3 c4 q=>b5.extBut _ _ c2 (b4.extBut _ _ c4 (b3.extBut _ _ c2 (b2.extBut _ _ c3 (b1.extBut _ _ c1 q))));have p5:st (n+1) g5:=P.keep _ _ _ p2 λb o hb q=>b5.extBut _ _ (iV hb (dh F4.d) F4.u2) (b4.extBut _ _ (iV hb F4.f F4.u4) (b3.extBut _ _ (iV hb (dh F4.d) F4.u2) q));have r5:su (n+1) g5:=R.keep _ _ _ r4 λb o hb q=>b5.extBut _ _ (iV hb (dh F4.e) F4.v2) q;generalize hob:({ cls:=.type "tuple",dict:=none,data:=.seq [x,y].toArray }:Obj)=ob;have zp:xq (g5.push ob) z TI TO .ellipsis:=ak _ z5;refine ae (ae (jt zp (by simp) λg7 z7 b7=>?_));have z7':xq g7 z TI TO (rawInt g5.objs.size):=z7;refine jt z7' (by simp) λg8 z8 b8=>ai ⟨_,rfl, ?_⟩;have up:∀c o,c≠z->g5.get? c=some o->g8.get? c=some o:=λc o c1 q=>b8.extBut _ _ c1 (b7.extBut _ _ c1 (ak _ q));have lz:z<g5.objs.size:=aq z5;have T8:mw g8 g5.objs.size x y:=b8.extBut _ _ (jn lz) (b7.extBut _ _ (jn lz) (by rw[<-hob];exact bc _ rfl));refine k g8 g5.objs.size (qr sz.symm) z8 (up _ _ F4.g (all5 _ _ F4.g F4.h F4.k F4.l hTI)) (up _ _ (dh F4.a) t5') (P.keep _ _ _ p5 λb o hb q=>up _ _ (iV hb (dh F4.b) F4.u1) q) (R.keep _ _ _ r5 λb o hb q=>up _ _ (iV hb (dh F4.c) F4.v1) q) T8 λc o c1 c2 c3 c4 q=>up _ _ c1 (all5 c o c1 c2 c3 c4 q)
end
section
variable{prog:bj}{w:cq}{A:cm}{E:af->ag->Prop}{s:ag}{z TI TO i j u v:ah}{xs ys:List af}{st su:Nat->cx->Prop}
theorem XG {n:Nat}{a b:af}{Q:PySem.Fin->ag->Prop}(hh:A.handled=none) (F4:Four z TI TO i j u v) (P:Draws prog w i u xs st) (R:Draws prog w j v ys su) (hz:xq s.heap z TI TO .none) (hTI:mw s.heap TI (.ref i) (.ref j)) (hTO:mw s.heap TO a b)
  (p:st n s.heap) (r:su n s.heap) (hend:xs[n]?=none∨ys[n]?=none)
  (k:∀h' e,xO z TO i j s.heap h'->(∃o,h'.get? e=some o/\o.cls=.type "StopIteration")->E (.ref e) { s with heap:=h' }):
  wpAny (model prog w) A (nq.«zip.__next__» ⟨[.ref z],[]⟩) Q E s:=by
 refine ae (ai (ae (gm hz rfl (x:=.bool false) rfl (ae (gm hz rfl (x:=.ref TI) rfl (ae (jd hTI rfl ?_)))))));have fr:∀{Q':Bool->ag->Prop}{E':af->ag->Prop},Q' true s->wpAny (model prog w) A (rp (.ref z)) Q' E' s:=λq=>ae (gm hz rfl (x:=.none) rfl (ai q));refine ae (fr ?_);rw[if_pos rfl];refine ae (tj (ae (gm hz rfl (x:=.ref TO) rfl (ae (jt hz (by simp) λg1 z1 b1=>?_)))));have z1':xq g1 z TI TO .ellipsis:=z1;have p1:st n g1:=P.keep n _ _ p λb o hb q=>b1.extBut _ _ (iV hb (dh F4.b) F4.u1) q;have fin:∀(g:cx) (e:ah),xq g z TI TO .ellipsis->xO z TO i j s.heap g->(∃o,g.get? e=some o/\o.cls=.type "StopIteration")->
   wpAny (model prog w) A (setField (.ref z) 0 .none) (λ_ s'=>E (.ref e) s') E { s with heap:=g }:=λg e zz bt ⟨o,he,hc⟩=>
  jt zz (by simp) λg' _ b'=>k g' e (λc u c1 c2 c3 c4 q=>b'.extBut _ _ c1 (bt c u c1 c2 c3 c4 q)) ⟨o,b'.extBut _ _ (λq=>by subst q;rw[zz]at he;cases he;simp at hc) he,hc⟩
 refine ae ?_;show wpAny _ _ (forIn [(ja i,0),(ja j,1)] _ _) _ _ _;rw[qg];refine ae (ae (uk ?_));show wpAny _ _ (fj (.ref i) >>= _) _ _ _
 cases hx:xs[n]? with
 |none=>exact ae (P.done A n _ _ _ hh hx p1 λg2 e b2 he=>fin g2 e (b2 _ _ F4.b z1') (λc u c1 _ c3 _ q=>b2 _ _ c3 (b1.extBut _ _ c1 q)) he)
 |some x=>
  have hy:ys[n]?=none:=by
   rcases hend with q|q
   ·rw[hx]at q;cases q
   ·exact q
  refine ae (P.item A n x _ _ _ hx p1 λg2 p2 b2=>ai ?_);have t2:mw g2 TO a b:=b2.extBut _ _ F4.d (b1.extBut _ _ (dh F4.a) hTO);refine ae (jd t2 rfl (ae (vz t2 λg3 t3 b3=>ae (qu (ai ?_)))));dsimp only;rw[qg];refine ae (ae (uk ?_));show wpAny _ _ (fj (.ref j) >>= _) _ _ _;have r3:su n g3:=R.keep n _ _ r λb o hb q=>b3.extBut _ _ (iV hb (dh F4.e) F4.v2) (b2.extBut _ _ (iV hb (dh F4.f) F4.v3) (b1.extBut _ _ (iV hb (dh F4.c) F4.v1) q));exact ae (R.done A n _ _ _ hh hy r3 λg4 e b4 he=>fin g4 e (b4 _ _ F4.c (b3.extBut _ _ F4.a (b2.extBut _ _ F4.b z1'))) (λc u c1 c2 c3 c4 q=>b4 _ _ c4 (b3.extBut _ _ c2 (b2.extBut _ _ c3 (b1.extBut _ _ c1 q)))) he)
theorem xP {it t:ah}{items:Array af}(hne:t≠it):Draws prog w it t items.toList (λi h=>h.IsTupleIter it t i/\h.IsTuple t items) where
 keep:=λi h h' ⟨⟨o,e,r⟩,⟨o2,e2,r2⟩⟩ k=>⟨⟨o,k _ _ (.inl rfl) e,r⟩,⟨o2,k _ _ (.inr rfl) e2,r2⟩⟩
 there:=λi h ⟨⟨o,e,_,d⟩,_⟩=>⟨o,_,e,d⟩
 item:=λA i x s Q E hx ⟨a,b⟩ k=>XC a b (by simpa using hx) λh' a' sb=>k h' ⟨a',b.extBut sb.extBut hne⟩ sb
 done:=λA i s Q E hh hx ⟨a,b⟩ k=>XE hh a b (by simpa using hx) k
end
def xQ (K:ao) (t u:ah):It:=
 ⟨λi H=>∃vs ws v w,Bp K H t vs/\Bp K H u ws/\vs[i]?=some v/\ws[i]?=some w,
  λi H x H'=>∃p v w,x=.ref p/\H p=none/\H'=aT H p (.tup [v,w])/\(∀vs,Bp K H t vs->vs[i]?=some v)/\∀ws,Bp K H u ws->ws[i]?=some w,
  λi H=>∃vs ws,Bp K H t vs/\Bp K H u ws/\(vs.length<=i∨ws.length<=i)⟩
structure ZipAt (z TI TO i j t u:ah) (n:Nat) (h:cx):Prop where
 zp:xq h z TI TO .none
 ti:mw h TI (.ref i) (.ref j)
 to:∃a b,mw h TO a b
 i1:h.IsTupleIter i t n
 i2:h.IsTupleIter j u n
section
variable{X:Cx}{pins:List (ah×Obj)}{σ:St}{H:Hp}{s:ag}
theorem Inv.turns {h':cx}{ch:List ah}{T:ah}{vs:List V}{its:List af}(I:Inv X pins σ H s) (Eg:∀b∈ch,dN X pins H b) (k:∀b o,b∉ch->s.heap.get? b=some o->h'.get? b=some o) (there:∀b∈ch,∃o,h'.get? b=some o)
  (hT:s.heap.objs.size<=T) (hv:Bd vs its) (hl:vs.length<=cf) (tp:Bx h' T its.toArray):Inv X pins σ (aT H T (.tup vs)) { s with heap:=h' }:=by
 have nT:H T=none:=I.hok.fresh hT;have nch:∀b o,H b=some o->b∉ch:=λb o q z=>by rw[(Eg b z).1]at q;cases q
 have un:Un (dZ X.stack) ch H (aT H T (.tup vs)) s.heap h':=
  ⟨λb o q _ _ hb=>k b o hb q,λb o q _ _ hb=>⟨o.slots,k b o hb q⟩,λb o q n _=>by rw[bW (az (av (aq q) hT))];exact n,
   λb o q hb=>⟨o,k b o hb q⟩,λb xs q=>cZ nT b _ q,λb o u q=>cZ nT b _ q,λb ps q=>⟨#[],by rw[cZ nT b _ q];simp⟩⟩
 have ok:Ci X.prog X.w (aT H T (.tup vs)) h':=λb o q=>by
  by_cases hb:b=T
  ·subst hb;rw[dF]at q;cases q;exact⟨hl,its,hv,tp⟩
  ·rw[bW hb]at q;refine(I.hok b o q).stay (λc v hc z=>k c v ?_ z) (λc z=>cZ nT c _ z) λc xs z=>cZ nT c _ z
   rcases hc with rfl|hc
   ·exact nch c o q
   ·exact nch c _ hc
 exact I.call (g':=s.gens) (d':=s.drawn) (t':=s.toks) un ok I.bare λb hb=>let ⟨_,f1,_,f3,f4,f5⟩:=Eg b hb;⟨f3,f1,f4,f5⟩
theorem Inv.turns0 {h':cx}{ch:List ah}(I:Inv X pins σ H s) (Eg:∀b∈ch,dN X pins H b) (k:∀b o,b∉ch->s.heap.get? b=some o->h'.get? b=some o):Inv X pins σ H { s with heap:=h' }:=by
 have nch:∀b o,H b=some o->b∉ch:=λb o q z=>by rw[(Eg b z).1]at q;cases q
 refine I.call (g':=s.gens) (d':=s.drawn) (t':=s.toks) (ch:=ch) ⟨λb o q _ _ hb=>k b o hb q,λb o q _ _ hb=>⟨o.slots,k b o hb q⟩,λ_ _ _ n _=>n,λb o q hb=>⟨o,k b o hb q⟩,λ_ _ q=>q,λ_ _ _ q=>q,λb ps q=>⟨#[],by rw[q];simp⟩⟩ (λb o q=>?_) I.bare λb hb=>let ⟨_,f1,_,f3,f4,f5⟩:=Eg b hb;⟨f3,f1,f4,f5⟩;refine(I.hok b o q).stay (λc v hc z=>k c v ?_ z) (λ_ z=>z) λ_ _ z=>z
 rcases hc with rfl|hc
 ·exact nch c o q
 ·exact nch c _ hc
end
theorem KQ {P:bj}{w:cq}{K:ao}{elts:List bo}{kk:Nat}{tp:Pos}{z TI TO i j t u:ah}(F4:Four z TI TO i j t u) (hti:t≠i) (huj:u≠j):
  Turn P w K (.Tuple elts kk tp) (xQ K t u) [z,TI,TO,i,j] z (ZipAt z TI TO i j t u) where
 mem:=by simp
 obj:=λn h st b hb=>by
  obtain⟨zp,ti,⟨a,b',to⟩,⟨o1,e1,_,d1⟩,⟨o2,e2,_,d2⟩⟩:=st;simp at hb
  rcases hb with rfl|rfl|rfl|rfl|rfl
  ·exact⟨_,zp,λv q=>by cases q⟩
  ·exact⟨_,ti,λv q=>by cases q⟩
  ·exact⟨_,to,λv q=>by cases q⟩
  ·exact⟨_,e1,λv q=>by rw[d1]at q;cases q⟩
  ·exact⟨_,e2,λv q=>by rw[d2]at q;cases q⟩
 keep:=λn h h' st k=>by obtain⟨zp,ti,⟨a,b',to⟩,⟨o1,e1,r1⟩,⟨o2,e2,r2⟩⟩:=st;exact⟨k _ (by simp) _ zp,k _ (by simp) _ ti,⟨a,b',k _ (by simp) _ to⟩,⟨o1,k _ (by simp) _ e1,r1⟩,⟨o2,k _ (by simp) _ e2,r2⟩⟩
 item:=by
  intro X hP hw hK hc n pins s σ H E I hf st hg;subst hP hw hK;obtain⟨vs,ws,v,w',hq,hr,hv,hw'⟩:=hg;obtain⟨its,rv,p1,z1⟩:=I.tuple hq;obtain⟨jts,rw',p2,z2⟩:=I.tuple hr;obtain⟨x,hx,rx⟩:=rv.get hv;obtain⟨y,hy,ry⟩:=rw'.get hw';obtain⟨zp,ti,⟨a,b,to⟩,i1,i2⟩:=st;have hT:s.TypeIs (.ref z) "zip" := ⟨_,zp,rfl⟩;unfold pyNext;refine ae (wx (ik (name:=nh "__next__") hT F.slot_zip_next (gy F.slot_zip_next hT F.entry_zip_next
   (XF F4 (xP (items:=its.toArray) hti) (xP (items:=jts.toArray) huj) zp ti to ⟨i1,p1⟩ ⟨i2,p2⟩ (by simpa using hx) (by simpa using hy) λh' T Ea a1 a2 a3 a4 a5 a6 bt=>ai ⟨_,rfl, ?_⟩) (F.args_zip_next_1 _))))
  refine Ab a1 λh2 z2' sb=>?_;have kp:∀b o,b∉[z,TI,TO,i,j]->s.heap.get? b=some o->h2.get? b=some o:=λb o hb q=>by simp at hb;obtain⟨n1,n2,n3,n4,n5⟩:=hb;exact sb.extBut _ _ n1 (bt b o n1 n3 n4 n5 q)
  have Tz:T≠z:=jn (av (aq zp) Ea);have T2:mw h2 T x y:=sb.extBut _ _ Tz a6;have th:∀b∈[z,TI,TO,i,j],∃o,h2.get? b=some o:=λb hb=>by
   obtain⟨⟨o1,e1,_⟩,_⟩:=a4;obtain⟨⟨o2,e2,_⟩,_⟩:=a5;simp at hb
   rcases hb with rfl|rfl|rfl|rfl|rfl
   ·exact⟨_,z2'⟩
   ·exact⟨_,sb.extBut _ _ F4.g a2⟩
   ·exact⟨_,sb.extBut _ _ (dh F4.a) a3⟩
   ·exact⟨_,sb.extBut _ _ (dh F4.b) e1⟩
   ·exact⟨_,sb.extBut _ _ (dh F4.c) e2⟩
  have I2:=Inv.turns (T:=T) (vs:=[v,w']) (its:=[x,y]) I hf kp th Ea (.cons rx (.cons ry .nil)) (by show 2<=cf;decide) ⟨_,T2,rfl,rfl,_,rfl⟩;have nT:H T=none:=I.hok.fresh Ea;refine⟨.ref T,_,I2,rfl,⟨T,v,w',rfl,nT,rfl,λCc h'=>by rw[I.tuple_inj h' hq];exact hv,λws' h'=>by rw[I.tuple_inj h' hr];exact hw'⟩, ?_,λb hb=>?_⟩
  ·exact⟨z2',sb.extBut _ _ F4.g a2,⟨_,_,sb.extBut _ _ (dh F4.a) a3⟩,a4.1.extBut sb.extBut (dh F4.b),a5.1.extBut sb.extBut (dh F4.c)⟩
  ·obtain⟨o,q,_⟩:∃o,s.heap.get? b=some o/\True:=by
    obtain⟨o1,e1,_⟩:=i1;obtain⟨o2,e2,_⟩:=i2;simp at hb
    rcases hb with rfl|rfl|rfl|rfl|rfl
    ·exact⟨_,zp,trivial⟩
    ·exact⟨_,ti,trivial⟩
    ·exact⟨_,to,trivial⟩
    ·exact⟨_,e1,trivial⟩
    ·exact⟨_,e2,trivial⟩
   rw[bW (az (av (aq q) Ea))];exact(hf b hb).1
 done:=by
  intro X hP hw hK hc n pins s σ H E I hf st hg;subst hP hw hK;obtain⟨vs,ws,hq,hr,hend⟩:=hg;obtain⟨its,rv,p1,z1⟩:=I.tuple hq;obtain⟨jts,rw',p2,z2⟩:=I.tuple hr;have l1:=rv.length;have l2:=rw'.length;obtain⟨zp,ti,⟨a,b,to⟩,i1,i2⟩:=st;have hT:s.TypeIs (.ref z) "zip" := ⟨_,zp,rfl⟩;unfold pyNext;refine ae (wx (ik (name:=nh "__next__") hT F.slot_zip_next (gy F.slot_zip_next hT F.entry_zip_next
   (XG (show X.A.in1.handled=none from I.ok.hd hc) F4 (xP (items:=its.toArray) hti) (xP (items:=jts.toArray) huj) zp ti to ⟨i1,p1⟩ ⟨i2,p2⟩ (by
    rcases hend with q|q
    ·exact .inl (by simp;omega)
    ·exact .inr (by simp;omega)) λh' e bt ⟨o,he,hcl⟩=>ae (yn (T := "StopIteration") (b:=true) ⟨o,he,hcl⟩ isSubtype_stop (ai ⟨rfl, ?_⟩))) (F.args_zip_next_1 _))))
  refine Inv.turns0 I hf λb o hb q=>?_;simp at hb;exact bt b o hb.1 hb.2.2.1 hb.2.2.2.1 hb.2.2.2.2 q
 self:=λ_ _ _ _ _ st h=>qj st.zp h
def KR (t u:ah) (h:cx) (z:ah) (h':cx):Prop:=∃TI TO i j,ZipAt z TI TO i j t u 0 h'/\Four z TI TO i j t u/\(∀b∈[z,TI,TO,i,j],h.objs.size<=b)/\∀b o,h.get? b=some o->h'.get? b=some o
theorem tR {h h':cx}{o:Obj}(e:h'=h.push o) (nf:o.isFreed=false):h'.get? h.objs.size=some o:=by rw[e];exact bc _ nf
theorem XH (n t u:Nat) (lt:t<n) (lu:u<n):Four (n+4) (n+2) (n+3) n (n+1) t u:=by
 have ne:∀{a b:Nat},(a<b∨b<a)->a≠b:=λh=>by omega
 exact⟨ne (by omega),ne (by omega),ne (by omega),ne (by omega),ne (by omega),ne (by omega),ne (by omega),ne (by omega),ne (by omega),ne (by omega),ne (by omega),ne (by omega),ne (by omega),ne (by omega),ne (by omega),ne (by omega),ne (by omega),ne (by omega)⟩
theorem XI {t u:ah}{hp h1 h2 h3 h4 h5:cx}{n:Nat}(hn:n=hp.objs.size) (lt:t<n) (lu:u<n)
  (e1:h1=hp.push { cls:=.type "tuple_iterator",data:=.fields #[.ref t,.int 0 0] }) (e2:h2=h1.push { cls:=.type "tuple_iterator",data:=.fields #[.ref u,.int 0 0] }) (e3:h3=h2.push { cls:=.type "tuple",data:=.seq #[.ref n,.ref (n+1)] })
  (e4:h4=h3.push { cls:=.type "tuple",data:=.seq #[.none,.none] }) (e5:h5=h4.push { cls:=.type "zip",data:=.fields #[.none,.bool false,.bool false,.ref (n+2),.ref (n+3)] }):KR t u hp (n+4) h5:=by
 have z1:h1.objs.size=n+1:=by rw[e1,fg,hn]
 have z2:h2.objs.size=n+2:=by rw[e2,fg,z1]
 have z3:h3.objs.size=n+3:=by rw[e3,fg,z2]
 have z4:h4.objs.size=n+4:=by rw[e4,fg,z3]
 have up:∀(h:cx) (o:Obj) (b:ah) (q:Obj),h.get? b=some q->(h.push o).get? b=some q:=λh o b q e=>ak _ e;have g1:=tR e1 rfl;have g2:=tR e2 rfl;have g3:=tR e3 rfl;have g4:=tR e4 rfl;have g5:=tR e5 rfl;rw[<-hn]at g1;rw[z1]at g2;rw[z2]at g3;rw[z3]at g4;rw[z4]at g5;have u2:∀b q,h2.get? b=some q->h5.get? b=some q:=λb q e=>by rw[e5,e4,e3];exact up _ _ _ _ (up _ _ _ _ (up _ _ _ _ e))
 have u1:∀b q,h1.get? b=some q->h5.get? b=some q:=λb q e=>u2 b q (by rw[e2];exact up _ _ _ _ e);have u3:∀b q,h3.get? b=some q->h5.get? b=some q:=λb q e=>by rw[e5,e4];exact up _ _ _ _ (up _ _ _ _ e)
 have u4:∀b q,h4.get? b=some q->h5.get? b=some q:=λb q e=>by rw[e5];exact up _ _ _ _ e
 refine⟨n+2,n+3,n,n+1,⟨g5,u3 _ _ g3,⟨_,_,u4 _ _ g4⟩,⟨_,u1 _ _ g1,rfl,rfl⟩,⟨_,u2 _ _ g2,rfl,rfl⟩⟩, ?_, ?_,λb q e=>u1 b q (by rw[e1];exact up _ _ _ _ e)⟩
 ·exact XH n t u lt lu
 ·intro b hb;rw[<-hn];simp at hb
  rcases hb with rfl|rfl|rfl|rfl|rfl
  ·exact pq _ _
  ·exact pq _ _
  ·exact pq _ _
  ·exact aj _
  ·exact pq _ _
theorem KS {t u:ah}(xs ys:Array af):Meets (nq.«zip.__new__» ⟨[.type "zip",.ref t,.ref u],[]⟩) (λ_ R s=>s.heap.IsTuple t xs/\s.heap.IsTuple u ys/\∀h' z,KR t u s.heap z h'->R (.ok (.ret (.ref z))) { s with heap:=h' }):=
 .of_wp λprog w A R s h=>by
  obtain⟨ht,hu,k⟩:=h;obtain⟨hp,g,d,tk,os⟩:=s;have sub:=sub_zip;have ht':(⟨hp,g,d,tk,os⟩:ag).heap.IsTuple t xs:=ht;have Bq:(⟨hp.push { cls:=.type "tuple_iterator",data:=.fields #[.ref t,.int 0 0] },g,d,tk,os⟩:ag).heap.IsTuple u ys:=hu.push _
  wp_walk using sr ht',sr Bq
  have lt:t<hp.objs.size:=by obtain⟨o,e,_⟩:=ht;exact aq e
  have lu:u<hp.objs.size:=by obtain⟨o,e,_⟩:=hu;exact aq e
  simp only[fg];refine⟨_,rfl,k _ _ (XI rfl lt lu rfl rfl rfl rfl ?_)⟩;simp only[fg];rfl
section
variable{X:Cx}{G:Cfg}{E:XK}{a b:bo}{elts:List bo}{kk:Nat}{tp p pos:Pos}{ta:TA}{ms:M Aw }
def XJ (K:ao) (ta:TA):TI:=λσ H R=>ta σ H λvs H1=>∃t u xs ys,vs=[.ref t,.ref u]/\Bp K H1 t xs/\Bp K H1 u ys/\R (xQ K t u) H1
theorem KU:dy "zip" = some (.type "zip"):=by decide +kernel
theorem XM (hg:Gl X "zip") (hm:X.mg "zip" = none) (ha:PA X [a,b] ta) (hs:ar [a,b] X.env=[(false,eval a X.env),(false,eval b X.env)]:=by rfl) (hs2:ar [b] X.env=[(false,eval b X.env)]:=by rfl):
  PI X (.Tuple elts kk tp) (.Call (.Name "zip" p) [a,b] [] pos) (XJ X.K ta):=by
 intro pins s σ H R I h;refine Call_ (nW I hg hm KU (jr (bD (ha pos pins s σ H _ I h) λus s1 ⟨vs,H1,I1,r1,q1⟩=>?_) (by rw[hs,hs2]) (by rw[hs2];rfl)));obtain⟨t,u,xs,ys,e,hq,hr,q⟩:=q1;subst e;obtain⟨u1,u2,rfl,e1,e2⟩:=qO r1;cases e1;cases e2;obtain⟨its,rv,p1,_⟩:=I1.tuple hq;obtain⟨jts,rw',p2,_⟩:=I1.tuple hr;refine callType_new F.called_zip (by decide) (F.typeCall_zip_2 _ _) (F.newCall_zip_2 _ _) (λobj=>F.args_object_init_3 obj _ _) F.entry_zip_new (KS its.toArray jts.toArray) ⟨p1,p2,λh' z nz=>?_⟩;obtain⟨TI,TO,i,j,za,f4,fresh,kp⟩:=nz;refine⟨⟨_,za.zp,rfl⟩, ?_⟩;have I2:Inv X pins σ H1 { s1 with heap:=h' }:=I1.kept (t':=s1.toks) kp;refine qj za.zp ⟨z,[z,TI,TO,i,j],_,_,H1,rfl,I2,KQ f4 f4.u3 f4.v4,za,λb hb=>I1.fpOk (fresh b hb) (I1.hok.fresh (fresh b hb)),q⟩
def lT (xs ys:Aw):Src:=eK ((xs.zip ys).map λq=>.tup [q.1,q.2])
def rD:Aw->Hs->Rs Src
 | [.tup xs,.tup ys],h=>.ok (lT xs ys) h
 |_,_=>.bad
theorem Ce.zip {μ:Nat->ah}{n:Nat}{H:Hp}{t u:ah}{vs ws:List V}{xs ys:Aw}{K:ao}(e:H t=some (.tup vs)) (e':H u=some (.tup ws)) (r:RelDL G μ n H xs vs) (r':RelDL G μ n H ys ws):Ce G μ n H (lT xs ys) (xQ K t u):=by
 intro k μ2 h2 H2 x2 s2;have f:=x2.im t (.tup vs) trivial e;have f':=x2.im u (.tup ws) trivial e';have g:=RelDL.mono x2 _ _ r;have g':=RelDL.mono x2 _ _ r';have hl:(lT xs ys).n=min xs.length ys.length:=by simp[lT,eK]
 constructor
 ·intro hk d hd;have Cy:((xs.zip ys).map λq=>Dv.tup [q.1,q.2])[k]?=some d:=hd;rw[dk]at Cy
  cases q:(xs.zip ys)[k]? with
  |none=>rw[q]at Cy;cases Cy
  |some xy=>
   rw[q]at Cy;cases Cy;obtain⟨qx,qy⟩:=ni.mp q;obtain⟨v,ev,rv⟩:=g.get qx;obtain⟨w',ew,rw'⟩:=g'.get qy;refine⟨⟨vs,ws,v,w',Bp.of f,Bp.of f',ev,ew⟩,λx H' hy=>?_⟩;obtain⟨pp,v1,w1,rfl,np,rfl,a1,a2⟩:=hy;have b1:=a1 vs (Bp.of f);have b2:=a2 ws (Bp.of f');rw[ev]at b1;rw[ew]at b2
   cases b1;cases b2
   have sm:Cn H2 (aT H2 pp (.tup [v,w'])):=cZ np;exact⟨sm,pp,_,rfl,dF,RelDL.cons (Bc.mono (Ext.same sm) _ _ rv) (RelDL.cons (Bc.mono (Ext.same sm) _ _ rw') RelDL.nil)⟩
 ·intro hk _;refine⟨vs,ws,Bp.of f,Bp.of f', ?_⟩;rw[g.length,g'.length,hk,hl];omega
theorem XN (hg:Gl X "zip") (hm:X.mg "zip" = none) (ha:eF X G E [a,b] ms) (hs:ar [a,b] X.env=[(false,eval a X.env),(false,eval b X.env)]:=by rfl) (hs2:ar [b] X.env=[(false,eval b X.env)]:=by rfl):
  jJ X G E (.Tuple elts kk tp) (.Call (.Name "zip" p) [a,b] [] pos) (aO rD ms):=λhK=>
 PI.imp (XM hg hm (ha hK) hs hs2) λσ H R ⟨μ,ρ,h,rs,s,o⟩=>kR rs s o λμ1 ds h1 vs H1 x1 Bo s1 r1 o1=>by
  unfold rD at o1
  split at o1
  ·rename_i xs ys;obtain⟨v,v',rfl,rv,rv'⟩:=tI r1;obtain⟨t,us,rfl,e,r⟩:=rv;obtain⟨u,ws,rfl,e',r'⟩:=rv';exact⟨t,u,us,ws,rfl,Bp.of e,Bp.of e',o1.val s1 (Ce.zip e e' r r')⟩
  ·exact o1.elim
end
section
variable{prog:bj}{w:cq}{A:cm}{E:af->ag->Prop}{s:ag}{K:Frag}{e C N:ah}{o:Obj}
theorem XO {Q:Bool->ag->Prop}(X:K.In s.heap) (he:s.heap.get? e=some o) (hc:o.cls=.ref C) (hn:subIn K (.ref N) (.type "BaseException")=some true) (ht:subIn K (.type "type") (.type "tuple")=some false) (hk:kitCls K (.ref N) (.ref N)=some true) {b:Bool}(hs:subIn K (.ref C) (.ref N)=some b) (q:Q b s):
  wpAny (model prog w) A (excMatches (.ref e) (.ref N)) Q E s:=by
 have L1:=(kit_cls (M:=model prog w) X hk).1;have L2:=(kit_cls (M:=model prog w) X hk).2.1;have L3:=looks_subIn (M:=model prog w) X hn;have L4:=looks_subIn (M:=model prog w) X hs;have L5:=looks_subIn (M:=model prog w) X ht;obtain⟨hp,g,d,tk,os⟩:=s;unfold excMatches
 repeat (any_goals (first|assumption|(with_reducible refine wpAny_loadPart_at he ?_;rw[hc])|with_reducible refine L1.at ?_|with_reducible refine L2.at ?_|with_reducible refine L3.at ?_|with_reducible refine L4.at ?_|with_reducible refine L5.at ?_|wp_step))
 cases b
 all_goals (repeat (any_goals (first|assumption|wp_step)))
end
def jS (P:bj) (w:cq) (K:ao) (mg:Str->Option af) (base:cx) (N:Au) (qual:Str) (scope:gh) (f:ah) (cd:af) (cl:List (Str×ah)) (A:cm) (outer:List Env) (s:ag) (H:Hp) (E:XK):Cx where
 prog:=P
 w:=w
 K:=K
 mg:=mg
 base:=base
 A:=A.deeper (nv qual scope s.heap.objs.size f cd cl)
 N:=N
 s₀:=s
 H₀:=H
 env:=nv qual scope s.heap.objs.size f cd cl
 outer:=outer
 stack:=nv qual scope s.heap.objs.size f cd cl::outer
 ex:=[]
 calm:=true
 fn:=λ_=>false
 pn:=[]
 xe:=λe s'=>wpAny (model P w) (A.deeper (nv qual scope s.heap.objs.size f cd cl)) (leaving (nv qual scope s.heap.objs.size f cd cl) e) (λ_ s''=>bI P w base outer H s E e s'') (λe' s''=>bI P w base outer H s E e' s'') s'
structure Br (N:Au) (sc:gh):Prop where
 kind:sc.kind=.function
 co:sc.isCoroutine=false
 gen:sc.isGenerator=false
 nocell:∀x∈sc.names,x.2≠.cell
 fr:∀x∈N,sc.names.lookup x=some .free
 all:∀x∈sc.names,x.2=.free->x.1∈N
structure Ep (G:Cfg) (base:cx) (H:Hp) (μ:Nat->ah) (n:Nat) (N:Au) (params:km) (body:bo) (scope:gh) (f c':ah) (cl:List (Str×ah)) (ds:Aw):Prop where
 ob:∃pm ctv,H f=some (.frz (kz "<lambda>" G.lq params body scope cl pm c' ctv) (.own 0))
 cd:∃oc,H c'=some (.frz oc (.own 0))/\xA G.lq oc
 inj:∀x y c,cl.lookup x=some c->cl.lookup y=some c->x=y
 len:ds.length=N.length
 at_:∀(i:Nat) (x:Str),N[i]?=some x->∃c,cl.lookup x=some c
 cell:∀(x:Str) (c:ah),cl.lookup x=some c->∃o u,base.get? c=some o/\o.data=.cell u
 val:∀(i:Nat) (x:Str) (c:ah) (d:Dv),N[i]?=some x->ds[i]?=some d->cl.lookup x=some c->∃o u v,base.get? c=some o/\o.data=.cell (some u)/\RelV v u/\Bc G μ n H d v
section
variable{P:bj}{w:cq}{K:ao}{mg:Str->Option af}{base:cx}{N:Au}{qual:Str}{scope:gh}{f:ah}{cdv:af}{cl:List (Str×ah)}{A:cm}{outer:List Env}{s0:ag}{H0:Hp}{E0:XK}{G:Cfg}{E:XK}{k:Nat}
theorem XQ (hr:Bt k (A.deeper (nv qual scope s0.heap.objs.size f cdv cl))) (hK:K=G.K) (hE:∀u H',E u none H'->E0 u none H') (hF:CD E):
  Good (jS P w K mg base N qual scope f cdv cl A outer s0 H0 E0) G E k where
 calm:=rfl
 room:=hr
 K:=hK
 own:=zc
 pas:=by intro pins σ H s u s' I ⟨e,C,H',eu,os,bare,un,hok,fl,he⟩;subst eu;have I':=I.call' os un hok bare (λb z=>absurd z (by simp));refine ae (CC (P:=P) (w:=w) (H:=H') (base:=base) I'.ok.frames I'.stack rfl hok I'.stkFree fl λh'' H'' un2 Dk Fd sx=>?_);have I2:=I'.call (h':=h'') (g':=s'.gens) (d':=s'.drawn) (t':=s'.toks) un2 Dk I'.bare (λb z=>absurd z (by simp));obtain⟨T,a0,h1,_⟩:=id fl;obtain⟨T2,a2,h3,_⟩:=id Fd;have xe1:eC C e T a0 s'.heap:=(show Bh P w H' s'.heap e _ from hok e _ h1).1;have:E (.ref e) none H'':=hF e H' H'' sx ⟨C,T,a0,T2,a2,h1,⟨_,xe1⟩,h3⟩ he;exact⟨e,C,H'',rfl,I2.os,I2.bare,I2.base,Dk,Fd,hE _ _ this⟩
 rais:=by intro pins σ H s h' e C args I mx he;refine ae (J9 (P:=P) (w:=w) (H:=H) (base:=base) I.ok.frames I.stack rfl I.hok I.stkFree I.bk mx λh'' H'' un2 Dk Fd sm=>?_);have I2:=I.call (h':=h'') (g':=s.gens) (d':=s.drawn) (t':=s.toks) un2 Dk I.bare (λb z=>absurd z (by simp));obtain⟨T2,a2,h3,_⟩:=id Fd;exact⟨e,C,H'',rfl,I2.os,I2.bare,I2.base,Dk,Fd,hE _ _ (he H'' sm ⟨T2,a2,h3⟩)⟩
end
def KW {α:Type}:Rs α->Sr
 | .ex c h=>.ex c h
 |_=>.bad
section
variable{P:bj}{w:cq}{K:ao}{mg:Str->Option af}{base:cx}{N:Au}{params:km}{body:bo}{scope:gh}{f c':ah}{cl:List (Str×ah)}{A:cm}{outer:List Env}{s:ag}{H:Hp}{E:XK}{G:Cfg}{k:Nat}{μ:Nat->ah}{h:Hs}{ds:Aw}
theorem XR {h1:cx}{tk:Nat}{σ:St}{E₀:XK}(S:Br N scope) (hd:A.handled=none) (e0:Env0 P w K mg base A outer s H) (L:Ep G base H μ h.length N params body scope f c' cl ds)
  (Cb:∀x c,cl.lookup x=some c->x∈N)
  (hns:h1.Ns s.heap.objs.size λ_=>none) (hk1:∀b o,s.heap.get? b=some o->h1.get? b=some o)
  (hσ:σ.length=N.length) (hv:∀(i:Nat) (x:Str) (v:V),N[i]?=some x->σ[i]?=some (some v)->∃c o u,cl.lookup x=some c/\base.get? c=some o/\o.data=.cell (some u)/\RelV v u):
  Inv (jS P w K mg base N G.lq scope f (.ref c') cl A outer s H E₀) [] σ H { s with heap:=h1,toks:=tk }:=by
 have noA:∀b:ah,b∉(jS P w K mg base N G.lq scope f (.ref c') cl A outer s H E₀).ex:=λb z=>absurd (show b∈([]:List ah) from z) (by simp);have kfree:∀x,scope.names.lookup x=some .free->x∈N:=λx e=>S.all _ (fq e) rfl;refine⟨⟨e0.mod,S.kind,rfl,rfl,aj _,L.inj,λx hx=>?_,λx c z=>(nomatch z),λ_=>hd,zb e0.frames,.inr ⟨rfl,rfl⟩,λb z=>absurd z (noA b),e0.bs,e0.bsz,λb _ _=>noA b,λb z=>absurd z (noA b),e0.funs,e0.frf⟩,
  rfl,e0.bare,Un.kept hk1,⟨_,hns,λi x v h1' h2 h3=>?_⟩,λx c e=>?_,e0.hok.fresh (aj _),λx c e=>?_,λp hp=>absurd (show p∈([]:List (ah×Obj)) from hp) (by simp),e0.hok.kept hk1,hσ⟩
 ·have hx:scope.names.lookup x=some .cell∨scope.names.lookup x=some .free:=hx
  rcases hx with hx|hx
  ·exact absurd rfl (S.nocell _ (fq hx))
  ·obtain⟨i,hi⟩:=List.getElem?_of_mem (kfree x hx);exact L.at_ i x hi
 ·obtain⟨c,o,u,e1,e2,e3,r⟩:=hv i x v h1' h2;refine⟨u,r,.inr ⟨.inr (S.fr x (cu h1')),c,e1,o,hk1 _ _ (e0.bs _ _ e2).1,e3⟩⟩
 ·obtain⟨o,u,e2,e3⟩:=L.cell x c e;exact⟨u,o,hk1 _ _ (e0.bs _ _ e2).1,e3⟩
 ·obtain⟨o,u,e2,e3⟩:=L.cell x c e;exact(e0.bs _ _ e2).2
theorem XS {me:M Dv}{Q:VK}(S:Br N scope) (hK:K=G.K) (hb:∀(cl:List (Str×ah)) (pm cdv ct:af),bindArgs (qk "<lambda>" G.lq params body scope cl pm cdv ct) ⟨[],[]⟩=pure [])
  (Bw:∀(f:ah) (cdv:af) (cl:List (Str×ah)) (A:cm) (outer:List Env) (s:ag) (H:Hp) (E₀ E:XK),Good (jS P w K mg base N G.lq scope f cdv cl A outer s H E₀) G E k->aK (jS P w K mg base N G.lq scope f cdv cl A outer s H E₀) G E body me)
  (hr:Bt (k+1) A) (e0:Env0 P w K mg base A outer s H) (L:Ep G base H μ h.length N params body scope f c' cl ds) (Cb:∀x c,cl.lookup x=some c->x∈N) (sm:Bk G μ h H) (o:Out G E μ h.length H (me (ds.map some) h) (Bc G) Q):
  codeAny (model P w) A (.call (.ref f) ⟨[],[]⟩) (CR (bI P w base) outer P w H s Q E) s:=by
 obtain⟨pm,ctv,ho⟩:=L.ob;obtain⟨oc,hc,vs,t,hcd,hq⟩:=L.cd;have lim:s.heap.NoLimit:=e0.mod.nolimit.keeps λb o e=>(e0.bs b o e).1;have gc:s.heap.get? c'=some oc:=(e0.hok c' _ hc).1;refine PySem.W.kla_callFunE hr.depth (e0.hok f _ ho).1 rfl S.co S.gen rfl ⟨c',oc,vs,t,rfl,gc,hcd,hq⟩ ?_;rw[hb];refine ai (wpAny_newFunctionEnv S.nocell (λx hx=>absurd hx (by simp)) (λh₁ hns hsb=>⟨lim.fresh _ hsb, ?_⟩) S.kind);show codeAny _ _ (.expr body (nv G.lq scope s.heap.objs.size f (.ref c') cl)) _ _;have hk₁:∀b o,s.heap.get? b=some o->h₁.get? b=some o:=λb o e=>hsb.extBut b o (az (aq e)) (ak _ e);have hvs:∀(i:Nat),i<N.length->∃v:V,∀d,ds[i]?=some d->Bc G μ h.length H d v/\∀x,N[i]?=some x->∃c o u,cl.lookup x=some c/\base.get? c=some o/\o.data=.cell (some u)/\RelV v u:=λi hi=>by
  obtain⟨x,hx⟩:∃x,N[i]?=some x:=⟨_,ay hi⟩
  obtain⟨d,hd⟩:∃d,ds[i]?=some d:=⟨_,ay (by rw[L.len];exact hi)⟩
  obtain⟨c,ec⟩:=L.at_ i x hx;obtain⟨oo,u,v,e1,e2,r1,r2⟩:=L.val i x c d hx hd ec;refine⟨v,λd' Cy=>?_⟩;rw[hd]at Cy;cases Cy;refine⟨r2,λx' hx'=>?_⟩;rw[hx]at hx';cases hx';exact⟨c,oo,u,ec,e1,e2,r1⟩
 have Eg:∃vs:List V,vs.length=N.length/\∀(i:Nat) (v:V),vs[i]?=some v->∀d,ds[i]?=some d->Bc G μ h.length H d v/\∀x,N[i]?=some x->∃c o u,cl.lookup x=some c/\base.get? c=some o/\o.data=.cell (some u)/\RelV v u:=by
  have:∀m,m<=N.length->∃vs:List V,vs.length=m/\∀(i:Nat) (v:V),vs[i]?=some v->∀d,ds[i]?=some d->Bc G μ h.length H d v/\∀x,N[i]?=some x->∃c o u,cl.lookup x=some c/\base.get? c=some o/\o.data=.cell (some u)/\RelV v u:=by
   intro m
   induction m with
   |zero=>exact λ_=>⟨[],rfl,λi v e=>by simp at e⟩
   |succ m ih=>
    intro hm;obtain⟨vs,hl,hv⟩:=ih (by omega);obtain⟨v,hv'⟩:=hvs m (by omega);refine⟨vs++[v],by simp[hl],λi v' e d hd=>?_⟩
    by_cases hi:i<vs.length
    ·rw[ff hi]at e;exact hv i v' e d hd
    ·rw[fv (by omega)]at e;have:i=m:=by have:=(ax.mp e).1;simp at this;omega
     subst this;simp[hl]at e;subst e;exact hv' d hd
  exact this _ (aj _)
 obtain⟨Cc,hl,hv⟩:=Eg;have I:Inv (jS P w K mg base N G.lq scope f (.ref c') cl A outer s H E) [] (Cc.map some) H { s with heap:=h₁,toks:=s.toks+([]:List (Str×af)).length }:=by
  refine XR S hr.hd e0 L Cb hns hk₁ (by simp[hl]) λi x v h1 h2=>?_;have h3:Cc[i]?=some v:=by
   rw[dk]at h2
   cases q:Cc[i]? with
   |none=>rw[q]at h2;cases h2
   |some a=>rw[q]at h2;cases h2;rfl
  obtain⟨d,hd⟩:∃d,ds[i]?=some d:=⟨_,ay (by rw[L.len];exact(ax.mp h1).1)⟩
  exact(hv i v h3 d hd).2 x h1
 have rs:Bf G μ h.length H (ds.map some) (Cc.map some):=⟨by simp[hl,L.len],λi d e=>by
  have h3:ds[i]?=some d:=by
   rw[dk]at e
   cases q:ds[i]? with
   |none=>rw[q]at e;cases e
   |some a=>rw[q]at e;cases e;rfl
  have hi:i<Cc.length:=by rw[hl,<-L.len];exact(ax.mp h3).1
  exact⟨Cc[i],by rw[dk,ay hi];rfl,(hv i _ (ay hi) d h3).1⟩⟩
 have gd:Good (jS P w K mg base N G.lq scope f (.ref c') cl A outer s H E) G (EB G μ h.length H (KW (me (ds.map some) h))) k:=XQ (hr.deeper _) hK (λu H' ⟨c,h',μ',er,x,s',fl⟩=>by
  cases q:me (ds.map some) h with
  |ok d hh=>rw[q]at er;cases er
  |bad=>rw[q]at er;cases er
  |ex c1 h1=>rw[q]at er o;cases er;exact o μ' H' u x s' fl) CH
 refine PySem.W.kla_codeExpr (ku (Bw f (.ref c') cl A outer s H E _ gd hK [] _ (Cc.map some) H Q I ⟨μ,ds.map some,h,rs,sm, ?_⟩) (λu s' ⟨v,H',J,rv,q⟩=>⟨v,H',J.os,J.bare,J.base,J.hok,rv,q⟩) λe s' hs=>hs)
 cases q:me (ds.map some) h with
 |ok d hh=>rw[q]at o;exact o
 |bad=>rw[q]at o;exact o
 |ex c1 h1=>exact λμ' H' u x' s' fl=>⟨c1,h1,μ',rfl,x',s',fl⟩
end
section
variable{X:Cx}{pins:List (ah×Obj)}{σ:St}{H:Hp}{s:ag}
theorem XT {i:Nat}{x:Str}{h':cx}{tk:Nat}{m:Str->Option af}{v:Option af}(I:Inv X pins σ H s) (hN:X.N.Nodup) (hi:X.N[i]?=some x) (hn:s.heap.Ns X.env.locals m)
  (hl:∀(i:Nat) (x:Str) (v:V),X.N[i]?=some x->σ[i]?=some (some v)->mV X.env.scope x->∃u,RelV v u/\GO X.env s.heap m x u)
  (hs:jf X.env.locals s.heap h') (hn':h'.Ns X.env.locals (λy=>if y=x then v else m y)):Inv X pins (σ.set i none) H { s with heap:=h',toks:=tk }:=by
 have cne:=I.cne;have hok:Ci X.prog X.w H h':=λb ob e=>by
  refine(I.hok b ob e).stay (λc w' hc q=>(hs.2 c ?_).trans q) (λ_ q=>q) λ_ _ q=>q
  rintro rfl
  have hfree:=I.free
  rcases hc with hc|hc
  ·rw[<-hc]at e;rw[hfree]at e;cases e
  ·rw[hfree]at hc;cases hc
 refine⟨I.ok,I.os,I.bare,⟨λb o e n hb hx=>?_,λb o e n hb hx=>?_,I.base.free,λb o e hx=>?_,I.base.tups,I.base.frzs,I.base.tbls⟩,⟨_,hn',λj y v' e1 e2 e3=>?_⟩,λy c e=>?_,I.free,I.freeC,λp hp=>?_,hok,by simpa using I.len⟩
 ·exact(hs.2 b (az (av (aq e) I.ok.above))).trans (I.base.keep b o e n hb hx)
 ·obtain⟨sl,e1⟩:=I.base.slot b o e n hb hx;exact⟨sl,(hs.2 b (az (av (aq e) I.ok.above))).trans e1⟩
 ·obtain⟨o',e1⟩:=I.base.there b o e hx;exact⟨o',(hs.2 b (az (av (aq e) I.ok.above))).trans e1⟩
 ·by_cases hj:j=i
  ·subst hj;have hiσ:j<σ.length:=by rw[I.len];exact(ax.mp hi).1
   rw[dg hiσ]at e2;cases e2
  ·rw[dw (dh hj)]at e2;obtain⟨u',r',q⟩:=hl j y v' e1 e2 e3;refine⟨u',r', ?_⟩
   rcases q with⟨k,e⟩|⟨k,c,e,z⟩
   ·refine .inl ⟨k, ?_⟩;have:y≠x:=λe=>hj (AZ hN e1 (e▸hi));show(if y=x then v else m y)=some u';rw[if_neg this];exact e
   ·exact .inr ⟨k,c,e,z.sameBut hs (cne y c e)⟩
 ·obtain⟨w',z⟩:=I.cell y c e;exact⟨w',z.sameBut hs (cne y c e)⟩
 ·obtain⟨e,n,ne,nf,d⟩:=I.pin p hp;exact⟨(hs.2 p.1 ne).trans e,n,ne,nf,d⟩
def rE (X:Cx) (e:af):Cx:={ X with A:=X.A.mark (some e),calm:=false,xe:=λ_ _=>False }
theorem KY (e:af) (I:Inv X pins σ H s):Inv (rE X e) pins σ H s:=
 have ok:=I.ok
 ⟨⟨ok.mod,ok.kind,ok.glob,ok.blt,ok.above,ok.inj,ok.has,ok.cab,λz=>(nomatch z),ok.frames,ok.stk,ok.exf,ok.bs,ok.bsz,ok.noex,ok.exfs,ok.funs,ok.frf⟩,I.os,I.bare,I.base,I.loc,I.cell,I.free,I.freeC,I.pin,I.hok,I.len⟩
theorem XU {e:af}(ok:X.Ok) (I:Inv (rE X e) pins σ H s):Inv X pins σ H s:=⟨ok,I.os,I.bare,I.base,I.loc,I.cell,I.free,I.freeC,I.pin,I.hok,I.len⟩
end
section
variable{X:Cx}{G:Cfg}{E:XK}{k:Nat}{N:Au}{params:km}{body:bo}{scope:gh}{me:M Dv}{ncl:Nat}{NE:ah}
theorem XW {x xn en nm:Str}{p cpos epos np xp ep apos hpos tpos:Pos}{pins:List (ah×Obj)}{σ:St}{H:Hp}{s:ag}{D:Ends}{f c':ah}{cl:List (Str×ah)}{μ:Nat->ah}{h:Hs}{ds:Aw}
  (hK:X.K=G.K) (Fb:X.stack=X.env::X.outer) (hfr:X.env.frame=some X.env.locals) (hnd:X.N.Nodup) (h0:X.N[0]?=some x) (h1:X.N[1]?=some xn) (h2:X.N[2]?=some en) (hfn:∀y,X.fn y=true)
  (l0:X.env.scope.names.lookup x=some .local) (l1:X.env.scope.names.lookup xn=some .local) (l2:X.env.scope.names.lookup en=some .local)
  (d0:(x==("__debug__" : Str))=false) (c0:(x==("__classdict__" : Str))=false) (d2:(en==("__debug__" : Str))=false) (c2:(en==("__classdict__" : Str))=false) (dn:(nm==("__debug__" : Str))=false)
  (hsw:swapsWith (.Call (.Name x p) [] [] cpos) none epos.line X.env=pure false) (hsw2:swapsWith (.Name en ep) (some (.Name xn xp)) apos.line X.env=pure false)
  (hg:Gl X nm) (hm:X.mg nm=some (.ref NE)) (hx1:kg X.K (.ref NE) (.type "BaseException")=some true) (hx2:kg X.K (.type "type") (.type "tuple")=some false) (hx3:xf X.K (.ref NE) (.ref NE)=some true)
  (hsub:∀c,c<ncl->kg X.K (.ref (G.cl c)) (.ref NE)=some true)
  (S:Br N scope) (hb:∀(cl:List (Str×ah)) (pm cdv ct:af),bindArgs (qk "<lambda>" G.lq params body scope cl pm cdv ct) ⟨[],[]⟩=pure [])
  (Bw:∀(f:ah) (cdv:af) (cl:List (Str×ah)) (A:cm) (outer:List Env) (s:ag) (H:Hp) (E₀ E:XK),Good (jS X.prog X.w X.K X.mg X.base N G.lq scope f cdv cl A outer s H E₀) G E k->aK (jS X.prog X.w X.K X.mg X.base N G.lq scope f cdv cl A outer s H E₀) G E body me)
  (hr:Bt (k+1) X.A) (I:Inv X pins σ H s) (hσ:σ[0]?=some (some (.ref f))) (L:Ep G X.base H μ h.length N params body scope f c' cl ds) (Cb:∀x c,cl.lookup x=some c->x∈N) (sm:Bk G μ h H)
  (hD:match me (ds.map some) h with
   | .ok _ h1=>∀μ' H',Ext μ h.length H μ' h1.length H'->Bk G μ' h1 H'->D.nx σ H'
   | .ex c h1=>c<ncl/\∀μ' H' a,Ext μ h.length H μ' h1.length H'->Bk G μ' h1 H'->Bc G μ' h1.length H' (.exc c) (.ref a)->D.nx (((σ.set 2 (some (.ref a))).set 1 (some (.ref a))).set 2 none) H'
   | .bad=>False):
  wpAny (model X.prog X.w) X.A (exec (.Try [.Expr (.Call (.Name x p) [] [] cpos) epos] [.ExceptHandler (some (.Name nm np)) (some en) [.Assign [.Name xn xp] (.Name en ep) apos] hpos] [] [] tpos) X.env) (SP X pins D) X.xe s:=by
 have hcls:(X.env.scope.kind==.class||(X.env.scope.kind==.module&&X.env.locals != X.env.globals))=false:=by rw[I.ok.kind];rfl
 refine wpAny_Try_except ?_;obtain⟨pm,ctv,ho⟩:=L.ob;refine qh (wpAny_Expr_any (ou (bD (ku (wB (X:=X.nox) (pos:=p) h0 (.inl l0) d0 c0 pins s σ H (λv H'=>v=.ref f/\H'=H) (I.wish _) ⟨_,hσ,rfl,rfl⟩) (λ_ _ q=>q) λ_ _ z=>jh z) λu s1 ⟨v,H',I',r,e1,e2⟩=>?_)) I.quiet hsw);subst e1;subst e2;cases r;have I1:Inv X pins σ H' s1:=I'.unwish;refine PySem.W.callWith_F0 ⟨_,_,_,_,(I1.hok f _ ho).1⟩ ?_;refine zi (rz (XS (E:=EB G μ h.length H' (KW (me (ds.map some) h))) (Q:=λ_ H2=>∃d hh μ',me (ds.map some) h=.ok d hh/\Ext μ h.length H' μ' hh.length H2/\Bk G μ' hh H2) S hK hb Bw hr I1.env0 L Cb sm ?_) λr s' hq=>?_)
 ·cases q:me (ds.map some) h with
  |ok d hh=>exact λμ' H' v x' s' _=>⟨d,hh,μ',rfl,x',s'⟩
  |bad=>rw[q]at hD;exact hD.elim
  |ex c1 h1=>exact λμ' H' u x' s' fl=>⟨c1,h1,μ',rfl,x',s',fl⟩
 cases r with
 |ok fl=>
  cases fl with
  |ret u=>obtain⟨v,H2,I2,r2,d,hh,μ',e1,x1,s1⟩:=I1.after hq;refine oi (oi ?_);rw[e1]at hD;exact⟨σ,H2,I2,hD μ' H2 x1 s1⟩
  |next=>exact jh hq
  |brk=>exact jh hq
  |cont=>exact jh hq
 |error ev=>
  obtain⟨e,C,H2,rfl,os,bare,un,hok,fl,c,hh,μ',er,x1,sm1,e',φ,eu,g1,g2⟩:=hq;cases eu
  cases qm:me (ds.map some) h with
  |ok d h3=>rw[qm]at er;cases er
  |bad=>rw[qm]at er;cases er
  |ex c3 h3=>
  rw[qm]at er hD;cases er;obtain⟨hc,hD⟩:=hD;have I2:Inv X pins σ H2 s':=I1.call' os un hok bare (λb z=>absurd z (by simp));refine CC (P:=X.prog) (w:=X.w) (H:=H2) (base:=X.base) (env:=X.env) (outer:=X.outer) (by rw[<-Fb];exact I2.ok.frames) (by rw[<-Fb];exact I2.stack) hfr hok (by rw[<-Fb];exact I2.stkFree) fl λh4 H4 un4 hok4 fl4 sx4=>?_;have I4:Inv X pins σ H4 { s' with heap:=h4 }:=I2.call (h':=h4) (g':=s'.gens) (d':=s'.drawn) (t':=s'.toks) (by rw[Fb];exact un4) hok4 I2.bare (λb z=>absurd z (by simp));obtain⟨sm4,x4⟩:=sm1.sameX sx4 ⟨_,g1⟩;obtain⟨T,a0,w1,w2,w3,w4⟩:=id fl4;obtain⟨T0,b0,v1,_,_,_⟩:=id fl;have hC:C=.ref (G.cl c):=by have xo:eC C e T0 b0 s'.heap:=(show Bh X.prog X.w H2 s'.heap e _ from hok e _ v1).1;rw[v1]at g1;cases g1;obtain⟨oo,q1,q2⟩:=g2 _ xo;obtain⟨o2,Ex,q3,q4,_⟩:=xo;rw[q3]at q1;cases q1;rw[<-q4,q2]
  subst hC;have xo4:eC (.ref (G.cl c)) e T a0 h4:=(show Bh X.prog X.w H4 h4 e _ from hok4 e _ w1).1;obtain⟨oe,vs,y1,y2,y3,y4,y5,y6⟩:=id xo4;refine wpAny_handleBy_cons (codeAny_handlers_test (ku (wC (X:=rE X (.ref e)) (E:=λ_ _=>False) (Q:=λu s5=>u=.ref NE/\Inv X pins σ H4 s5/\s5.heap=h4) (KY _ I4) hg hm ⟨rfl,I4,rfl⟩ dn) (λcv s5 hs5=>?_) λ_ _ z=>jh z)) (by intro z;cases z);obtain⟨rfl,I5,e5⟩:=hs5;refine XO (K:=X.K) I5.kIn (by rw[e5];exact y1) y2 hx1 hx2 hx3 (hsub c hc) ?_;obtain⟨oT,ts,z1,z2,z3⟩:eM T h4:=(show Bh X.prog X.w H4 h4 T _ from hok4 T _ w2).1;have l3:3<ts.size:=(du.mp z3).1;refine codeAny_handlers_suite_as (J5 (e:=e) (T:=T) (by rw[e5];exact y1) y3 y5 (by rw[e5];exact z1) z2 l3 λh6 sb6 tb6=>?_);rw[e5]at sb6;have ge6:h6.get? e=some oe:=sb6.extBut _ _ (dh w4) y1;have I6:Inv X pins σ (aT H4 T (.ext (eM T))) { s5 with heap:=h6 }:=I5.write (x:=T) (e:=T) (o:=.ext (eM T)) (h':=h6) (t':=s5.toks) (by rw[w2];trivial) (.inl rfl) (λb u hb q=>by rw[e5]at q;exact sb6.extBut _ _ hb q) (let ⟨oo,_,q,_⟩:=tb6;⟨oo,q⟩) (xJ tb6);have se:Cn H4 (aT H4 T (.ext (eM T))):=λb o q=>by
   by_cases hb:b=T
   ·subst hb;rw[w2]at q;cases q;exact dF
   ·rw[bW hb];exact q
  have w1':(aT H4 T (.ext (eM T))) e=some (.ext (eC (.ref (G.cl c)) e T a0)):=se _ _ w1;have I7:Inv X pins σ (aT (aT H4 T (.ext (eM T))) e (.frz oe (.own 0))) { s5 with heap:=h6 }:=I6.write (x:=e) (e:=e) (o:=.frz oe (.own 0)) (h':=h6) (t':=s5.toks) (by rw[w1'];trivial) (.inl rfl) (λb u hb q=>q) ⟨_,ge6⟩ ⟨ge6,oe,ge6⟩;have sx7:tK e (aT H4 T (.ext (eM T))) (aT (aT H4 T (.ext (eM T))) e (.frz oe (.own 0))):=λb o hb q=>by rw[bW hb];exact q
  obtain⟨sm7,x7⟩:=(sm4.same se).sameX sx7 ⟨_,w1'⟩;have xx:Ext μ h.length H' μ' hh.length (aT (aT H4 T (.ext (eM T))) e (.frz oe (.own 0))):=x1.trans ((x4 _).trans ((Ext.same se).trans (x7 _)));generalize hH7:aT (aT H4 T (.ext (eM T))) e (.frz oe (.own 0))=H7 at *;have rl:Bc G μ' hh.length H7 (.exc c) (.ref e):=by rw[Bc,<-hH7];exact⟨e,oe,.own 0,rfl,dF,y2,y6,vs,y3⟩
  refine A0 (v:=.ref e) I7 hnd h2 (.inl l2) rfl (λs8 I8=>?_) (.inr l2);have I8':Inv (rE X (.ref e)) pins (σ.set 2 (some (.ref e))) H7 s8:=KY _ I8;have hlen:2<σ.length:=by rw[I.len];exact(ax.mp h2).1
  refine ku (GW (A3 (X:=rE X (.ref e)) (i:=1) (pos:=apos) (pos':=xp) hnd h1 (.inl l1) (wB (X:=rE X (.ref e)) (pos:=ep) h2 (.inl l2) d2 c2) hsw2 (.inr l1)) pins s8 (σ.set 2 (some (.ref e))) H7 { nx:=λσ' H'=>σ'=(σ.set 2 (some (.ref e))).set 1 (some (.ref e))/\H'=H7,rt:=λ_ _=>False } I8' ⟨.ref e,dg hlen,rfl,rfl⟩) (λfl9 s9 hs9=>?_) λ_ _ z=>jh z
  cases fl9 with
  |ret u=>obtain⟨_,_,_,_,_,z⟩:=hs9;exact z.elim
  |brk=>obtain⟨_,_,_,z⟩:=hs9;exact z.elim
  |cont=>obtain⟨_,_,_,z⟩:=hs9;exact z.elim
  |next=>obtain⟨σ9,H9,I9,e9,f9⟩:=hs9;subst e9;subst f9;have I9':Inv X pins _ H9 s9:=XU I8.ok I9;obtain⟨m,hn,hl⟩:=id I9'.loc;refine wpAny_nameGoes_keeps l2 hn hcls λh10 v10 hn10 hs10=>?_;exact⟨_,H9,XT I9' hnd h2 hn hl hs10 hn10,hD μ' H9 e xx sm7 rl⟩
end
def tS:Sr->Rs Dv
 | .rt d h=>.ok d h
 | .nx _ h=>.ok .non h
 |_=>.bad
def oE (n:Nat) (d:Dv):Ev:=none::some d::bu (n - 2) none
def tT (n ncl:Nat) (mb:MS):Rs Dv->Rs Dv
 | .ok _ h1=>tS (mb (oE n .non) h1)
 | .ex c h1=>if c<ncl then tS (mb (oE n (.exc c)) h1)else .bad
 | .bad=>.bad
def lU (G:Cfg) (base:cx) (Nl:Au) (params:km) (body:bo) (scope:gh) (me:M Dv) (n ncl:Nat) (mb:MS):Sp:=λvs H Q E=>∃f c' cl ds μ h,vs=[.ref f]/\Ep G base H μ h.length Nl params body scope f c' cl ds/\(∀x c,cl.lookup x=some c->x∈Nl)/\Bk G μ h H/\Out G E μ h.length H (tT n ncl mb (me (ds.map some) h)) (Bc G) Q
theorem KZ {G:Cfg}{E:XK}{μ μ1:Nat->ah}{n n1:Nat}{H H1:Hp}{r:Sr}{Q:VK}(o:Out G E μ n H (tS r) (Bc G) Q) (x:Ext μ n H μ1 n1 H1):Bz G (λ_ _ _=>False) μ1 n1 H1 r { nx:=λ_ H'=>Q .non H',rt:=Q }:=by
 cases r with
 |nx ρ h'=>exact λμ' H' σ' y s _=>o μ' H' .non (x.trans y) s rfl
 |rt d h'=>exact λμ' H' v y s r=>o μ' H' v (x.trans y) s r
 |bk ρ h'=>exact o.elim
 |ct ρ h'=>exact o.elim
 |ex c h'=>exact o.elim
 |bad=>exact o
theorem K0 {G:Cfg}{μ:Nat->ah}{n:Nat}{H:Hp}{m:Nat}{d:Dv}{v:V}{σ:St}(hl:σ.length=m) (hm:2<=m) (h1:σ[1]?=some (some v)) (r:Bc G μ n H d v):Bf G μ n H (oE m d) σ:=by
 refine⟨by simp[oE,hl];omega,λi d' e=>?_⟩;unfold oE at e
 match i,e with
 |0,e=>simp at e
 |1,e=>simp at e;subst e;exact⟨v,h1,r⟩
 |i+2,e=>
  simp only[tq,tm]at e
  split at e <;> cases e
section
variable{P:bj}{w:cq}{K:ao}{mg:Str->Option af}{base:cx}{f:ah}{G:Cfg}{k:Nat}{Nm Nl:Au}{params:km}{body:bo}{scope:gh}{me:M Dv}{ncl:Nat}{NE:ah}{mb:MS}
theorem XX {x xn en nm q qual:Str}{st:gz}{fd:bq}{p cpos epos np xp ep apos hpos tpos zpos zp npos:Pos}{j:Nat}{rest:List gz}(Fn:B' K q qual st f fd) (S:Bb Nm [x] (aU st)) (hK:K=G.K)
  (Fc:iG st=.Assign [.Name xn zp] (.Constant .none j npos) zpos::.Try [.Expr (.Call (.Name x p) [] [] cpos) epos] [.ExceptHandler (some (.Name nm np)) (some en) [.Assign [.Name xn xp] (.Name en ep) apos] hpos] [] [] tpos::rest)
  (h0:Nm[0]?=some x) (h1:Nm[1]?=some xn) (h2:Nm[2]?=some en)
  (l0:(aU st).names.lookup x=some .local) (l1:(aU st).names.lookup xn=some .local) (l2:(aU st).names.lookup en=some .local)
  (d0:(x==("__debug__" : Str))=false) (c0:(x==("__classdict__" : Str))=false) (d2:(en==("__debug__" : Str))=false) (c2:(en==("__classdict__" : Str))=false) (dn:(nm==("__debug__" : Str))=false)
  (hsw:∀L cd,swapsWith (.Call (.Name x p) [] [] cpos) none epos.line (envOfC qual (aU st) L f cd)=pure false) (hsw2:∀L cd,swapsWith (.Name en ep) (some (.Name xn xp)) apos.line (envOfC qual (aU st) L f cd)=pure false)
  (hsw3:∀L cd,swapsWith (.Constant .none j npos) (some (.Name xn zp)) zpos.line (envOfC qual (aU st) L f cd)=pure false)
  (hg:(aU st).names.lookup nm=some .globalImplicit) (hm:mg nm=some (.ref NE)) (hx1:kg K (.ref NE) (.type "BaseException")=some true) (hx2:kg K (.type "type") (.type "tuple")=some false) (hx3:xf K (.ref NE) (.ref NE)=some true)
  (hsub:∀c,c<ncl->kg K (.ref (G.cl c)) (.ref NE)=some true)
  (LS:Br Nl scope) (hb:∀(cl:List (Str×ah)) (pm cdv ct:af),bindArgs (qk "<lambda>" G.lq params body scope cl pm cdv ct) ⟨[],[]⟩=pure [])
  (Bw:∀(f:ah) (cdv:af) (cl:List (Str×ah)) (A:cm) (outer:List Env) (s:ag) (H:Hp) (E₀ E:XK),Good (jS P w K mg base Nl G.lq scope f cdv cl A outer s H E₀) G E k->aK (jS P w K mg base Nl G.lq scope f cdv cl A outer s H E₀) G E body me)
  (Ej:∀(cdv:af) (A:cm) (outer:List Env) (s:ag) (H:Hp) (E₀ E:XK),Good (fR (bI P w base) P w K mg base Nm qual (aU st) f cdv A outer s H E₀) G E (k+1)->jQ (fR (bI P w base) P w K mg base Nm qual (aU st) f cdv A outer s H E₀) G E rest mb):
  Bg P w K mg base (bI P w base) (k+2) f fd [x] (lU G base Nl params body scope me Nm.length ncl mb):=by
 obtain⟨oc,od,kV,doc,pm,an,cdv,ct,osl,rfl,lk,hcd⟩:=Fn.ex;have hNl:2<Nm.length:=(ax.mp h2).1;refine BA lk hcd S (λvs H Q E ⟨f,c',cl,ds,μ,h,e,_⟩=>by rw[e];rfl) λA outer s H vs Q E hr hsp=>?_;obtain⟨fl,c',cl,ds,μ,h,rfl,L,Cb,sm,o⟩:=hsp;refine⟨λD σ H1=>σ=start Nm [.ref fl]/\H1=H/\D={ nx:=λ_ H'=>Q .non H',rt:=Q }, ?_,rfl,rfl,rfl⟩;intro pins s1 σ H1 D I ⟨eσ,eH,eD⟩;subst eH;have hσl:σ.length=Nm.length:=I.len;have hσ0:σ[0]?=some (some (.ref fl)):=by rw[eσ];rfl
 rw[Fc];have gd:Good (fR (bI P w base) P w K mg base Nm qual (aU st) f cdv A outer s H1 E) G (λ_ _ _=>False) (k+1):=CF hr hK (λ_ _ z=>z.elim) (λ_ _ _ _ _ z=>z);have hset:(σ.set 1 (some .non))[0]?=some (some (.ref fl)):=by rw[dw (by decide)];exact hσ0
 refine qh (bD (A3 (X:=fR (bI P w base) P w K mg base Nm qual (aU st) f cdv A outer s H1 E) (i:=1) (pos:=zpos) (pos':=zp) S.nd h1 (.inl l1) (GR (j:=j) (pos:=npos)) (hsw3 _ _) (.inl rfl) pins s1 σ H1 { nx:=λσ' H'=>σ'=σ.set 1 (some .non)/\H'=H1,rt:=λ_ _=>False } I ⟨rfl,rfl⟩) λFd s2 q2=>?_)
 cases Fd with
 |ret u=>obtain⟨_,_,_,_,_,z⟩:=q2;exact z.elim
 |brk=>obtain⟨_,_,_,z⟩:=q2;exact z.elim
 |cont=>obtain⟨_,_,_,z⟩:=q2;exact z.elim
 |next=>
  obtain⟨σ2,H2,I2,e2,f2⟩:=q2;subst e2;subst f2;refine qh (bD (XW (X:=fR (bI P w base) P w K mg base Nm qual (aU st) f cdv A outer s H2 E) (G:=G) (N:=Nl) (me:=me) (ncl:=ncl) (NE:=NE) (k:=k) (D:={ nx:=xF G (λ_ _ _=>False) mb D,rt:=λ_ _=>False })
   hK rfl rfl S.nd h0 h1 h2 (λ_=>rfl) l0 l1 l2 d0 c0 d2 c2 dn (hsw _ _) (hsw2 _ _) hg hm hx1 hx2 hx3 hsub LS hb Bw hr I2 hset L Cb sm ?_) λfl3 s3 q3=>?_)
  ·cases qm:me (ds.map some) h with
   |bad=>rw[qm]at o;exact o
   |ok d hh=>rw[qm]at o;intro μ' H' x' s';refine⟨μ',oE Nm.length .non,hh,K0 (v:=.non) (by rw[lr];exact hσl) (by omega) (dg (by omega)) rfl,s', ?_⟩;rw[eD];exact KZ o x'
   |ex c hh=>
    rw[qm]at o;unfold tT at o;dsimp only at o
    split at o
    ·rename_i hc;refine⟨hc,λμ' H' a x' s' r'=>?_⟩;refine⟨μ',oE Nm.length (.exc c),hh,K0 (v:=.ref a) (by simp only[lr];exact hσl) (by omega) ?_ r',s', ?_⟩
     ·rw[dw (by decide),dg (by simp only[lr];omega)]
     ·rw[eD];exact KZ o x'
    ·exact o.elim
  ·cases fl3 with
   |ret u=>obtain⟨_,_,_,_,_,z⟩:=q3;exact z.elim
   |brk=>obtain⟨_,_,_,z⟩:=q3;exact z.elim
   |cont=>obtain⟨_,_,_,z⟩:=q3;exact z.elim
   |next=>obtain⟨σ3,H3,I3,q3⟩:=q3;exact Ej cdv A outer s H2 E _ gd hK pins s3 σ3 H3 D I3 q3
end
theorem XY:∀(l:List af) (a b:Int) (t u:Tok) (c:af),wc l->wc (l++[.int a t,.int b u,c]):=by
 intro l a b t u c h
 fun_induction wc l with
 |case1=>trivial
 |case2 x t y u z rest ih=>exact ih h
 |case3 l h1 h2=>exact h.elim
theorem XZ {pos:Pos}{cv c:af}{a b:Int}{t u:Tok}:∀(l:List af),wc l->codeAmong pos (l++[.int a t,.int b u,c])=some cv->codeAmong pos l=some cv∨cv=c:=by
 intro l h
 fun_induction wc l with
 |case1=>
  intro e;simp only[List.nil_append,codeAmong]at e
  split at e
  ·cases e;exact .inr rfl
  ·cases e
 |case2 x t y u z rest ih=>
  intro e;simp only[List.cons_append,codeAmong]at e ⊢
  split at e
  ·rename_i hc;rw[if_pos hc];exact .inl e
  ·rename_i hc;rw[if_neg hc];exact ih h e
 |case3 l h1 h2=>exact h.elim
def lV (mg:Str->Option af) (base:cx):Prop:=∃bm ob,mg "__builtins__" = some (.ref bm)/\bm≠builtinsNs/\base.get? bm=some ob/\ob.cls=.type "module"/\ob.dict=some builtinsNs/\ob.data=.plain
def X0 (H H':Hp):Prop:=∀a o,(∀ps,o≠.tbl ps)->H a=some o->H' a=some o
section
variable{X:Cx}{G:Cfg}{params:km}{body:bo}{scope:gh}{lpos:Pos}{c P:ah}
theorem X1 (Fc:defaultsOf params X.env=([],[])) (hq:X.env.qual ++ "<lambda>" = G.lq) (hP:G.tab=some P) (Dx:X.env.code=.ref c) (hC:md X.base c P) (hB:lV X.mg X.base)
  (hfree:∀x,(x,cb)∈scope.names->X.env.kindOf x=some .cell∨X.env.kindOf x=some .free):
  PE X (.Lambda params body scope lpos) (λσ H Q=>Dy G H/\∀f c' pm ctv oc H1,H f=none->X0 H H1->Dy G H1->H1 f=some (.frz (kz "<lambda>" G.lq params body scope (dO X.env scope.names []) pm c' ctv) (.own 0))->H1 c'=some (.frz oc (.own 0))->xA G.lq oc->Q (.ref f) H1):=by
 intro pins s σ H Q I ⟨hT,h⟩;obtain⟨ps,t1,t2,t3⟩:=hT P hP;have gP:s.heap.get? P=some (uq ps):=I.hok P _ t1;have hcl:closureFor scope X.env=pure (dO X.env scope.names []):=wN λx hx=>I.ok.has x (hfree x hx);have hgs:s.heap.Ns dj X.mg:=I.mod.glob.keeps I.bk;obtain⟨bm,ob,b1,b2,b3,b4,b5,b6⟩:=hB;have b3':=I.bk _ _ b3;have hgP:dj≠P:=λq=>by obtain⟨o,es,ep,e,hd,_⟩:=hgs;rw[q,gP]at e;cases e;cases hd
 have hbP:bm≠P:=λq=>by rw[q,gP]at b3';cases b3';cases b4
 have hbG:bm≠dj:=λq=>by obtain⟨o,es,ep,e,hd,_⟩:=hgs;rw[<-q,b3']at e;cases e;rw[hd]at b6;cases b6
 have hba:s.heap.BuiltinsAt X.mg P:=⟨bm,ob,b1,b2,hbG,hbP,b3',b4,b5,b6⟩
 refine PySem.W.kla_eval Fc ?_;rw[hq]
 cases hc:codeAmong lpos ps.toList with
 |some cv=>obtain⟨c',oc,ec,h2,h3⟩:=t3 lpos cv hc;subst ec;refine PySem.W.kla_makeFunctionHit (mg:=X.mg) hcl I.ok.glob hgs Dx (hC.keeps I.bk) gP t2 hc hba λctv h' tk hk Cf=>?_;have hn:H h'.objs.size=none:=I.hok.fresh Cf;have kk:∀b u,s.heap.get? b=some u->(h'.push { cls:=.type "function",data:=.func (qk "<lambda>" G.lq params body scope (dO X.env scope.names []) ((X.mg "__name__").getD .none) (.ref c') ctv) }).get? b=some u:=λb u q=>ak _ (hk b u q);have gf:=bc h' (o:=kz "<lambda>" G.lq params body scope (dO X.env scope.names []) ((X.mg "__name__").getD .none) c' ctv) rfl;have I1:=I.laid (a:=h'.objs.size) (o:=.frz (kz "<lambda>" G.lq params body scope (dO X.env scope.names []) ((X.mg "__name__").getD .none) c' ctv) (.own 0)) (t':=tk) kk Cf ⟨gf,_,gf⟩;have sm:Cn H (aT H h'.objs.size (.frz (kz "<lambda>" G.lq params body scope (dO X.env scope.names []) ((X.mg "__name__").getD .none) c' ctv) (.own 0))):=cZ hn;exact⟨.ref h'.objs.size,_,I1,rfl,h _ c' _ ctv oc _ hn (λa o _ q=>sm a o q) (hT.keep λa o _ _ q=>sm a o q) dF (sm _ _ h2) h3⟩
 |none=>
  refine PySem.W.kla_makeFunction (mg:=X.mg) hcl I.ok.glob hgs Dx (hC.keeps I.bk) gP t2 hc hgP hba λc' ctv h' tk hx hge hlt hrec htb=>?_;obtain⟨c₂,oc,vs,t,e2,hoc,hd,hv⟩:=hrec;cases e2;generalize hfo:kz "<lambda>" G.lq params body scope (dO X.env scope.names []) ((X.mg "__name__").getD .none) c' ctv=fo;have nfo:fo.isFreed=false:=by rw[<-hfo];rfl
  have gf:(h'.push fo).get? h'.objs.size=some fo:=bc h' nfo;have goc:(h'.push fo).get? c'=some oc:=ak _ hoc;have gP':=ak fo htb;generalize hps:ps++#[rawInt lpos.line,rawInt lpos.col,.ref c']=Bv at gP';have lP:P<s.heap.objs.size:=aq gP;have kk:∀b u,b≠P->s.heap.get? b=some u->(h'.push fo).get? b=some u:=λb u hb q=>ak _ (hx b u hb q);have lt0:∀b u,s.heap.get? b=some u->b<s.heap.objs.size:=λb u q=>aq q;have nPc:P≠c':=az (av lP hge);have nPf:P≠h'.objs.size:=az (av lP (df hge (iq hlt)));have ncf:c'≠h'.objs.size:=az hlt;have lH:∀b o,H b=some o->b<s.heap.objs.size:=λb o q=>I.hok.lt q;have H1e:∀b,b≠P->b<s.heap.objs.size->aT (aT (aT H P (.tbl Bv)) c' (.frz oc (.own 0))) h'.objs.size (.frz fo (.own 0)) b=H b:=λb h1 h2=>by rw[bW (az (av h2 (df hge (iq hlt)))),bW (az (av h2 hge)),bW h1]
  have eP:aT (aT (aT H P (.tbl Bv)) c' (.frz oc (.own 0))) h'.objs.size (.frz fo (.own 0)) P=some (.tbl Bv):=by rw[bW nPf,bW nPc,dF]
  have ec:aT (aT (aT H P (.tbl Bv)) c' (.frz oc (.own 0))) h'.objs.size (.frz fo (.own 0)) c'=some (.frz oc (.own 0)):=by rw[bW ncf,dF]
  have ef:aT (aT (aT H P (.tbl Bv)) c' (.frz oc (.own 0))) h'.objs.size (.frz fo (.own 0)) h'.objs.size=some (.frz fo (.own 0)):=dF;have cases1:∀b o,aT (aT (aT H P (.tbl Bv)) c' (.frz oc (.own 0))) h'.objs.size (.frz fo (.own 0)) b=some o->(b=h'.objs.size/\o=.frz fo (.own 0))∨(b=c'/\o=.frz oc (.own 0))∨(b=P/\o=.tbl Bv)∨(b≠P/\H b=some o):=λb o q=>by
   by_cases q1:b=h'.objs.size
   ·subst q1;rw[dF]at q;cases q;exact .inl ⟨rfl,rfl⟩
   rw[bW q1]at q
   by_cases q2:b=c'
   ·subst q2;rw[dF]at q;cases q;exact .inr (.inl ⟨rfl,rfl⟩)
   rw[bW q2]at q
   by_cases q3:b=P
   ·subst q3;rw[dF]at q;cases q;exact .inr (.inr (.inl ⟨rfl,rfl⟩))
   rw[bW q3]at q;exact .inr (.inr (.inr ⟨q3,q⟩))
  generalize aT (aT (aT H P (.tbl Bv)) c' (.frz oc (.own 0))) h'.objs.size (.frz fo (.own 0))=H1 at *;have keepO:∀b o,(∀ps,o≠.tbl ps)->H b=some o->H1 b=some o:=λb o hn q=>by rw[H1e b (λz=>by subst z;rw[t1]at q;cases q;exact hn _ rfl) (lH b o q)];exact q
  have un:Un X.fs [] H H1 s.heap (h'.push fo):=by
   have nP:∀b,H b=none->b≠P:=λb n z=>by subst z;rw[t1]at n;cases n
   refine⟨λb o q n _ _=>kk b o (nP b n) q,λb o q n _ _=>⟨o.slots,kk b o (nP b n) q⟩,λb o q n _=>by rw[H1e b (nP b n) (lt0 b o q)];exact n,λb o q _=>?_,λb xs q=>keepO b _ (λ_ z=>by cases z) q,λb o u q=>keepO b _ (λ_ z=>by cases z) q,λb qs q=>?_⟩
   ·by_cases hb:b=P
    ·subst hb;exact⟨_,gP'⟩
    ·exact⟨_,kk b o hb q⟩
   ·by_cases hb:b=P
    ·subst hb;rw[t1]at q;cases q;exact⟨#[rawInt lpos.line,rawInt lpos.col,.ref c'],by rw[eP,hps]⟩
    ·exact⟨#[],by rw[H1e b hb (lH b _ q),q];simp⟩
  have hok1:Ci X.prog X.w H1 (h'.push fo):=λb o q=>by
   rcases cases1 b o q with⟨rfl,rfl⟩|⟨rfl,rfl⟩|⟨rfl,rfl⟩|⟨hb,q⟩
   ·exact⟨gf,_,gf⟩
   ·exact⟨goc,_,goc⟩
   ·exact gP'
   ·refine(I.hok b o q).stay (λb2 u Et z=>kk b2 u ?_ z) (λb2 z=>keepO b2 _ (λ_ z=>by cases z) z) λb2 xs z=>keepO b2 _ (λ_ z=>by cases z) z
    rcases Et with rfl|Et
    ·exact hb
    ·rintro rfl;rw[t1]at Et;cases Et
  have I1:Inv X pins σ H1 { s with heap:=h'.push fo,toks:=tk }:=I.un un hok1;refine⟨.ref h'.objs.size,H1,I1,rfl,h h'.objs.size c' ((X.mg "__name__").getD .none) ctv oc H1 (I.hok.fresh (df hge (iq hlt))) keepO ?_ (by rw[hfo];exact ef) ec ⟨vs,t,hd,hv⟩⟩;intro P' eP';rw[hP]at eP';cases eP';have hl:Bv.toList=ps.toList++[rawInt lpos.line,rawInt lpos.col,.ref c']:=by rw[<-hps];simp
  refine⟨Bv,eP,by rw[hl];exact XY _ _ _ _ _ _ t2,λpos cv q=>?_⟩;rw[hl]at q
  rcases XZ _ t2 q with q|q
  ·obtain⟨a,oa,z1,z2,z3⟩:=t3 pos cv q;exact⟨a,oa,z1,keepO a _ (λ_ z=>by cases z) z2,z3⟩
  ·exact⟨c',oc,q,ec,vs,t,hd,hv⟩
end
def oF:As->Ev->Option Aw 
 | [],_=>some []
 |i::r,ρ=>match ρ[i]? with
  |some (some d)=>(match oF r ρ with
   |some ds=>some (d::ds)
   |none=>none)
  |_=>none
theorem K1 {ρ:Ev}:∀{caps:As}{ds:Aw},oF caps ρ=some ds->ds.length=caps.length/\∀(i:Nat) (d:Dv),ds[i]?=some d->∃j,caps[i]?=some j/\ρ[j]?=some (some d)
 | [],ds,e=>by unfold oF at e;cases e;exact⟨rfl,λi d e=>by simp at e⟩
 |j::r,ds,e=>by
  unfold oF at e
  split at e
  ·rename_i d0 h0
   split at e
   ·rename_i ds0 h1;cases e;obtain⟨l,k⟩:=K1 h1;refine⟨by simp[l],λi d q=>?_⟩
    cases i with
    |zero=>simp at q;subst q;exact⟨j,rfl,h0⟩
    |succ i=>exact k i d (by simpa using q)
   ·cases e
  ·cases e
def jD (base h:cx) (cs:List ah):cx:=PySem.W.hideAll h ((bf h.objs.size).filter λb=>!((base.get? b).isSome||cs.contains b))
theorem CK {base h:cx}{cs:List ah}{b:ah}{o:Obj}(e:h.get? b=some o) (hb:(∃u,base.get? b=some u)∨b∈cs):(jD base h cs).get? b=some o:=
 yy _ e λz=>by
  have:=(gn.mp z).2
  rcases hb with⟨u,hb⟩|hb
  ·simp[hb]at this
  ·simp[hb]at this
theorem CL {base h:cx}{cs:List ah}{b:ah}{o:Obj}(e:(jD base h cs).get? b=some o):h.get? b=some o/\((∃u,base.get? b=some u)∨b∈cs):=by
 have e1:=zh _ e;refine⟨e1, ?_⟩
 by_cases hb:(∃u,base.get? b=some u)∨b∈cs
 ·exact hb
 ·exfalso
  have hm:b∈(bf h.objs.size).filter λb=>!((base.get? b).isSome||cs.contains b):=by
   refine gn.mpr ⟨bx.mpr (aq e1), ?_⟩
   cases q:base.get? b with
   |some u=>exact absurd (.inl ⟨u,q⟩) hb
   |none=>have:b∉cs:=λz=>hb (.inr z);simp[this]
  have:=yw (h:=h) _ hm;unfold jD at e;rw[this]at e;cases e
theorem X2 {env:Env}{scope:gh}{x:Str}{c:ah}(hf:∀x,(x,cb)∈scope.names->∃c,env.cells.lookup x=some c) (e:(dO env scope.names []).lookup x=some c):(x,cb)∈scope.names/\env.cells.lookup x=some c:=by
 rcases wO _ _ e with q|⟨q1,q2⟩
 ·cases q
 ·obtain⟨c',h'⟩:=hf x q1;rw[h']at q2;subst q2;exact⟨q1,h'⟩
section
variable{X:Cx}{G:Cfg}{E:XK}{k:Nat}{q x:Str}{p pos lpos:Pos}{params:km}{body:bo}{scope:gh}{c P fr:ah}{fdr:bq}{Nl:Au}{me:M Dv}{n ncl j:Nat}{mb:MS}{caps:As}
end
section
variable{X:Cx}{G:Cfg}
open Classical in
def fG (H:Hp) (tx:Dt) (u:af):Bool:=decide (∃v t,RelV v u/\Den jY H t v/\bK t tx=true)
open Classical in
theorem K2 {H:Hp}{tx t:Dt}{u:af}{v:V}(r:RelV v u) (d:Den jY H t v):fG H tx u=bK t tx:=by
 unfold fG
 cases q:bK t tx with
 |true=>exact decide_eq_true ⟨v,t,r,d,q⟩
 |false=>refine decide_eq_false λ⟨v',t',r',d',q'⟩=>?_;have e:=r'.inj r;subst e;rw[Den.inj t' t v' d' d,q]at q';cases q'
theorem tU {H:Hp}{tx:Dt}:∀{ts:List Dt}{vs:List V}{us:List af},Bj jY H ts vs->Bd vs us->us.any (fG H tx)=ts.any λt=>bK t tx
 | [],_,_,d,r=>by rw[Bj]at d;subst d;cases r;rfl
 |t::ts,_,_,d,r=>by
  rw[Bj]at d;obtain⟨v,rr,rfl,d1,d2⟩:=d
  cases r with
  |cons r1 r2=>rw[List.any_cons,List.any_cons,K2 r1 d1,tU d2 r2]
def xR (K:ao) (neg:Bool):R2:=λx y H Q=>∃a vs ts tx,y=.ref a/\(Bs K H a vs∨Bp K H a vs)/\Bj jY H ts vs/\Den jY H tx x/\(∀t∈ts,eZ t<=cH/\nod t=true)/\nod tx=true/\Q (.bl (if neg then !(ts.any λt=>bK t tx)else ts.any λt=>bK t tx)) H
theorem xS {pins:List (ah×Obj)}{σ:St}{H:Hp}{s:ag}{x:V}{v:af}{vs:List V}{its:List af}{ts:List Dt}{tx:Dt}(hu:X.A.units+64<cLine) (I:Inv X pins σ H s) (rx:RelV x v) (r:Bd vs its) (d:Bj jY H ts vs) (dx:Den jY H tx x)
  (ht:∀t∈ts,eZ t<=cH/\nod t=true) (nx:nod tx=true):∀y,y∈its.toArray->kv X.A.in1 s y v (fG H tx y):=λy hy=>by
 have hy':y∈its:=by simpa using hy
 obtain⟨j,hj,e⟩:=mr.mp hy';have hl:=r.length;obtain⟨u,eu,ru⟩:=r.get (i:=j) (x:=vs[j]'(by omega)) (ay (by omega));have:u=y:=by rw[ay hj,e]at eu;cases eu;rfl
 subst this;obtain⟨t,et,dt⟩:=d.get (i:=j) (ay (by omega:j<vs.length));obtain⟨h1,h2⟩:=ht t (cu et);rw[K2 ru dt];exact(JD I.hok cH X.A.in1 t tx _ x _ v h1 (by show X.A.units+1+cH+1<cLine;unfold cH;omega) h2 nx dt dx ru rx).2
theorem X3 (hu:X.A.units+64<cLine):Cg X (compareOp .In) (xR X.K false):=by
 intro pins s σ H x y v u Q I r1 r2 ⟨a,vs,ts,tx,e,hs,d,dx,ht,nx,q⟩;subst e;cases r2
 rcases hs with hs|hs
 ·obtain⟨its,r,pl,hz⟩:=I.list hs;refine SeqAt.in_listAt (fG H tx) pl.isList (xS hu I r1 r d dx ht nx) ?_;exact⟨.bl _,H,I,by rw[show its.toArray.any (fG H tx)=its.any (fG H tx)by simp,tU d r];rfl,q⟩
 ·obtain⟨its,r,pl,hz⟩:=I.tuple hs;refine SeqAt.in_tupleAt (fG H tx) pl (xS hu I r1 r d dx ht nx) ?_;exact⟨.bl _,H,I,by rw[show its.toArray.any (fG H tx)=its.any (fG H tx)by simp,tU d r];rfl,q⟩
theorem K4 (hu:X.A.units+64<cLine):Cg X (compareOp .NotIn) (xR X.K true):=by
 intro pins s σ H x y v u Q I r1 r2 ⟨a,vs,ts,tx,e,hs,d,dx,ht,nx,q⟩;subst e;cases r2
 rcases hs with hs|hs
 ·obtain⟨its,r,pl,hz⟩:=I.list hs;refine SeqAt.notIn_listAt (fG H tx) pl.isList (xS hu I r1 r d dx ht nx) ?_;exact⟨.bl _,H,I,by rw[show its.toArray.any (fG H tx)=its.any (fG H tx)by simp,tU d r];rfl,q⟩
 ·obtain⟨its,r,pl,hz⟩:=I.tuple hs;refine SeqAt.notIn_tupleAt (fG H tx) pl (xS hu I r1 r d dx ht nx) ?_;exact⟨.bl _,H,I,by rw[show its.toArray.any (fG H tx)=its.any (fG H tx)by simp,tU d r];rfl,q⟩
def lW (scr:Aq) (neg:Bool) (x c:Dv) (h:Hs):Rs Dv:=match fY scr c h with
 |some ys=>match bU (bQ cH h) ys,bQ cH h x with
  |some ts,some tx=>.ok (.bl (if neg then !(ts.any λt=>bK t tx)else ts.any λt=>bK t tx)) h
  |_,_=>.bad
 |none=>.bad
theorem K5 {μ:Nat->ah}{h:Hs}{H:Hp}(s:Bk G μ h H):∀{xs:Aw}{vs:List V}{ts:List Dt},RelDL G μ h.length H xs vs->bU (bQ cH h) xs=some ts->Bj jY H ts vs/\∀t∈ts,eZ t<=cH/\nod t=true
 | [],_,_,r,e=>by cases e;rw[RelDL]at r;subst r;exact⟨Bj.nil,λt ht=>by simp at ht⟩
 |x::xs,_,_,r,e=>by
  rw[RelDL]at r;obtain⟨v,rr,rfl,r1,r2⟩:=r;unfold bU at e
  cases q:bQ cH h x with
  |none=>rw[q]at e;cases e
  |some y=>
   rw[q]at e;dsimp only at e
   cases q2:bU (bQ cH h) xs with
   |none=>rw[q2]at e;cases e
   |some ys=>
    rw[q2]at e;cases e;obtain⟨a1,a2,a3⟩:=qW s _ x v y r1 q;obtain⟨b1,b2⟩:=K5 s r2 q2;refine⟨Bj.cons a1 b1,λt ht=>?_⟩
    rcases bh.mp ht with rfl|ht
    ·exact⟨a2,a3⟩
    ·exact b2 t ht
theorem X4 (neg:Bool):fX G (xR G.K neg) (lW G.scr neg):=by
 intro E μ h H x y vx vy Q s rx ry o;unfold lW at o
 cases q:fY G.scr y h with
 |none=>rw[q]at o;exact o.elim
 |some ys=>
  rw[q]at o;dsimp only at o
  split at o
  ·rename_i ts tx e1 e2;obtain⟨a,vs,rfl,hs,r⟩:=BU s ry q;obtain⟨b1,b2⟩:=K5 s r e1;obtain⟨c1,c2,c3⟩:=qW s _ x vx tx rx e2;exact⟨a,vs,ts,tx,rfl,hs,b1,c1,b2,c3,o.val s rfl⟩
  ·exact o.elim
end
section
variable{X:Cx}{G:Cfg}
end
def jE (c:M Bool) (body:MS):Nat->MS
 |0=>λ_ _=>.bad
 |f+1=>λρ h=>(c ρ h).thenS λb h1=>if b=true then(match body ρ h1 with
  | .nx ρ2 h2=>jE c body f ρ2 h2
  | .ct ρ2 h2=>jE c body f ρ2 h2
  | .bk ρ2 h2=>.nx ρ2 h2
  |r=>r)else .nx ρ h1
section
variable{X:Cx}{G:Cfg}{E:XK}{c:bo}{body:List gz}{mc:M Bool}{mb:MS}{pos:Pos}
theorem K6 (n:Nat) (hp:yg (model X.prog X.w) X.A X.env X.xe) (hc:gW X G E c mc) (hb:jQ X G E body mb):jI X G E (.While c body [] pos) (jE mc mb n):=λhK=>PS.imp (R3 hp (hc hK) (hb hK)) λD σ H ⟨μ,ρ,h,rs,s,o⟩=>by
 refine⟨λm σ H=>∃μ ρ h,Bf G μ h.length H ρ σ/\Bk G μ h H/\Bz G E μ h.length H (jE mc mb m ρ h) D,⟨n,μ,ρ,h,rs,s,o⟩, ?_⟩
 rintro m σ1 H1 ⟨μ1,ρ1,h1,Bo,s1,o1⟩
 cases m with
 |zero=>exact o1.elim
 |succ m=>
  refine JY Bo s1 o1 λμ2 b h2 H2 x2 Cw s2 o2=>?_
  cases b with
  |false=>rw[if_neg (by decide)]at o2 ⊢;exact o2 μ2 H2 σ1 Ext.refl s2 Cw
  |true=>
   rw[if_pos rfl]at o2 ⊢;refine⟨λσ' H'=>∃μ ρ h,Bf G μ h.length H' ρ σ'/\Bk G μ h H'/\Bz G E μ h.length H' (jE mc mb m ρ h) D,λσ' H' z=>⟨m,jm m,z⟩,μ2,ρ1,h2,Cw,s2, ?_⟩
   cases q:mb ρ1 h2 with
   |nx ρ3 h3=>rw[q]at o2;exact λμ4 H4 σ4 x4 s4 oV=>⟨μ4,ρ3,h3,oV,s4,Bz.ext o2 x4⟩
   |ct ρ3 h3=>rw[q]at o2;exact λμ4 H4 σ4 x4 s4 oV=>⟨μ4,ρ3,h3,oV,s4,Bz.ext o2 x4⟩
   |bk ρ3 h3=>rw[q]at o2;exact o2
   |rt d h3=>rw[q]at o2;exact o2
   |ex d h3=>rw[q]at o2;exact o2
   |bad=>rw[q]at o2;exact o2.elim
end
section
variable{X:Cx}{G:Cfg}{E:XK}{e o:bo}{mo me:M Dv}{pos apos cpos np p2:Pos}{y:Str}
def xT (x i:Dv) (h:Hs):Rs Dv:=match x,i with
 | .ref j,.int n=>match getL h j with
  |some xs=>match gE xs.length n with
   |some k=>match xs[k]? with
    |some d=>if xs.length<=1000000 then .ok d (h.set j (.lst (xs.eraseIdx k)))else .bad
    |none=>.bad
   |none=>.bad
  |none=>.bad
 |_,_=>.bad
theorem K7 {μ:Nat->ah}{n:Nat}{H:Hp}:∀{ds:Aw}{vs:List V}(k:Nat),RelDL G μ n H ds vs->RelDL G μ n H (ds.eraseIdx k) (vs.eraseIdx k)
 | [],_,_,h=>by rw[RelDL]at h;subst h;exact RelDL.nil
 |d::ds,_,0,h=>by rw[RelDL]at h;obtain⟨v,r,rfl,h1,h2⟩:=h;exact h2
 |d::ds,_,k+1,h=>by rw[RelDL]at h;obtain⟨v,r,rfl,h1,h2⟩:=h;exact RelDL.cons h1 (K7 k h2)
def tV (mo me:M Dv):M Dv:=λρ h=>(mo ρ h).bind λx h1=>if iJ x h1=true then(me ρ h1).bind λd h2=>xT x d h2 else .bad
theorem X5 (ho:aK X G E (.Name y np) mo) (he:aK X G E e me) (hs:ar [e] X.env=[(false,eval e X.env)]:=by rfl) (hl:(apos.endLine==cpos.line)=true:=by rfl):aK X G E (.Call (.Attribute (.Name y np) "pop" apos) [e] [] cpos) (tV mo me):=λhK=>
 PE.imp (sT kj PySem.F.slot_list_pop PySem.F.type_list_pop UY (ho hK) (iE (he hK) jH hs) rfl (by rw[hs];rfl) hl hs rfl) λσ H Q ⟨μ,ρ,h,rs,s,oo⟩=>eG rs s oo λμ1 x h1 vx H1 x1 Bo s1 r1 o1=>by
  split at o1
  ·rename_i hl;refine⟨tP s1 r1 hl,eG Bo s1 o1 λμ2 d h2 vd H2 x2 Cw s2 r2 o2=>?_⟩
   cases x with
   |ref j=>
    cases d with
    |int n=>
     dsimp only[xT]at o2
     cases q:getL h2 j with
     |none=>rw[q]at o2;exact o2.elim
     |some xs=>
      rw[q]at o2;dsimp only at o2
      cases q2:gE xs.length n with
      |none=>rw[q2]at o2;exact o2.elim
      |some k=>
       rw[q2]at o2;dsimp only at o2
       cases q3:xs[k]? with
       |none=>rw[q3]at o2;exact o2.elim
       |some d'=>
        rw[q3]at o2;dsimp only at o2
        split at o2
        ·rename_i hz;obtain⟨vs,ea,ra⟩:=s2.ob j _ (cU q);obtain⟨_,rfl⟩:=Bc.mono x2 _ _ r1;rw[Bc]at r2;subst r2;obtain⟨v,ev,rv⟩:=ra.get q3;obtain⟨i1,i2,i3,i4⟩:=BB q2;obtain⟨x3,s3⟩:=s2.write (cU q) (K7 k ra);exact⟨_,vs,n,k,v,rfl,rfl,ea,by omega,by omega,by rw[ra.length];exact i1,ev,o2 μ2 _ _ x3 s3 (Bc.mono x3 _ _ rv)⟩
        ·exact o2.elim
    |_=>exact o2.elim
   |_=>exact o2.elim
  ·exact o1.elim
def oG (xs:Aw) (lo hi:Option Int):Aw:=(xs.drop (HT.sIx xs.length 0 lo)).take (HT.sIx xs.length xs.length hi - HT.sIx xs.length 0 lo)
theorem K8 {μ:Nat->ah}{n:Nat}{H:Hp}{xs:Aw}{vs:List V}(r:RelDL G μ n H xs vs) (lo hi:Option Int):RelDL G μ n H (oG xs lo hi) (nX vs lo hi):=by unfold oG nX;rw[r.length];exact(r.drop _).take _
abbrev MO:=Ev->Hs->Rs (Option Int)
def X6 (G:Cfg) (E:XK) (m:MO):TO:=λσ H Q=>∃μ ρ h,Bf G μ h.length H ρ σ/\Bk G μ h H/\Out G E μ h.length H (m ρ h) (λ_ _ _ a b=>b=a) Q
def xU (X:Cx) (G:Cfg) (E:XK) (pe:Option bo) (m:MO):Prop:=X.K=G.K->PO X pe (X6 G E m)
theorem PO.imp {pe:Option bo}{t t':TO}(h:PO X pe t) (i:∀σ H Q,t' σ H Q->t σ H Q):PO X pe t':=λpins s σ H Q I q=>h pins s σ H Q I (i σ H Q q)
def tW:MO:=λ_ h=>.ok none h
def K9:Dv->Hs->Rs (Option Int)
 | .int i,h=>.ok (some i) h
 |_,_=>.bad
def tX (m:M Dv):MO:=λρ h=>(m ρ h).bind K9
theorem X7:xU X G E none tW:=λ_=>PO.imp T9 λσ H Q ⟨μ,ρ,h,rs,s,oo⟩=>oo.val s rfl
theorem X8 (he:aK X G E e me):xU X G E (some e) (tX me):=λhK=>PO.imp (UA (he hK)) λσ H Q ⟨μ,ρ,h,rs,s,oo⟩=>eG rs s oo λμ1 d h1 v H1 x1 Bo s1 r1 o1=>by
 cases d with
 |int i=>exact⟨i,r1,o1.val s1 rfl⟩
 |_=>exact o1.elim
end
section
variable{X:Cx}{G:Cfg}{E:XK}{pos:Pos}
theorem X9:aK X G E (.Dict [] [] pos) (mC .edc):=λ_ pins s σ H Q I ⟨μ,ρ,h,rs,sm,o⟩=>by have hb:sysModules<s.heap.objs.size:=Nat.lt_trans (by decide) (I.mod.glob.keeps I.bk).lt;have hn:=I.hok.fresh (aj s.heap.objs.size);refine wpAny_Dict_empty ⟨.ref s.heap.objs.size,_,I.laid (a:=s.heap.objs.size) (o:=.dK []) (t':=s.toks) (λ_ _ q=>ak _ q) (aj _) ⟨ig _,beq_eq_false_iff_ne.mpr (dh (az hb)),[],.nil,Heap.DictOf.new s.heap⟩,rfl, ?_⟩;exact o μ _ _ (Ext.same (cZ hn)) (sm.same (cZ hn)) ⟨_,rfl,dF⟩
theorem YA {x:Str}{i:Int}{t:Tok}(hg:Gl X x) (hm:X.mg x=some (.int i t)) (hd:(x==("__debug__" : Str))=false:=by decide):aK X G E (.Name x pos) (mC (.int i)):=λ_=>PE.imp (GS (v:=.int i) hg hm ⟨t,rfl⟩ hd) λσ H Q ⟨μ,ρ,h,rs,s,o⟩=>o.val s (show Bc G μ _ H (.int i) (.int i) from rfl)
def CM:Dv->Hs->Rs Dv
 | .int i,h=>.ok (.int (-i)) h
 |_,_=>.bad
theorem YB:lM G (rU λi=>.int (-i)) CM:=by
 intro E μ h H x vx Q s r o
 cases x with
 |int i=>rw[Bc]at r;subst r;exact⟨i,rfl,o.val s rfl⟩
 |_=>exact o.elim
end
section
variable{X:Cx}{G:Cfg}{E:XK}{tg a b c:bo}{p pos:Pos}{ms:M Aw }
end
structure Lawful (lp:bj) (w:cq) (K:ao) (mg:Str->Option af) (base:cx) (k:Nat) (fa:ah) (fd:bq) (x:Str) (P a:ah) (ns:Aq):Prop where
 ex:∃(G:Cfg) (lawF:Av) (hh:Hs),G.K=K/\G.scr=ns/\G.sa=a/\G.tab=some P/\lawF [.scr] []=.ok (.bl true) hh/\Bg lp w K mg base (bI lp w base) k fa fd [x] (cR G lawF)
theorem LB {lp:bj}{w:cq}{K:ao}{mg mb:Str->Option af}{k:Nat}{fa a c P:ah}{fd:bq}{x:Str}{s₁:ag}{vs:List af}{ns:Aq}
  (KX:K.In s₁.heap) (hns:s₁.heap.Ns dj mg) (hb:s₁.heap.Ns builtinsNs mb) (hbb:∀x:Str,x ≠ "__name__"->mb x=dy x) (hlim:s₁.heap.NoLimit) (hg:s₁.gens=#[])
  (ha:s₁.heap.get? a=some { cls:=.type "list",data:=.seq vs.toArray }) (hi:lg vs ns) (hl:ns.length<=cf) (hr:Bt k callerA)
  (hC:md s₁.heap c P) (hP:s₁.heap.get? P=some (uq #[])) (hB:lV mg s₁.heap) (hnt:PySem.W.noTabs K=true)
  (F:∀base:cx,K.In base->base.Ns dj mg->md base c P->lV mg base->Lawful lp w K mg base k fa fd x P a ns) (hbind:∀(s:ag) (u:af),yz s fd ⟨[u],[]⟩ [(x,u)]):
  codeAny (model lp w) callerA (.call (.ref fa) ⟨[.ref a],[]⟩) (λr s'=>r=.ok (.ret (.bool true))/\OldK s₁.heap s'.heap/\s'.os=s₁.os/\ue s'.gens) s₁:=by
 have rv:=IG hi;have lenV:=hi.length;have KP:K.lookup P=none:=by
  cases q:K.lookup P with
  |none=>rfl
  |some o=>have e:=KX P o q;rw[hP]at e;cases e;have:=gu.mp hnt (P,uq #[]) (PySem.W.mem_of_lookupK q);exact absurd (show false=true from this) ie
 have aP:a≠P:=λz=>by rw[z,hP]at ha;cases ha
 have core:∀H:Hp,H P=some (.tbl #[])->FzL K H a (ns.map V.int)->Ci lp w H s₁.heap->(∀b,H b≠none->b=a∨b=P)->(H a≠none->K.lookup a=none)->(∀u,H a=some u->∃o xs,u=.frz o (.lst xs))->
   codeAny (model lp w) callerA (.call (.ref fa) ⟨[.ref a],[]⟩) (λr s'=>r=.ok (.ret (.bool true))/\OldK s₁.heap s'.heap/\s'.os=s₁.os/\ue s'.gens) s₁:=by
  intro H hHP hS hok hA hK hF;have base_of:∀{b:ah}{o:Obj},s₁.heap.get? b=some o->H b=none->(kN s₁.heap H).get? b=some o:=λe n=>QX e n;have none_of:∀{b:ah},b≠a->b≠P->H b=none:=λ{b} h1 h2=>by
   cases q:H b with
   |none=>rfl
   |some u=>exact((hA b (by rw[q];simp)).elim h1 h2).elim
  have noD:∀{b:ah}{o:Obj}{es:Array DictEntry}{ep:Nat},s₁.heap.get? b=some o->o.data=.dict es ep->H b=none:=λ{b o es ep} e d=>none_of (λz=>by
    subst z;rw[ha]at e;cases e;have d':Data.seq vs.toArray _=Data.dict es ep:=d
    cases d') (λz=>by
    subst z;rw[hP]at e;cases e;have d':Data.fields _=Data.dict es ep:=d
    cases d')
  have nsK:∀{b:ah}{m:Str->Option af},s₁.heap.Ns b m->(kN s₁.heap H).Ns b m:=λ{b m} ⟨o,es,ep,e,d,r⟩=>⟨o,es,ep,base_of e (noD e d),d,r⟩
  have hKb:K.In (kN s₁.heap H):=λb o e=>base_of (KX b o e) (by
   cases q:H b with
   |none=>rfl
   |some u=>
    rcases hA b (by rw[q];simp)with z|z
    ·subst z;rw[hK (by rw[q];simp)]at e;cases e
    ·subst z;rw[KP]at e;cases e)
  have hM:Mod K mg (kN s₁.heap H):=⟨hKb,nsK hns,⟨mb,nsK hb,hbb⟩,let ⟨mc,h1,h2⟩:=hlim;⟨mc,nsK h1,h2⟩⟩
  have hCb:md (kN s₁.heap H) c P:=by obtain⟨o,Cc,file,tf,flags,tg,inF,text,tt,e1,r1,r⟩:=hC;refine⟨o,Cc,file,tf,flags,tg,inF,text,tt,base_of e1 (none_of (λz=>?_) r.2.2.2.2.2.2.2),r1,r⟩;subst z;rw[ha]at e1;cases e1;exact absurd r1 (by intro w;injection w with w;exact absurd w (by decide))
  have hBb:lV mg (kN s₁.heap H):=by
   obtain⟨bm,ob,b1,b2,b3,b4,b5,b6⟩:=hB;refine⟨bm,ob,b1,b2,base_of b3 (none_of (λz=>?_) (λz=>?_)),b4,b5,b6⟩
   ·subst z;rw[ha]at b3;cases b3;exact absurd b4 (by intro w;injection w with w;exact absurd w (by decide))
   ·subst z;rw[hP]at b3;cases b3;cases b4
  have e0:Env0 lp w K mg (kN s₁.heap H) callerA [] s₁ H:=⟨rfl,hM,λb o e=>QY e,qr (QW _ _),trivial,λb hb=>absurd (show b∈([]:List ah) from hb) (by simp),hok,.of_eq hg⟩
  obtain⟨G,lawF,hh,g1,g2,g3,g4,hlaw,Fn⟩:=(F _ hKb (nsK hns) hCb hBb).ex;have rd:RelDL G (λ_=>0) 0 H [.scr] [.ref a]:=by refine RelDL.cons ?_ RelDL.nil;rw[Bc,g1,g2,g3];exact⟨rfl,hS⟩
  have sm:Bk G (λ_=>0) [] H:=⟨λi j h1=>absurd h1 (by simp),λi o q=>by simp at q,λP' e=>by
   rw[g4]at e;cases e;exact⟨#[],hHP,trivial,λpos cv q=>by
    have q':(none:Option af)=some cv:=q
    cases q'⟩⟩
  refine rz (Fn.run callerA [] s₁ H ⟨[.ref a],[]⟩ [.ref a] [.ref a] (λv _=>v=.bl true) (λ_ _ _=>False) hr e0 (hbind s₁ (.ref a)) (.cons rfl .nil) ⟨λ_=>0,[],[.scr],rd,sm, ?_⟩) λr s' h=>?_
  ·rw[hlaw];exact λμ' H' v _ _ r=>r
  cases r with
  |error e=>obtain⟨_,_,_,_,_,_,_,_,_,z⟩:=h;exact z.elim
  |ok fl=>
   cases fl with
   |next=>exact jh h
   |brk=>exact jh h
   |cont=>exact jh h
   |ret u=>
    obtain⟨v,H',os,bare,un,hok',r',q⟩:=h;have q':v=.bl true:=q;subst q';obtain rfl:u=Ae true:=r';have kept:∀b o,b≠P->s₁.heap.get? b=some o->s'.heap.get? b=some o:=λb o hbP e=>by
     cases q:H b with
     |none=>exact un.keep b o e q (by intro z;exact absurd (show b∈([]:List ah) from z) (by simp)) (by simp)
     |some u=>
      rcases hA b (by rw[q];simp)with z|z
      ·subst z;obtain⟨ob,xs,rfl⟩:=hF u q;have z2:=un.frzs b ob _ q;obtain⟨e1,_⟩:=hok b _ q;obtain⟨e2,_⟩:=hok' b _ z2;rw[e]at e1;cases e1;exact e2
      ·exact absurd z hbP
    obtain⟨more,hm⟩:=un.tbls P #[] hHP;have gP:s'.heap.get? P=some (uq (#[]++more)):=hok' P _ hm;refine⟨rfl,⟨λb o e=>?_,λb o e=>?_⟩,os,bare⟩
    ·by_cases hb:b=P
     ·subst hb;rw[hP]at e;cases e;exact .inr (.inl ⟨(hC.tab hP).isCodeTable,rfl,#[],more,rfl,gP⟩)
     ·exact .inl (kept b o hb e)
    ·by_cases hb:b=P
     ·subst hb;exact⟨_,gP⟩
     ·exact⟨_,kept b o hb e⟩
 cases hk:K.lookup a with
 |some o=>
  have e:=KX a o hk;rw[ha]at e;cases e;refine core (λb=>if b=P then some (.tbl #[])else none) (if_pos rfl) (.inr ⟨_,vs.toArray,_,hk,rfl,rfl,rfl,by rw[aw,lenV];exact hl,by simpa using rv⟩) (λb u z=>?_) (λb z=>?_) (λz=>absurd (if_neg aP) z) (λu z=>?_)
  ·by_cases hb:b=P
   ·have z':=(if_pos hb).symm.trans z;cases z';subst hb;exact hP
   ·have z':=(if_neg hb).symm.trans z;cases z'
  ·by_cases hb:b=P
   ·exact .inr hb
   ·exact absurd (if_neg hb) z
  ·have z':=(if_neg aP).symm.trans z;cases z'
 |none=>
  have ea:(λb=>if b=a then some (HO.frz { cls:=.type "list",data:=.seq vs.toArray } (.lst (ns.map V.int)))else if b=P then some (.tbl #[])else none) a=some (.frz { cls:=.type "list",data:=.seq vs.toArray } (.lst (ns.map V.int))):=if_pos rfl;refine core (λb=>if b=a then some (.frz { cls:=.type "list",data:=.seq vs.toArray } (.lst (ns.map V.int)))else if b=P then some (.tbl #[])else none) ((if_neg (dh aP)).trans (if_pos rfl)) (.inl ⟨{ cls:=.type "list",data:=.seq vs.toArray },ea⟩) (λb u z=>?_) (λb z=>?_) (λ_=>hk) (λu z=>?_)
  ·by_cases hb:b=a
   ·have z':=(if_pos hb).symm.trans z;cases z';subst hb;exact⟨ha,by rw[ba];exact hl,vs,_,rv,ha⟩
   ·have z':=(if_neg hb).symm.trans z
    by_cases Et:b=P
    ·have z2:=(if_pos Et).symm.trans z';cases z2;subst Et;exact hP
    ·have z2:=(if_neg Et).symm.trans z';cases z2
  ·by_cases hb:b=a
   ·exact .inl hb
   ·by_cases Et:b=P
    ·exact .inr Et
    ·exact absurd ((if_neg hb).trans (if_neg Et)) z
  ·have z':=ea.symm.trans z;cases z';exact⟨_,_,rfl⟩
open L2
theorem gO {α:Type}{P:List α->Prop}(h:∀a,P [a]):∀us:List α,us.length=1->P us
 | [a],_=>h a
theorem jK {α:Type}{P:List α->Prop}(h:∀a b,P [a,b]):∀us:List α,us.length=2->P us
 | [a,b],_=>h a b
theorem LC {α:Type}{P:List α->Prop}(h:∀a b c,P [a,b,c]):∀us:List α,us.length=3->P us
 | [a,b,c],_=>h a b c
theorem kC {P:Nat->Bool->Prop}:∀c b,List.lookup c ([]:List (Nat×Bool))=some b->P c b:=λ_ _ h=>nomatch h
theorem kD {P:Nat->Bool->Prop}{x:Nat}{y:Bool}{l:List (Nat×Bool)}(h:P x y) (hl:∀c b,l.lookup c=some b->P c b):∀c b,List.lookup c ((x,y)::l)=some b->P c b:=λc b e=>by
 rw[je]at e
 cases q:c==x with
 |true=>rw[q]at e;exact eq_of_beq q▸(cw e)▸h
 |false=>rw[q]at e;exact hl c b e
theorem YC {P:Nat->Prop}:∀c,c<0->P c:=λc h=>absurd h (Nat.not_lt_zero c)
theorem kW {P:Nat->Prop}{n:Nat}(h0:P 0) (h:∀c,c<n->P (c+1)):∀c,c<n+1->P c
 |0,_=>h0
 |c+1,hc=>h c (Nat.lt_of_succ_lt_succ hc)
open PySem.Calls
abbrev Ys {β:Type}(ob:Frag->β) (obE:β):cq->cx->Prop:=λ_ h=>∃K:Frag,K.In h/\noTabs K=true/\ob K=obE
theorem ys_of {β:Type}{ob:Frag->β}{obE:β}:∀(w:cq) (s:ag),ob (sO s.heap)=obE->Ys ob obE w s.heap:=λ_ s e=>⟨sO s.heap,vW _ _,vX _ _,e⟩
theorem ys_keeps {β:Type}{ob:Frag->β}{obE:β}:∀(w:cq) (h h':cx),Ys ob obE w h->(∀b o,h.get? b=some o->h'.get? b=some o)->Ys ob obE w h':=λ_ _ _ ⟨K,x,n,e⟩ k=>⟨K,x.keeps k,n,e⟩
theorem z67 {β:Type}{ob:Frag->β}{obE:β}{l:OpenLaw}{n k:Nat}{q:bj}{loose:Au}{XP:(Str->Option af)->cx->Prop}{d:DefRec}{x:Str}
  (hn:l.most=some n) (hn2:n<=cf) (hdf:d.params.defaults=[]) (hr:Bt k callerA) (hfind:(recsOf q).find? (λe=>e.name==d.name)=some d)
  (F:∀(K:Frag) (w:cq) (mg:Str->Option af) (fa:ah) (h:cx),ob K=obE->noTabs K=true->K.In h->h.Ns dj mg->mg d.name=some (.ref fa)->
   ∃(fd:bq) (c P:ah),(∀(s:ag) (u:af),yz s fd ⟨[u],[]⟩ [(x,u)])/\tabIn K d.name=some (c,P)/\noTabs K=true /\
    ∀(base:cx) (a:ah) (ns:Aq),ns.length<=n->K.In base->base.Ns dj mg->CodeHd base c P->lV mg base->Lawful l.prog w K mg base k fa fd x P a ns):
  WalkO q loose XP (Ys ob obE) l.row.toRowW d [] (λf vs=>Ai f vs):=by
 refine Att.attach_call hn hdf λw s₀ s₁ mg mb fa o pm cd doc a vs ns G Y ho hd hcd hmg hobj hints hlen hg=>?_;obtain⟨K,KX,hnt',hob⟩:=Y;obtain⟨fd,c,P,hb,ht,hnt,hF⟩:=F K w mg fa _ hob hnt' KX G.T.g hmg;obtain⟨hC,hP⟩:=tab_of G.T KX hfind ht;exact LB KX G.T.g G.T.b G.T.builtins G.T.nolimit hg hobj hints (df hlen hn2) hr hC hP G.T.bmain hnt (λbase h1 h2 h3 h4=>hF base a ns hlen h1 h2 h3 h4) hb
theorem YD {K:Frag}{f c:ah}{st:gz}{n:Str}{ps:Au}(h:cW K f=some (fnOf n n (nY st) (iG st) (aU st) .none .none .none .none none (.ref c) .none)) (hc:codeIn K (.ref c) n=true) (hk:keepIn K (.ref f)=true)
  (hb:∀(kV doc pm:af) (an:Option ah) (cdv ct:af) (us:List af),us.length=ps.length->bindArgs (fnOf n n (nY st) (iG st) (aU st) .none kV doc pm an cdv ct) ⟨us,[]⟩=pure (ps.zip us)):
  ∃fd:bq,B' K n n st f fd/\Binds K fd ps []/\fd.code=.ref c/\∀us:List af,us.length=ps.length->bindArgs fd ⟨us,[]⟩=pure (ps.zip us):=by
 obtain⟨oc,od,kV,dc,pm,an,ct,sl,e⟩:=QI h;exact⟨_,IH e hc hk,(IH e hc hk).binds hb,rfl,hb kV dc pm an (.ref c) ct⟩
theorem walkK2 {β:Type}{ob:Frag->β}{obE:β}{l:OpenLaw}{n k:Nat}{q:bj}{loose:Au}{XP:(Str->Option af)->cx->Prop}{d:DefRec}{x:Str}(nm:Str)
  (hn:l.most=some n) (hn2:n<=cf) (hdf:d.params.defaults=[]) (hr:Bt k callerA) (hfind:∃d2:DefRec,(recsOf q).find? (λe=>e.name==nm)=some d2/\d2.name=nm)
  (F:∀(K:Frag) (w:cq) (mg:Str->Option af) (fa:ah) (h:cx),ob K=obE->noTabs K=true->K.In h->h.Ns dj mg->mg d.name=some (.ref fa)->
   ∃(fd:bq) (c P:ah),(∀(s:ag) (u:af),yz s fd ⟨[u],[]⟩ [(x,u)])/\tabIn K nm=some (c,P)/\noTabs K=true /\
    ∀(base:cx) (a:ah) (ns:Aq),ns.length<=n->K.In base->base.Ns dj mg->CodeHd base c P->lV mg base->Lawful l.prog w K mg base k fa fd x P a ns):
  WalkO q loose XP (Ys ob obE) l.row.toRowW d [] (λf vs=>Ai f vs):=by
 refine Att.attach_call hn hdf λw s₀ s₁ mg mb fa o pm cd doc a vs ns G Y ho hd hcd hmg hobj hints hlen hg=>?_;obtain⟨K,KX,hnt',hob⟩:=Y;obtain⟨fd,c,P,hb,ht,hnt,hF⟩:=F K w mg fa _ hob hnt' KX G.T.g hmg;obtain⟨d2,hf,hnm⟩:=hfind;have hf':(recsOf q).find? (λe=>e.name==d2.name)=some d2:=by rw[hnm];exact hf
 obtain⟨hC,hP⟩:=tab_of G.T KX hf' (by rw[hnm];exact ht);exact LB KX G.T.g G.T.b G.T.builtins G.T.nolimit hg hobj hints (df hlen hn2) hr hC hP G.T.bmain hnt (λbase h1 h2 h3 h4=>hF base a ns hlen h1 h2 h3 h4) hb
theorem dB {F:List (Frag->Bool)}{K:Frag}(h:F.all (λf=>f K)=true) (i:Nat) {g:Frag->Prop}[∀K,Decidable (g K)] (e:F[i]?=some (λK=>decide (g K)):=by rfl):g K:=dA h i e
theorem cJ {K:Frag}{h:cx}{mg:Str->Option af}{n:Str}{v:af}{F:List (Frag->Bool)}(X:K.In h) (G:h.Ns dj mg) (hc:F.all (λf=>f K)=true) (i:Nat) (e:F[i]?=some (λK=>decide (nsIn K dj n=some (some v))):=by rfl):mg n=some v:=mg_of X G (dA hc i e)
theorem CN {env:Env}{x:Str}:∀{l:List (Str×lj)},l.lookup x=some .free->(l.map λ(n,k)=>if(k==cb&&env.scope.kind==.function&&env.kindOf n==some .cell)then(n,dz)else(n,k)).lookup x≠some .local
 | [],h=>by simp at h
 |(n,q)::r,h=>by
  rw[je]at h;rw[da]
  cases e:x==n with
  |true=>
   rw[e]at h;have hq:q=.free:=cw h;subst hq;dsimp only
   split
   ·rw[je,e];simp
   ·rw[je,e];simp
  |false=>
   rw[e]at h;dsimp only
   split
   ·rw[je,e];exact CN h
   ·rw[je,e];exact CN h
theorem YE {X:Cx}{sc os:gh}{oN N:Au}{cap:List (Option Nat)}(hs:X.env.scope.names=os.names) (hN:X.N=oN) (h1:sc.kind=.function) (h2:∀p∈sc.names,p.2=.local->sc.names.lookup p.1=some .local) (h3:cap.length=N.length)
  (h4:∀p∈sc.names,p.2=.free->os.names.lookup p.1=some .cell∨os.names.lookup p.1=some .free) (h5:∀p∈sc.names,p.2=.free->(p.1,dz)∉sc.names) (h6:∀q∈cap.zip N,∀j∈q.1,oN[j]?=some q.2/\sc.names.lookup q.2=some .free):Bu X sc N cap:=by
 refine⟨h1,h2,h3,λx hx=>?_,λx hx=>h5 _ hx rfl,λi j x e1 e2=>?_⟩
 ·have:=h4 _ hx rfl;rw[<-hs]at this;exact this
 ·have hm:(some j,x)∈cap.zip N:=cu (i:=i) (ni.mpr ⟨e1,e2⟩);obtain⟨a,b⟩:=h6 _ hm j rfl;rw[hN];refine⟨a,fq b, ?_⟩;exact CN b
def hO:Dv->Dv->Hs->Rs Dv:=jB λi j=>.int (i - j)
def pJ:Dv->Dv->Hs->Rs Dv:=lO xD λi j=>.int (i*j)
def lX:Dv->Dv->Hs->Rs Dv:=lO qY λi j=>.int (i % j)
def tY:Dv->Dv->Hs->Rs Dv:=lO tF λi j=>.int (i ^ j.toNat)
def rF:Dv->Dv->Hs->Rs Dv:=jB λi j=>.bl (decide (i<=j))
def kE:Dv->Dv->Hs->Rs Dv:=jB λi j=>.bl (decide (i>j))
def xV:Dv->Dv->Hs->Rs Dv:=jB λi j=>.bl (decide (i>=j))
section
variable{X:Cx}{G:Cfg}{E:XK}{k:Nat}{a b:bo}{ma mb:M Dv}{pos:Pos}
theorem tZ (ha:aK X G E a ma) (hb:aK X G E b mb):aK X G E (.BinOp a .Sub b pos) (m2 hO ma mb):=oY SQ VV ha hb
theorem uA (ha:aK X G E a ma) (hb:aK X G E b mb):aK X G E (.BinOp a .Mult b pos) (m2 pJ ma mb):=oY SS (xC VW) ha hb
theorem rG (ha:aK X G E a ma) (hb:aK X G E b mb):aK X G E (.BinOp a .Mod b pos) (m2 lX ma mb):=oY SU (xC VX) ha hb
theorem LD (ha:aK X G E a ma) (hb:aK X G E b mb):aK X G E (.BinOp a .Pow b pos) (m2 tY ma mb):=oY SV (xC VY) ha hb
theorem YF (ha:aK X G E a ma):aK X G E (.UnaryOp .USub a pos) (m1 CM ma):=VR SY YB ha
theorem YG (ha:aK X G E a ma) (hb:aK X G E b mb):aK X G E (.Compare a [.Gt] [b] pos) (m2 kE ma mb):=qS G6 qX ha hb (mX _)
theorem pK (g:Good X G E k) (ha:aK X G E a ma) (hb:aK X G E b mb):aK X G E (.Compare a [.Eq] [b] pos) (m2 cA ma mb):=qS (JK g.room.units) JM ha hb (mX _)
theorem YH (g:Good X G E k) (ha:aK X G E a ma) (hb:aK X G E b mb):aK X G E (.Compare a [.NotEq] [b] pos) (m2 dG ma mb):=qS (JL g.room.units) JN ha hb (mX _)
theorem YI (ha:aK X G E a ma) (hb:aK X G E b mb):gW X G E (.Compare a [.Gt] [b] pos) (mB (m2 kE ma mb)):=qT G6 qX ha hb (mX _)
theorem YJ (ha:aK X G E a ma) (hb:aK X G E b mb):gW X G E (.Compare a [.GtE] [b] pos) (mB (m2 xV ma mb)):=qT S0 qX ha hb (mX _)
theorem pM (g:Good X G E k) (ha:aK X G E a ma) (hb:aK X G E b mb):gW X G E (.Compare a [.Eq] [b] pos) (mB (m2 cA ma mb)):=qT (JK g.room.units) JM ha hb (mX _)
theorem rH (g:Good X G E k) (ha:aK X G E a ma) (hb:aK X G E b mb):gW X G E (.Compare a [.NotEq] [b] pos) (mB (m2 dG ma mb)):=qT (JL g.room.units) JN ha hb (mX _)
variable{c:bo}{mc:M Dv}
theorem YK (ha:aK X G E a ma) (hb:aK X G E b mb) (hc:aK X G E c mc) (hm:lastMarks [.LtE,.LtE] [b,c]=false:=by with_unfolding_all rfl):aK X G E (.Compare a [.LtE,.LtE] [b,c] pos) (qU rF rF ma mb mc):=VQ G5 G5 qX qX ha hb hc hm
end
def rJ:Ty->Option Bool
 | .bl=>some true | .int=>some true | .exc _=>none|_=>some false
def nF:Ty->Option Bool
 | .bl=>some true | .exc _=>none|_=>some false
def hV:Ty->Option Bool
 | .tup=>some true | .exc _=>none|_=>some false
def nG:Ty->Option Bool
 | .lst=>some true | .exc _=>none|_=>some false
def pN:Ty->Option Bool
 | .tup=>some true | .lst=>some true | .exc _=>none|_=>some false
section
variable{K:ao}{cl:Nat->ah}
theorem YL:∀ty bb,rJ ty=some bb->di K (lR cl ty) (.type "int")=some bb:=by intro ty bb h;cases ty <;> first|(cases h;rfl)|cases h
theorem YM:∀ty bb,nF ty=some bb->di K (lR cl ty) (.type "bool")=some bb:=by intro ty bb h;cases ty <;> first|(cases h;rfl)|cases h
theorem YN:∀ty bb,hV ty=some bb->di K (lR cl ty) (.type "tuple")=some bb:=by intro ty bb h;cases ty <;> first|(cases h;rfl)|cases h
theorem YO:∀ty bb,nG ty=some bb->di K (lR cl ty) (.type "list")=some bb:=by intro ty bb h;cases ty <;> first|(cases h;rfl)|cases h
theorem YQ:∀ty bb,pN ty=some bb->PySem.W.kitAny K (lR cl ty) [.type "tuple",.type "list"]=some bb:=by intro ty bb h;cases ty <;> first|(cases h;rfl)|cases h
end
theorem YR:dy "int" = some (.type "int"):=by decide +kernel
theorem YS:dy "bool" = some (.type "bool"):=by decide +kernel
theorem YT:dy "ValueError" = some (.type "ValueError"):=by decide +kernel
def cY (nn:Option Bool) (tbl:List (Nat×Bool)):Ty->Option Bool
 | .exc c=>tbl.lookup c
 | .non=>nn
 |_=>none
section
variable{X:Cx}{G:Cfg}{E:XK}{a:bo}{ma:M Dv}{p q r pos:Pos}
theorem YU (hg:Gl X "isinstance") (hm:X.mg "isinstance" = none) (Em:Gl X "int") (Eb:X.mg "int" = none) (ha:aK X G E a ma) (he:ar [a,.Name "int" q] X.env=[(false,eval a X.env),(false,eval (.Name "int" q) X.env)]:=by rfl):
  aK X G E (.Call (.Name "isinstance" p) [a,.Name "int" q] [] pos) (m1 (bB rJ) ma):=rC hg hm ha (pG Em Eb YR) (.inl ⟨_,rfl⟩) rfl YL (λc bb h=>by cases h) he
theorem CO (hg:Gl X "isinstance") (hm:X.mg "isinstance" = none) (Em:Gl X "bool") (Eb:X.mg "bool" = none) (ha:aK X G E a ma) (he:ar [a,.Name "bool" q] X.env=[(false,eval a X.env),(false,eval (.Name "bool" q) X.env)]:=by rfl):
  aK X G E (.Call (.Name "isinstance" p) [a,.Name "bool" q] [] pos) (m1 (bB nF) ma):=rC hg hm ha (pG Em Eb YS) (.inl ⟨_,rfl⟩) rfl YM (λc bb h=>by cases h) he
theorem uB (hg:Gl X "isinstance") (hm:X.mg "isinstance" = none) (Em:Gl X "tuple") (Eb:X.mg "tuple" = none) (ha:aK X G E a ma) (he:ar [a,.Name "tuple" q] X.env=[(false,eval a X.env),(false,eval (.Name "tuple" q) X.env)]:=by rfl):
  aK X G E (.Call (.Name "isinstance" p) [a,.Name "tuple" q] [] pos) (m1 (bB hV) ma):=rC hg hm ha (pG Em Eb BR) (.inl ⟨_,rfl⟩) rfl YN (λc bb h=>by cases h) he
theorem LF (hg:Gl X "isinstance") (hm:X.mg "isinstance" = none) (Em:Gl X "list") (Eb:X.mg "list" = none) (ha:aK X G E a ma) (he:ar [a,.Name "list" q] X.env=[(false,eval a X.env),(false,eval (.Name "list" q) X.env)]:=by rfl):
  aK X G E (.Call (.Name "isinstance" p) [a,.Name "list" q] [] pos) (m1 (bB nG) ma):=rC hg hm ha (pG Em Eb xE) (.inl ⟨_,rfl⟩) rfl YO (λc bb h=>by cases h) he
theorem YV:∀us',Bd [.ty "tuple",.ty "list"] us'->us'=[.type "tuple",.type "list"]:=by
 intro us' h
 cases h with
 |cons r rr=>
  cases rr with
  |cons r' rr=>
   cases rr
   cases r;cases r'
   rfl
theorem YW {kt:Nat}{p':Pos}(hg:Gl X "isinstance") (hm:X.mg "isinstance" = none) (Em:Gl X "tuple") (Eb:X.mg "tuple" = none) (hg'':Gl X "list") (hm'':X.mg "list" = none) (ha:aK X G E a ma)
  (he:ar [a,.Tuple [.Name "tuple" q,.Name "list" r] kt p] X.env=[(false,eval a X.env),(false,eval (.Tuple [.Name "tuple" q,.Name "list" r] kt p) X.env)]:=by rfl):
  aK X G E (.Call (.Name "isinstance" p') [a,.Tuple [.Name "tuple" q,.Name "list" r] kt p] [] pos) (m1 (bB pN) ma):=
 WZ (cs:=[.ty "tuple",.ty "list"]) hg hm ha (iE (pG Em Eb BR) (iE (pG hg'' hm'' xE) jH)) (by decide) YV YQ (λc bb h=>by cases h) he
theorem kX {x:Str}{C:ah}{nn:Option Bool}{tbl:List (Nat×Bool)}(hg:Gl X "isinstance") (hm:X.mg "isinstance" = none) (Em:Gl X x) (Eb:X.mg x=some (.ref C)) (ha:aK X G E a ma)
  (hn:∀b,nn=some b->di G.K (.type "NoneType") (.ref C)=some b) (ht:∀c b,tbl.lookup c=some b->di G.K (.ref (G.cl c)) (.ref C)=some b/\Dg G.K (G.cl c)) (hd:(x==("__debug__" : Str))=false:=by decide)
  (he:ar [a,.Name x q] X.env=[(false,eval a X.env),(false,eval (.Name x q) X.env)]:=by rfl) (Ed:ar [.Name x q] X.env=[(false,eval (.Name x q) X.env)]:=by rfl):
  aK X G E (.Call (.Name "isinstance" p) [a,.Name x q] [] pos) (m1 (bB (cY nn tbl)) ma):=
 rC hg hm ha (GS (v:=.ref C) Em Eb rfl hd) (.inr ⟨_,rfl⟩) rfl (λty bb h=>by
  cases ty with
  |exc c=>exact(ht c bb h).1
  |non=>exact hn bb h
  |_=>cases h) (λc bb h=>(ht c bb h).2) he Ed
theorem YX {nn:Option Bool}{tbl:List (Nat×Bool)}(hg:Gl X "isinstance") (hm:X.mg "isinstance" = none) (Em:Gl X "ValueError") (Eb:X.mg "ValueError" = none) (ha:aK X G E a ma)
  (hn:∀b,nn=some b->di G.K (.type "NoneType") (.type "ValueError")=some b) (ht:∀c b,tbl.lookup c=some b->di G.K (.ref (G.cl c)) (.type "ValueError")=some b/\Dg G.K (G.cl c))
  (he:ar [a,.Name "ValueError" q] X.env=[(false,eval a X.env),(false,eval (.Name "ValueError" q) X.env)]:=by rfl):
  aK X G E (.Call (.Name "isinstance" p) [a,.Name "ValueError" q] [] pos) (m1 (bB (cY nn tbl)) ma):=
 rC hg hm ha (pG Em Eb YT) (.inl ⟨_,rfl⟩) rfl (λty bb h=>by
  cases ty with
  |exc c=>exact(ht c bb h).1
  |non=>exact hn bb h
  |_=>cases h) (λc bb h=>(ht c bb h).2) he
end
section
variable{P:bj}{w:cq}{K:ao}{mg:Str->Option af}{base:cx}{f:ah}{G:Cfg}{k:Nat}{N:Au}
theorem YY {fd:bq}{ps:Au}:Bg P w K mg base (bI P w base) k f fd ps (cR G (λ_ _=>.bad)):=⟨λvs H Q E ⟨_,_,_,_,_,o⟩=>o.elim,λ_ _ _ _ _ _ _ _ _ _ _ _ _ ⟨_,_,_,_,_,o⟩=>o.elim⟩
end
section
variable{X:Cx}{G:Cfg}{E:XK}{k:Nat}{q x:Str}{p pos lpos:Pos}{params:km}{body:bo}{scope os:gh}{c P fr:ah}{fdr:bq}{Nl oN:Au}{me:M Dv}{n ncl j:Nat}{mb:MS}{caps:As}
end
def gC:Dv->Bool
 | .scr=>false
 |_=>true
def aR (x y:Dv) (h:Hs):Rs Dv:=if gC x=true then gY [] x y h else .bad
def eW (x:Dv) (h:Hs):Rs Dv:=if gC x=true then iQ [] x h else .bad
def kY (x:Dv) (h:Hs):Rs Dv:=if gC x=true then rA [] x h else .bad
def cS (neg:Bool) (x y:Dv) (h:Hs):Rs Dv:=if gC y=true then lW [] neg x y h else .bad
theorem CP {scr:Aq}{x:Dv}{h:Hs}(e:gC x=true):fY [] x h=fY scr x h:=by cases x <;> first|rfl|cases e
section
variable{X:Cx}{G:Cfg}{E:XK}{k:Nat}{a b e:bo}{es:List bo}{ma mb:M Dv}{aO:M Aw }{p pos:Pos}
theorem YZ:fX G (BE G.K) aR:=by
 intro E μ h H x y vx vy Q s rx ry o;unfold aR at o
 split at o
 ·rename_i hx;refine JO E μ h H x y vx vy Q s rx ry ?_;have e:gY G.scr x y h=gY [] x y h:=by cases x <;> cases y <;> first|rfl|exact absurd hx (by decide)
  rw[e];exact o
 ·exact o.elim
theorem Y0:lM G (JS G.K) eW:=by
 intro E μ h H x vx Q s rx o;unfold eW at o
 split at o
 ·rename_i hx;refine JT E μ h H x vx Q s rx ?_;unfold iQ at o ⊢;rw[<-CP hx];exact o
 ·exact o.elim
theorem Y1:lM G (λx H Q=>∃p ys,x=.ref p/\(Bs G.K H p ys∨Bp G.K H p ys)/\∀l,H l=none->Q (.ref l) (aT H l (.lst ys))) kY:=by
 intro E μ h H x vx Q s rx o;unfold kY at o
 split at o
 ·rename_i hx;refine V9 E μ h H x vx Q s rx ?_;unfold rA at o ⊢;rw[<-CP hx];exact o
 ·exact o.elim
theorem CQ (neg:Bool):fX G (xR G.K neg) (cS neg):=by
 intro E μ h H x y vx vy Q s rx ry o;unfold cS at o
 split at o
 ·rename_i hx;refine X4 neg E μ h H x y vx vy Q s rx ry ?_;unfold lW at o ⊢;rw[<-CP hx];exact o
 ·exact o.elim
theorem dE (ha:aK X G E a ma) (hb:aK X G E b mb) (hs:BD b:=by intro _ _;rfl):aK X G E (.Subscript a b pos) (m2 aR ma mb):=λhK=>PE.imp (HU (by have:=HY (X:=X);rw[hK]at this;exact this) (ha hK) (hb hK) hs) λ_ _ _ t=>sZ YZ t
theorem rK (hg:Gl X "len") (hm:X.mg "len" = none) (ha:eF X G E (e::es) aO)
  (he:ar (e::es) X.env=(false,eval e X.env)::ar es X.env:=by rfl) (Cj:(backTo pos (ar es X.env)).any (·.1)=false:=by rfl):aK X G E (.Call (.Name "len" p) (e::es) [] pos) (aF (f1 eW) aO):=λhK=>
 pC (Bi.imp (HZ (X:=X)) λxs H Q ⟨v,h1,a,ys,h2,h3,h4⟩=>⟨a,ys,by rw[h1,h2],by rw[hK];exact h3,h4⟩) (pD Y0) hg hm PySem.boot_len ha (by decide) (by decide) he Cj hK
theorem LG (hg:Gl X "list") (hm:X.mg "list" = none) (ha:eF X G E (e::es) aO)
  (he:ar (e::es) X.env=(false,eval e X.env)::ar es X.env:=by rfl) (Cj:(backTo pos (ar es X.env)).any (·.1)=false:=by rfl):aK X G E (.Call (.Name "list" p) (e::es) [] pos) (aF (f1 kY) aO):=λhK=>
 JR (Bi.imp (UP (X:=X)) λxs H Q ⟨v,h1,a,ys,h2,h3,h4⟩=>⟨a,ys,by rw[h1,h2],by rw[hK];exact h3,h4⟩) (pD Y1) hg hm xE ha (by decide) (by decide) he Cj hK
end
theorem Y2 (h l:Hs) (k:Nat):getL (h++l) (h.length+k)=getL l k:=by unfold getL;rw[fv (by omega),show h.length+k - h.length=k by omega]
theorem Y3 (h l:Hs):getL (h++l) h.length=getL l 0:=Y2 h l 0
theorem Y4 (h l:Hs) (k:Nat) (o:Ob):(h++l).set (h.length+k) o=h++l.set k o:=by rw[List.set_append_right _ _ (by omega),show h.length+k - h.length=k by omega]
theorem Y5 (h l:Hs) (o:Ob):(h++l).set h.length o=h++l.set 0 o:=Y4 h l 0 o
section
variable{n:Nat}
end
section
variable{ma mb mc:M Dv}{aO:M Aw }{t u:M Bool}{f f':Dv->Dv->Hs->Rs Dv}{g:Dv->Hs->Rs Dv}{F:Av}
end
section
variable{mi mi':M Src}{st Dp:dQ}{test Ds:M Bool}{inner:MC}{me:M Dv}{cap:List (Option Nat)}
end
section
variable{mo me mi:M Dv}{ml:M Aw }{m u:MS}{t:M Bool}
end
def gH:Dv->Option Int
 | .int i=>some i
 |_=>none
theorem oH {G:Cfg}{μ:Nat->ah}{n:Nat}{H:Hp}:∀{xs:Aw}{vs:List V}{ns:Aq},RelDL G μ n H xs vs->bU gH xs=some ns->vs=ns.map V.int
 | [],_,ns,r,e=>by cases e;rw[RelDL]at r;subst r;rfl
 |x::xs,_,ns,r,e=>by
  rw[RelDL]at r;obtain⟨v,rr,rfl,r1,r2⟩:=r;unfold bU at e
  cases x with
  |int i=>
   dsimp only[gH]at e
   cases q:bU gH xs with
   |none=>rw[q]at e;cases e
   |some zs=>rw[q]at e;cases e;rw[Bc]at r1;subst r1;rw[oH r2 q];rfl
  |_=>cases e
section
variable{X:Cx}{G:Cfg}{E:XK}{e a b:bo}{es:List bo}{ma mb:M Dv}{aO:M Aw }{p pos:Pos}
theorem rM {ns:Aq}{its:List af}(rv:Bd (ns.map V.int) its) {i:Nat}{v:af}(e:its.toArray[i]?=some v):∃t,v=.int (ns.getD i 0) t:=by
 have hl:=rv.length;rw[ba]at hl;have e':its[i]?=some v:=by simpa using e
 have hi:i<its.length:=(ax.mp e').1;have hb:i<ns.length:=by omega
 obtain⟨u,e2,r⟩:=rv.get (i:=i) (x:=V.int ns[i]) (by simp[hb]);rw[e']at e2;cases e2;have hg:ns.getD i 0=ns[i]:=by simp[qp,hb]
 rw[hg];exact r
def pO:Dv->Dv->Hs->Rs Dv
 | .ref i,.int k,h=>match getL h i with
  |some xs=>if(jP k&&decide (k<9223372036854775808)&&decide (-9223372036854775808<=k)&&decide (xs.length*k.toNat<=1000000))=true then .ok (.ref h.length) (h++[.lst (bu k.toNat xs).flatten])else .bad
  |none=>.bad
 |_,_,_=>.bad
theorem RelDL.rep {μ:Nat->ah}{n:Nat}{H:Hp}{ds:Aw}{vs:List V}(r:RelDL G μ n H ds vs):∀k:Nat,RelDL G μ n H (bu k ds).flatten (bu k vs).flatten
 |0=>RelDL.nil
 |k+1=>by rw[iw,iw,kh,kh];exact r.append (RelDL.rep r k)
theorem Y6:fX G IF pO:=by
 intro E μ h H x y vx vy Q s rx ry o
 cases x with
 |ref i=>
  cases y with
  |int k=>
   dsimp only[pO]at o
   cases q:getL h i with
   |none=>rw[q]at o;exact o.elim
   |some xs=>
    rw[q]at o;dsimp only at o
    split at o
    ·rename_i hb;simp only[fe,decide_eq_true_eq]at hb;obtain⟨⟨⟨_,h1⟩,h2⟩,h3⟩:=hb;obtain⟨vs,e1,r1⟩:=s.ob i _ (cU q);obtain⟨_,rfl⟩:=rx;rw[Bc]at ry;subst ry;refine⟨_,k,vs,rfl,rfl,e1,by omega,by omega,by rw[r1.length];exact df h3 (by decide),λp hp=>?_⟩;exact oX s (r1.rep k.toNat) hp o
    ·exact o.elim
  |_=>exact o.elim
 |_=>cases y <;> exact o.elim
theorem Y7 (ha:aK X G E a ma) (hb:aK X G E b mb):aK X G E (.BinOp a .Mult b pos) (m2 pO ma mb):=oY VA Y6 ha hb
end
section
variable{X:Cx}{G:Cfg}{E:XK}{a:bo}{elts:List bo}{kk:Nat}{tp p pos:Pos}{ma:M Dv}{ms:M Aw }
end
def fS (g:Int->Int->Bool) (val:Nat->Int):Nat->Int
 |0=>val 0
 |k+1=>if g (val (k+1)) (fS g val k)then val (k+1)else fS g val k
theorem CS (g:Int->Int->Bool) (val:Nat->Int):∀k,val (argBest (λi j=>g (val i) (val j)) k)=fS g val k
 |0=>rfl
 |k+1=>by
  rw[argBest,fS,<-CS g val k]
  split <;> rfl
def cV (ns:Aq):Int:=fS (λa b=>decide (a>b)) (λi=>ns.getD i 0) (ns.length - 1)
def dU (ns:Aq):Int:=fS (λa b=>decide (a<b)) (λi=>ns.getD i 0) (ns.length - 1)
section
variable{X:Cx}{G:Cfg}{E:XK}{e a b:bo}{es:List bo}{ma mb:M Dv}{aO:M Aw }{p pos:Pos}
abbrev CT (f:Aq->Int):List V->Hp->VK->Prop:=λxs H Q=>∃(p:ah) (ns:Aq),xs=[.ref p]/\H p=some (.lst (ns.map V.int))/\0<ns.length/\Q (.int (f ns)) H
theorem Y8 (hc:X.calm=true):Bi X (.builtin "max") (CT cV):=by
 intro pins s σ H xs us Q I rv ⟨p,ns,e,hp,h0,q⟩;subst e;obtain⟨u,rfl,ru⟩:=iX rv;cases ru;obtain⟨its,rits,pl,hz⟩:=I.list (Bs.of hp);have hn:its.toArray.size=ns.length:=by have:=rits.length;simp at this ⊢;omega
 have lp:=I.hok.lt hp;have ne:p≠s.heap.objs.size:=az lp;refine call_max_walk (kq pl.isList ⟨_,_,_,_,_,_,_,rfl,uc (A:=X.A.in1) (show X.A.in1.handled=none from I.ok.hd hc) _ p ne its.toArray,⟨⟨_,bc _ rfl,rfl,rfl⟩,pl.isList.push _⟩,λb hb=>?_,by rw[hn];exact h0,CmpOf.ints_gt (λi=>ns.getD i 0) (λi v ev=>rM rits ev),λv h' tk ev k=>?_⟩)
 ·simp only[fg];simp at hb
  rcases hb with rfl|rfl
  ·exact jm _
  ·exact jb lp
 ·obtain⟨t',rfl⟩:=rM rits ev;refine⟨.int (cV ns),H,(xK (tk:=tk) I k:Inv X pins σ H { s with heap:=h',toks:=tk }),⟨t', ?_⟩,q⟩;rw[hn];rw[CS (λa b=>decide (a>b)) (λi=>ns.getD i 0)];rfl
theorem Y9 (hc:X.calm=true):Bi X (.builtin "min") (CT dU):=by
 intro pins s σ H xs us Q I rv ⟨p,ns,e,hp,h0,q⟩;subst e;obtain⟨u,rfl,ru⟩:=iX rv;cases ru;obtain⟨its,rits,pl,hz⟩:=I.list (Bs.of hp);have hn:its.toArray.size=ns.length:=by have:=rits.length;simp at this ⊢;omega
 have lp:=I.hok.lt hp;have ne:p≠s.heap.objs.size:=az lp;refine call_min_walk (kq pl.isList ⟨_,_,_,_,_,_,_,rfl,uc (A:=X.A.in1) (show X.A.in1.handled=none from I.ok.hd hc) _ p ne its.toArray,⟨⟨_,bc _ rfl,rfl,rfl⟩,pl.isList.push _⟩,λb hb=>?_,by rw[hn];exact h0,CmpOf.ints_lt (λi=>ns.getD i 0) (λi v ev=>rM rits ev),λv h' tk ev k=>?_⟩)
 ·simp only[fg];simp at hb
  rcases hb with rfl|rfl
  ·exact jm _
  ·exact jb lp
 ·obtain⟨t',rfl⟩:=rM rits ev;refine⟨.int (dU ns),H,(xK (tk:=tk) I k:Inv X pins σ H { s with heap:=h',toks:=tk }),⟨t', ?_⟩,q⟩;rw[hn];rw[CS (λa b=>decide (a<b)) (λi=>ns.getD i 0)];rfl
theorem CU:∀{vs:List af}{ns:Aq},Bd (ns.map V.int) vs->lg vs ns
 | [],[],_=>.nil
 | [],n::ns,h=>by cases h
 |v::vs,[],h=>by cases h
 |v::vs,n::ns,h=>by
  cases h with
  |cons h1 h2=>obtain⟨t,rfl⟩:=h1;exact .cons _ _ (CU h2)
def fJ (f:Aq->Int) (x:Dv) (h:Hs):Rs Dv:=match x with
 | .ref i=>match getL h i with
  |some xs=>match bU gH xs with
   |some ns=>if 0<ns.length then .ok (.int (f ns)) h else .bad
   |none=>.bad
  |none=>.bad
 |_=>.bad
theorem LH {f:Aq->Int}:lM G (λx H Q=>CT f [x] H Q) (fJ f):=by
 intro E μ h H x vx Q s r o
 cases x with
 |ref i=>
  dsimp only[fJ]at o
  cases q:getL h i with
  |none=>rw[q]at o;exact o.elim
  |some xs=>
   rw[q]at o;dsimp only at o
   cases q2:bU gH xs with
   |none=>rw[q2]at o;exact o.elim
   |some ns=>
    rw[q2]at o;dsimp only at o
    split at o
    ·rename_i h0;obtain⟨vs,e1,r1⟩:=s.ob i _ (cU q);obtain⟨_,rfl⟩:=r;exact⟨_,ns,rfl,by rw[e1,oH r1 q2],h0,o.val s rfl⟩
    ·exact o.elim
 |_=>exact o.elim
theorem ZA:dy "sorted" = some (.builtin "sorted"):=by decide +kernel
theorem CV (hc:X.calm=true) (hg:Gl X "max") (hm:X.mg "max" = none) (ha:eF X G E [e] aO)
  (he:ar [e] X.env=[(false,eval e X.env)]:=by rfl):aK X G E (.Call (.Name "max" p) [e] [] pos) (aF (f1 (fJ cV)) aO):=
 pC (Bi.imp (Y8 hc) λxs H Q ⟨v,h1,a,ns,h2,h3⟩=>⟨a,ns,by rw[h1,h2],h3⟩) (pD LH) hg hm BS ha (by decide) (by decide) he rfl
theorem CW (hc:X.calm=true) (hg:Gl X "min") (hm:X.mg "min" = none) (ha:eF X G E [e] aO)
  (he:ar [e] X.env=[(false,eval e X.env)]:=by rfl):aK X G E (.Call (.Name "min" p) [e] [] pos) (aF (f1 (fJ dU)) aO):=
 pC (Bi.imp (Y9 hc) λxs H Q ⟨v,h1,a,ns,h2,h3⟩=>⟨a,ns,by rw[h1,h2],h3⟩) (pD LH) hg hm JP ha (by decide) (by decide) he rfl
end
section
variable{X:Cx}{G:Cfg}{E:XK}{e o a b:bo}{es:List bo}{ma mb mo me:M Dv}{aO:M Aw }{p pos np apos cpos:Pos}{y:Str}
def CY (_ j:Int):Prop:=0<j/\j<18446744073709551616
theorem ZC:Cg X (binaryOp .FloorDiv) (rI CY λi j=>.int (i / j)):=wG λi j _ _ _ _ _ hc q=>by
 have h1:(0:Int)<j:=hc.1;have h2:j<18446744073709551616:=hc.2;refine floordiv_int (by omega) (by rw[Int.fdiv_eq_ediv_of_nonneg i (by omega)];exact q) (.inl (PyProof.noPylong_of_log2 ?_));have h3:j.natAbs≠0:=by omega
 have h4:j.natAbs<2 ^ 64:=by omega
 have:=(Nat.log2_lt h3).mpr h4;omega
def uC (_ j:Int):Bool:=decide (0<j)&&decide (j<18446744073709551616)
theorem ZD (i j:Int) (h:uC i j=true):CY i j:=by unfold uC at h;unfold CY;simpa only[fe,decide_eq_true_eq]using h
def uD:Dv->Dv->Hs->Rs Dv:=lO uC λi j=>.int (i / j)
theorem LI (ha:aK X G E a ma) (hb:aK X G E b mb):aK X G E (.BinOp a .FloorDiv b pos) (m2 uD ma mb):=oY ZC (xC ZD) ha hb
def LJ (K:ao):R2:=λx y H Q=>∃a b ys,x=.ref a/\y=.ref b/\Bp K H a []/\Bp K H b ys/\Q (.ref b) H
theorem op_catT0:Cg X (binaryOp .Add) (LJ X.K):=by
 intro pins s σ H x y v u Q I rx ry ⟨a,b,ys,e1,e2,ha,hb,q⟩;subst e1;subst e2;cases rx;cases ry;obtain⟨its,r1,p1,_⟩:=I.tuple ha;obtain⟨Cm,r2,p2,_⟩:=I.tuple hb;have hn:its=[]:=r1.nil_iff.mpr rfl;subst hn;obtain⟨⟨cls,dd,data,sl⟩,ho,hc,n,hd⟩:=p1;obtain⟨⟨cls2,dd2,data2,sl2⟩,ho2,hc2,n2,hd2⟩:=p2;simp only at hc hd hc2 hd2;subst hc hd hc2 hd2;exact concat_meets ⟨_,ho,rfl⟩ ⟨_,ho2,rfl⟩ yj Ag sv sd (rj _ _)
  (tuple_addW0 a b _ _ n n2 dd dd2 sl sl2 rfl) ⟨ho,ho2,⟨.ref b,H,I,rfl,q⟩⟩
def bF (x y:Dv) (h:Hs):Rs Dv:=match x,y with
 | .tup [],.tup ys=>.ok (.tup ys) h
 |x,y=>jZ x y h
theorem ZE:fX G (λx y H Q=>LJ G.K x y H Q∨BP G.K x y H Q) bF:=by
 intro E μ h H x y vx vy Q s rx ry o;unfold bF at o
 split at o
 ·rename_i ys;obtain⟨a,vs,rfl,ea,ra⟩:=rx;obtain⟨b,ws,rfl,eb,rb⟩:=id ry;have:vs=[]:=by rw[RelDL]at ra;exact ra
  subst this;exact .inl ⟨a,b,ws,rfl,rfl,Bp.of ea,Bp.of eb,o.val s ry⟩
 ·exact .inr (V0 E μ h H _ _ vx vy Q s rx ry o)
theorem gQ (ha:aK X G E a ma) (hb:aK X G E b mb):aK X G E (.BinOp a .Add b pos) (m2 bF ma mb):=λhK=>oY (op_catT0.or VZ) (by rw[hK];exact ZE) ha hb hK
def fO (k:Int):Aq->Option Nat
 | []=>none
 |n::ns=>if n=k then some 0 else(fO k ns).map (·+1)
theorem uE {k:Int}:∀{ns:Aq}{j:Nat},fO k ns=some j->ns[j]?=some k/\∀m,m<j->ns[m]?≠some k
 | [],j,h=>by cases h
 |n::ns,j,h=>by
  unfold fO at h
  split at h
  ·rename_i e;cases h;exact⟨by simp[e],λm hm=>by omega⟩
  ·rename_i e
   cases q:fO k ns with
   |none=>rw[q]at h;cases h
   |some i=>
    rw[q]at h;cases h;obtain⟨h1,h2⟩:=uE q;refine⟨by simpa using h1,λm hm=>?_⟩
    cases m with
    |zero=>simpa using e
    |succ m=>
     have Eb:m<i:=by simpa using hm
     simpa using h2 m Eb
theorem CZ:∀{vs:List af}{ns:Aq}{i:Nat}{n:Int},lg vs ns->ns[i]?=some n->∃t,vs[i]?=some (.int n t)
 |_,_,0,n,.cons m t h,e=>by simp at e;subst e;exact⟨t,rfl⟩
 |_,_,i+1,n,.cons m t h,e=>by simpa using CZ h (by simpa using e)
 |_,_,i,n,.nil,e=>by simp at e
theorem ZF (a b:af):argsOk "tuple.index" ⟨[a,b],[]⟩:=by unfold argsOk;kernel_rfl
theorem ZG {prog:bj}{w:cq}{A:cm}{E:af->ag->Prop}{s:ag}{t:ah}{items:Array af}{ns:Aq}{k:Int}{u:Tok}{j:Nat}{P:Fin->ag->Prop}(ht:zg s.heap t items) (hi:lg items.toList ns)
  (hj:ns[j]?=some k) (hno:∀m,m<j->ns[m]?≠some k) (h:P (.done (.ret (.int j s.toks))) { s with toks:=s.toks+1 }):wpAny (model prog w) A (nq.«tuple.index» ⟨[.ref t,.int k u],[]⟩) P E s:=by
 show wpAny _ _ (vk (.ref t) >>= _) _ _ s;refine ae (Ah ht ?_);refine ae (ai ?_);refine ae (ai ?_);show wpAny _ _ (forIn [:min items.size items.size] (none,()) _ >>= _) _ _ s;rw[zl,Std.Legacy.Range.forIn_eq_forIn_range'];have Cf:items.size=ns.length:=by have:=hi.length;simpa using this
 have hjn:j<ns.length:=(ax.mp hj).1;refine ae (qi _ (λrest b s'=>b=(none,())/\s'=s/\∃i,i<=j/\rest=List.range' i (items.size - i) 1) _ ?_ ?_ _ _ ⟨rfl,rfl,0,ig _, ?_⟩)
 ·rintro x rest b s' ⟨rfl,rfl,i,Cu,hr⟩
  have hlt:i<items.size:=by omega
  obtain⟨z,hz⟩:∃z,items.size - i=z+1:=⟨items.size - i - 1,by omega⟩
  rw[hz,List.range'_succ]at hr;injection hr with hx Ej;subst hx;obtain⟨n,hn⟩:∃n,ns[x]?=some n:=⟨ns[x]'(by omega),by simp[show x<ns.length by omega]⟩
  obtain⟨tt,ht2⟩:=CZ hi hn;have ht3:items[x]?=some (.int n tt):=by simpa using ht2
  rw[ht3];dsimp only;refine ae (yf ?_)
  by_cases hxj:x=j
  ·subst hxj;have hnk:n=k:=by rw[hj]at hn;cases hn;rfl
   subst hnk;rw[if_pos (by simp)];refine ae (ae (wpAny_mkInt ?_));exact ai (ai (ai h))
  ·have hne:n≠k:=λe=>hno x (by omega) (by rw[hn,e]);rw[if_neg (by simpa using hne)];exact ai ⟨rfl,rfl,x+1,by omega,by rw[Ej];congr 1;omega⟩
 ·rintro b s' ⟨rfl,rfl,i,Cu,hr⟩
  exfalso
  have hlt:i<items.size:=by omega
  have:=congrArg qc hr;simp at this;omega
 ·simp[Std.Legacy.Range.size]
theorem ZH:wK X "tuple.index" (λx xs H Q=>∃(a:ah) (ns:Aq) (k:Int) (j:Nat),x=.ref a/\xs=[.int k]/\H a=some (.tup (ns.map V.int))/\fO k ns=some j/\Q (.int j) H):=by intro pins s σ H x xs v us Q I rx rv ⟨a,ns,k,j,e1,e2,ha,hj,q⟩;subst e1;subst e2;cases rx;obtain⟨u,rfl,ru⟩:=iX rv;obtain⟨t,rfl⟩:=ru;obtain⟨its,rits,p1,_⟩:=I.tuple (Bp.of ha);obtain⟨h1,h2⟩:=uE hj;refine gy xr p1.typeIs PySem.F.entry_tuple_index (ZG p1 (CU rits) h1 h2 ⟨_,rfl, ?_⟩) (ZF _ _);exact⟨.int j,H,I.tok _,⟨_,rfl⟩,q⟩
theorem ZI {id:String}{name:Str}{r:V->List V->Hp->VK->Prop}{to:TE}{t:TA}(slot:Slot "tuple" name id) (hty:typeOf (.builtin id)=pure (.type "method_descriptor")) (hm:wK X id r) (ho:PE X o to) (ha:PA X [e] t)
  (hbase:attributeBase o name X.env (eval o X.env)=eval o X.env)
  (hfew:((backTo cpos (ar [e] X.env)).all (λx=>!x.1)&&(backToKw cpos (keywordEach [] X.env)).all (λx=>x.1.isSome)
   && decide ([e].length+([]:List Keyword).length+(if([]:List Keyword).isEmpty then 0 else 1)<30))=true)
  (hline:(apos.endLine==cpos.line)=true) (hs:ar [e] X.env=[(false,eval e X.env)]):
  PE X (.Call (.Attribute o name apos) [e] [] cpos) (λσ H Q=>to σ H λx H1=>(∃a xs,x=.ref a/\H1 a=some (.tup xs))/\t σ H1 λxs H2=>r x xs H2 Q):=by
 intro pins s σ H Q I h;refine wpAny_Call_method_late hbase hfew hline rfl (bD (ho pins s σ H _ I h) λv s1 ⟨x,H1,I1,r1,⟨a,ys,ex,ea⟩,q1⟩=>?_);subst ex;cases r1;obtain⟨_,its,rits,ob,g1,g2,g3,n,g4⟩:=(show Bh X.prog X.w H1 s1.heap a (.tup ys) from I1.hok a _ ea)
 refine⟨"tuple",id,PySem.F.plainAttrs_tuple,slot,hty,⟨ob,g1,g2⟩,λb eb=>?_, ?_⟩
 ·cases eb;exact⟨ob,g1,g3⟩
 ·have hA:=ha cpos pins s1 σ H1 _ I1 q1;rw[hs]at hA ⊢;exact Calls.callWith_builtin (by rfl) (Calls.evalArgs_plain (bD hA λus s2 ⟨vs,H2,I2,r2,q2⟩=>hm pins s2 σ H2 (.ref a) vs (.ref a) us Q I2 rfl r2 q2))
def DC (x i:Dv) (h:Hs):Rs Dv:=match x,i with
 | .tup xs,.int k=>match bU gH xs with
  |some ns=>match fO k ns with
   |some j=>.ok (.int j) h
   |none=>.bad
  |none=>.bad
 |_,_=>.bad
def LK (x:Dv):Bool:=match x with
 | .tup _=>true
 |_=>false
def eQ (mo me:M Dv):M Dv:=λρ h=>(mo ρ h).bind λx h1=>if LK x=true then(me ρ h1).bind λd h2=>DC x d h2 else .bad
theorem rN (ho:aK X G E (.Name y np) mo) (he:aK X G E e me) (hs:ar [e] X.env=[(false,eval e X.env)]:=by rfl) (hl:(apos.endLine==cpos.line)=true:=by rfl):aK X G E (.Call (.Attribute (.Name y np) "index" apos) [e] [] cpos) (eQ mo me):=λhK=>
 PE.imp (ZI xr PySem.F.type_tuple_index ZH (ho hK) (iE (he hK) jH hs) rfl (by rw[hs];rfl) hl hs) λσ H Q ⟨μ,ρ,h,rs,s,oo⟩=>eG rs s oo λμ1 x h1 vx H1 x1 Bo s1 r1 o1=>by
  split at o1
  ·rename_i hl
   cases x with
   |tup xs=>
    obtain⟨a,vs,rfl,ea,ra⟩:=id r1;refine⟨⟨a,vs,rfl,ea⟩,eG Bo s1 o1 λμ2 d h2 vd H2 x2 Cw s2 r2 o2=>?_⟩
    cases d with
    |int k=>
     dsimp only[DC]at o2
     cases q:bU gH xs with
     |none=>rw[q]at o2;exact o2.elim
     |some ns=>
      rw[q]at o2;dsimp only at o2
      cases q2:fO k ns with
      |none=>rw[q2]at o2;exact o2.elim
      |some j=>rw[q2]at o2;obtain⟨a',Cc,e',ea',ra'⟩:=Bc.mono x2 _ _ r1;cases e';rw[Bc]at r2;subst r2;exact⟨_,ns,k,j,rfl,rfl,by rw[ea',oH ra' q],q2,o2.val s2 rfl⟩
    |_=>exact o2.elim
   |_=>cases hl
  ·exact o1.elim
end
section
variable{X:Cx}{G:Cfg}{E:XK}{k:Nat}{a b:bo}{ma mb mo:M Dv}{pos:Pos}
theorem ZJ (g:Good X G E k) (ha:aK X G E a ma) (hb:aK X G E b mb) (hm:lastMarks [.In] [b]=false:=by with_unfolding_all rfl):aK X G E (.Compare a [.In] [b] pos) (m2 (cS false) ma mb):=λhK=>qS (X3 g.room.units) (by rw[hK];exact CQ false) ha hb hm hK
theorem LL (g:Good X G E k) (ha:aK X G E a ma) (hb:aK X G E b mb) (hm:lastMarks [.NotIn] [b]=false:=by with_unfolding_all rfl):aK X G E (.Compare a [.NotIn] [b] pos) (m2 (cS true) ma mb):=λhK=>qS (K4 g.room.units) (by rw[hK];exact CQ true) ha hb hm hK
theorem rO (g:Good X G E k) (ha:aK X G E a ma) (hb:aK X G E b mb) (hm:lastMarks [.NotIn] [b]=false:=by with_unfolding_all rfl):gW X G E (.Compare a [.NotIn] [b] pos) (mB (m2 (cS true) ma mb)):=λhK=>qT (K4 g.room.units) (by rw[hK];exact CQ true) ha hb hm hK
end
theorem lY {H:Hs}{n:Nat}{xs ys:Aw}(e:getL H n=some xs):getL (H.set n (.lst ys)) n=some ys:=by have h:=(ax.mp (cU e)).1;unfold getL;rw[dg h]
theorem uF {H:Hs}{n j:Nat}{o:Ob}(h:n≠j):getL (H.set n o) j=getL H j:=by unfold getL;rw[dw h]
theorem lZ {H:Hs}{n:Nat}{xs:Aw}(e:getL H n=some xs):n<H.length:=(ax.mp (cU e)).1
theorem iK {H l:Hs}{n:Nat}{xs:Aw}(e:getL H n=some xs):getL (H++l) n=some xs:=by unfold getL;rw[ff (lZ e),cU e]
structure Fr (S:As) (H H':Hs):Prop where
 le:H.length<=H'.length
 at_:∀j,j<H.length->j∉S->H'[j]?=H[j]?
theorem Fr.refl {S:As}{H:Hs}:Fr S H H:=⟨aj _,λ_ _ _=>rfl⟩
theorem Fr.trans {S T:As}{H H1 H2:Hs}(a:Fr S H H1) (b:Fr T H1 H2) (h:∀j∈T,j∈S∨H.length<=j):Fr S H H2:=⟨df a.le b.le,λj hj hS=>(b.at_ j (av hj a.le) λz=>(h j z).elim hS λw=>absurd (av hj w) (ij _)).trans (a.at_ j hj hS)⟩
theorem Fr.app {S:As}{H l:Hs}:Fr S H (H++l):=⟨by simp,λj hj _=>ff hj⟩
theorem Fr.set {H:Hs}{n:Nat}{o:Ob}:Fr [n] H (H.set n o):=⟨by simp,λj hj hS=>dw (by simpa using dh (by simpa using hS))⟩
theorem Fr.getL {S:As}{H H':Hs}{j:Nat}{xs:Aw}(a:Fr S H H') (e:getL H j=some xs) (h:j∉S):getL H' j=some xs:=by unfold L2.Mr.getL at e ⊢;rw[a.at_ j (lZ e) h];exact e
theorem Fr.mono {S T:As}{H H':Hs}(a:Fr S H H') (h:∀j∈S,j∈T):Fr T H H':=⟨a.le,λj hj hT=>a.at_ j hj λz=>hT (h j z)⟩
theorem bP {m u:MS}{ρ ρ1:Ev}{h h1:Hs}(e:m ρ h=.nx ρ1 h1):aH m u ρ h=u ρ1 h1:=by unfold aH;rw[e]
theorem LM {mi:M Src}{st:dQ}{b:MS}{ρ:Ev}{h h1:Hs}{src:Src}(e:mi ρ h=.ok src h1):cX mi st b ρ h=iU src st b src.n 0 ρ h1:=by unfold cX;rw[e];rfl
theorem DD {c:M Bool}{t u:MS}{ρ:Ev}{h h1:Hs}(e:c ρ h=.ok true h1):bX c t u ρ h=t ρ h1:=by unfold bX;rw[e];rfl
theorem rP {c:M Bool}{t u:MS}{ρ:Ev}{h h1:Hs}(e:c ρ h=.ok false h1):bX c t u ρ h=u ρ h1:=by unfold bX;rw[e];rfl
theorem LN {src:Src}{sg:dQ}{b:MS}{f k:Nat}{ρ ρ1 ρ2:Ev}{H H2:Hs}{d:Dv}(hg:src.get k H=some d) (hs:sg d ρ=some ρ1) (hb:b ρ1 H=.nx ρ2 H2):iU src sg b (f+1) k ρ H=iU src sg b f (k+1) ρ2 H2:=by simp[iU,hg,hs,hb]
theorem LO {src:Src}{sg:dQ}{b:MS}(P:Nat->Ev->Hs->Prop)
  (step:∀k ρ H,k<src.n->P k ρ H->∃d ρ1 ρ2 H2,src.get k H=some d/\sg d ρ=some ρ1/\b ρ1 H=.nx ρ2 H2/\P (k+1) ρ2 H2)
  (fin:∀ρ H,P src.n ρ H->src.fin H=true):∀(f k:Nat) (ρ:Ev) (H:Hs),f+k=src.n->P k ρ H->∃ρ' H',iU src sg b f k ρ H=.nx ρ' H'/\P src.n ρ' H'
 |0,k,ρ,H,h,p=>by
  have hk:k=src.n:=by omega
  subst hk;exact⟨ρ,H,by simp[iU,fin ρ H p],p⟩
 |f+1,k,ρ,H,h,p=>by obtain⟨d,ρ1,ρ2,H2,e1,e2,e3,p2⟩:=step k ρ H (by omega) p;rw[LN e1 e2 e3];exact LO P step fin f (k+1) ρ2 H2 (by omega) p2
theorem mD {mi:M Src}{src:Src}{sg:dQ}{b:MS}{ρ:Ev}{H H1:Hs}(hi:mi ρ H=.ok src H1) (P:Nat->Ev->Hs->Prop)
  (step:∀k ρ H,k<src.n->P k ρ H->∃d ρ1 ρ2 H2,src.get k H=some d/\sg d ρ=some ρ1/\b ρ1 H=.nx ρ2 H2/\P (k+1) ρ2 H2)
  (fin:∀ρ H,P src.n ρ H->src.fin H=true) (p:P 0 ρ H1):∃ρ' H',cX mi sg b ρ H=.nx ρ' H'/\P src.n ρ' H':=by
 rw[LM hi];exact LO P step fin src.n 0 ρ H1 (by omega) p
theorem xW {src:Src}{sg:dQ}{t:M Bool}{m:MC}(P:Nat->Ev->Hs->Aw->Prop)
  (step:∀k ρ H acc,k<src.n->P k ρ H acc->∃d ρ1,src.get k H=some d/\sg d ρ=some ρ1 /\
   ((∃H2,t ρ1 H=.ok false H2/\P (k+1) ρ1 H2 acc)∨∃H2 ρ3 acc3 H3,t ρ1 H=.ok true H2/\m ρ1 H2 acc=.ok (ρ3,acc3) H3/\P (k+1) ρ3 H3 acc3))
  (fin:∀ρ H acc,P src.n ρ H acc->src.fin H=true):∀(f k:Nat) (ρ:Ev) (H:Hs) (acc:Aw),f+k=src.n->P k ρ H acc->∃ρ' H' C',eV src sg t m f k ρ H acc=.ok (ρ',C') H'/\P src.n ρ' H' C'
 |0,k,ρ,H,acc,h,p=>by
  have hk:k=src.n:=by omega
  subst hk;exact⟨ρ,H,acc,by simp[eV,fin ρ H acc p],p⟩
 |f+1,k,ρ,H,acc,h,p=>by
  obtain⟨d,ρ1,e1,e2,e3⟩:=step k ρ H acc (by omega) p
  rcases e3 with⟨H2,e3,p2⟩|⟨H2,ρ3,acc3,H3,e3,e4,p2⟩
  ·obtain⟨ρ',H',C',e5,p5⟩:=xW P step fin f (k+1) ρ1 H2 acc (by omega) p2;exact⟨ρ',H',C',by simp[eV,e1,e2,e3,e5],p5⟩
  ·obtain⟨ρ',H',C',e5,p5⟩:=xW P step fin f (k+1) ρ3 H3 acc3 (by omega) p2;exact⟨ρ',H',C',by simp[eV,e1,e2,e3,e4,e5],p5⟩
theorem uG (k:Nat) (H:Hs):∀ns:Aq,bU (bQ (k+1) H) (ns.map Dv.int)=some (ns.map Dt.int)
 | []=>rfl
 |n::ns=>by rw[da,bU,uG k H ns];rfl
def aG (p:Int×Int):Dv:=.tup [.int p.1,.int p.2]
def kF (p:Int×Int):Dt:=.tup [.int p.1,.int p.2]
theorem LP (k:Nat) (H:Hs) (p:Int×Int):bQ (k+2) H (aG p)=some (kF p):=rfl
theorem DE (k:Nat) (H:Hs):∀ps:y',bU (bQ (k+2) H) (ps.map aG)=some (ps.map kF)
 | []=>rfl
 |p::ps=>by rw[da,bU,DE k H ps,LP];rfl
theorem LQ (p q:Int×Int):bK (kF p) (kF q)=decide (p=q):=by obtain⟨a,b⟩:=p;obtain⟨c,d⟩:=q;simp only[kF,bK,fI,Bool.and_true];rw[dm];simp
theorem nI (neg:Bool) (H:Hs) (p:Int×Int) (ps:y'):cS neg (aG p) (.tup (ps.map aG)) H=.ok (.bl (if neg then !decide (p∈ps)else decide (p∈ps))) H:=by
 have e:(ps.map kF).any (λt=>bK t (kF p))=decide (p∈ps):=by
  rw[dm];simp only[wd,pf,xh,LQ,decide_eq_true_eq];constructor
  ·rintro ⟨q,hq,rfl⟩;exact hq
  ·intro h;exact⟨p,h,rfl⟩
 have h1:bU (bQ cH H) (ps.map aG)=some (ps.map kF):=DE 28 H ps;have h2:bQ cH H (aG p)=some (kF p):=LP 28 H p;show lW [] neg (aG p) (.tup (ps.map aG)) H=_;simp only[lW,fY,h1,h2,e]
theorem DF (neg:Bool) (H:Hs) (x:Int) (ns:Aq):cS neg (.int x) (.tup (ns.map Dv.int)) H=.ok (.bl (if neg then !decide (x∈ns)else decide (x∈ns))) H:=by
 have e:(ns.map Dt.int).any (λt=>bK t (.int x))=decide (x∈ns):=by
  rw[dm];simp only[wd,pf,xh,bK,decide_eq_true_eq,beq_iff_eq];constructor
  ·rintro ⟨q,hq,rfl⟩;exact hq
  ·intro h;exact⟨x,h,rfl⟩
 have h1:bU (bQ cH H) (ns.map Dv.int)=some (ns.map Dt.int):=uG 29 H ns;have h2:bQ cH H (.int x)=some (.int x):=rfl;show lW [] neg (.int x) (.tup (ns.map Dv.int)) H=_;simp only[lW,fY,h1,h2,e]
section
variable{X:Cx}{G:Cfg}{E:XK}{elt tg iter De Bm:bo}{ifs By:List bo}{sc:gh}{ps px pos:Pos}{N:Au}{cap:List (Option Nat)}{mi mi':M Src}{st Dp:dQ}{test Ds:M Bool}{me:M Dv}{i:Nat}{x:Str}
theorem ZK (hN:X.N.Nodup) (hi1:X.N[i]?=some x) (hc:X.calm=true) (C:Bu X sc N cap) (hi:jJ X G E tg iter mi) (hg:∀s H ex,jR (bZ X sc N s H ex) G tg st) (Ei:∀s H ex,pF (bZ X sc N s H ex) G ifs test)
  (hi':∀s H ex,jJ (bZ X sc N s H ex) G E0 De Bm mi') (Em:∀s H ex,jR (bZ X sc N s H ex) G De Dp) (htt':∀s H ex,pF (bZ X sc N s H ex) G By Ds) (hel:∀s H ex,aK (bZ X sc N s H ex) G E0 elt me)
  (hx:X.env.scope.names.lookup x=some .local:=by rfl) (hsw:swapsWith (.ListComp elt [⟨tg,iter,ifs,0⟩,⟨De,Bm,By,0⟩] sc ps) (some (.Name x px)) pos.line X.env=pure true:=by rfl)
  (hs:∀x,foldedSetIterable iter X.env x=pure x:=by intro _;rfl) (hs':∀s H ex x,foldedSetIterable Bm (bZ X sc N s H ex).env x=pure x:=by intro _ _ _ _;rfl):
  jI X G E (.Assign [.Name x px] (.ListComp elt [⟨tg,iter,ifs,0⟩,⟨De,Bm,By,0⟩] sc ps) pos) (aJ (aZ (bC mi cap st test (iH mi' Dp Ds (aY me)))) (aD i)):=λhK=>
 PS.imp (VL hsw hN hi1 hx hc C rfl (inner:=λD env=>qR Bm (.ListComp elt [⟨tg,iter,ifs,0⟩,⟨De,Bm,By,0⟩] sc ps) 1 D env) (λit D env=>IU elt tg iter De Bm ifs By sc ps (.ref it) D env) (hi hK) (λs H ex=>hg s H ex hK) (λs H ex=>Ei s H ex hK)
  (λs H ex D=>Eu.imp (IY (X:=bZ X sc N s H ex) (D:=D) (gens:=[⟨tg,iter,ifs,0⟩,⟨De,Bm,By,0⟩]) (d:=1) rfl hc rfl (λit=>IV elt tg iter De Bm ifs By sc ps (.ref it) D _) (hi' s H ex hK) (Em s H ex hK) (htt' s H ex hK) (Eu.imp (wV (hel s H ex hK)) λ_ _ _ _ t=>BY t) (hs' s H ex)) λ_ _ _ _ t=>J2 t) hs) λD σ H ⟨μ,ρ,h,rs,s,o⟩=>
  BZ (J3 (oA rs s o λμ1 d h1 v H1 x1 Bo s1 r1 o1=>o1 μ1 H1 _ Ext.refl s1 (Bo.set i r1)))
end
end L2.Mr
namespace SoM
open PySem PySem.W PyProof.Rows
variable{n:Nat}{f:Nat->Nat}{s:ag}
def nJ (n:Nat) (f:Nat->Nat) (i j:Nat) (C:Bool->ag->Prop) (s:ag):Prop:=i<n/\j<n/\C (decide (f i<f j)) s
def F (f:Nat->Nat) (p:Array Nat) (k:Nat):Nat:=f (p.getD k 0)
def Ent (n:Nat) (p:Array Nat):Prop:=p.size=n/\p.toList.Perm (bf n)
theorem Ent.lt {p:Array Nat}(e:Ent n p) (hn:0<n) (k:Nat):p.getD k 0<n:=by
 by_cases h:k<p.size
 ·have:p.getD k 0=p[k]:=by simp[lb,h]
  rw[this];have hm:p[k]∈p.toList:=by simp
  exact bx.mp (e.2.mem_iff.mp hm)
 ·have:p.getD k 0=0:=by simp[lb,h]
  omega
theorem uH {p q:Array Nat}{i j:Nat}(h:p[i]?=q[j]?):F f p i=F f q j:=by unfold F;simp only[Array.getD_eq_getD_getElem?,h]
theorem Ent.mirror {p:Array Nat}(e:Ent n p) (i j d:Nat):Ent n (mirror p i j d):=⟨(mirror_size ..).trans e.1,((xu.mp (mirror_perm p i j d))).trans e.2⟩
theorem Ent.bubble {p:Array Nat}(e:Ent n p) (k d:Nat):Ent n (bubble p k d):=⟨(bubble_size ..).trans e.1,((xu.mp (bubble_perm p k d))).trans e.2⟩
theorem Ent.rev {p:Array Nat}(e:Ent n p) (i j:Nat):Ent n (kas_rev p i j):=e.mirror _ _ _
theorem uI {p:Array Nat}{i j:Nat}(hj:j<=p.size) (k:Nat):F f (kas_rev p i j) k=if i<=k/\k<j then F f p (i+j - 1 - k)else F f p k:=by
 have e:=getElem?_mirror_all (i:=i) hj k
 by_cases h:i<=k/\k<j
 ·rw[if_pos h]at e ⊢;exact uH e
 ·rw[if_neg h]at e ⊢;exact uH e
theorem LR {p:Array Nat}{k d:Nat}(hs:k<p.size) (hd:d<=k) (i:Nat):F f (bubble p k d) i=if i=k - d then F f p k else if k - d<i/\i<=k then F f p (i - 1)else F f p i:=by
 have e:=getElem?_bubble hs d hd i
 by_cases h1:i=k - d
 ·rw[if_pos h1]at e ⊢;exact uH e
 ·rw[if_neg h1]at e ⊢
  by_cases h2:k - d<i/\i<=k
  ·rw[if_pos h2]at e ⊢;exact uH e
  ·rw[if_neg h2]at e ⊢;exact uH e
def Inc (f:Nat->Nat) (p:Array Nat) (m:Nat):Prop:=∀i j,i<=j->j<m->F f p i<=F f p j
def Dec (f:Nat->Nat) (p:Array Nat) (m:Nat):Prop:=∀i j,i<=j->j<m->F f p j<=F f p i
theorem Inc.succ {p:Array Nat}{m:Nat}(h:Inc f p m) (hm:1<=m) (h1:F f p (m - 1)<=F f p m):Inc f p (m+1):=by
 intro i j Cu hj
 by_cases q:j=m
 ·subst q
  by_cases r:i=j
  ·subst r;exact aj _
  ·exact df (h i (j - 1) (by omega) (by omega)) h1
 ·exact h i j Cu (by omega)
theorem Dec.succ {p:Array Nat}{m:Nat}(h:Dec f p m) (hm:1<=m) (h1:F f p m<=F f p (m - 1)):Dec f p (m+1):=by
 intro i j Cu hj
 by_cases q:j=m
 ·subst q
  by_cases r:i=j
  ·subst r;exact aj _
  ·exact df h1 (h i (j - 1) (by omega) (by omega))
 ·exact h i j Cu (by omega)
theorem DG {p:Array Nat}(e:Ent n p) (hn:0<n) {Q:Nat->ag->Prop}:∀(fu m:Nat) (s:ag),1<=m->Inc f p m->
  (∀m',m<=m'->m'<=m+fu->Inc f p m'->(m'=m+fu∨F f p m'<F f p (m' - 1))->Q m' s)->(kas_asc p fu m).kasWp (nJ n f) Q s
 |0,m,s,h1,hi,h=>h m (aj _) (aj _) hi (.inl rfl)
 |fu+1,m,s,h1,hi,h=>by
  refine⟨e.lt hn _,e.lt hn _, ?_⟩
  by_cases c:f (p.getD m 0)<f (p.getD (m - 1) 0)
  ·rw[decide_eq_true c];exact h m (aj _) (by omega) hi (.inr c)
  ·rw[decide_eq_false c];refine DG e hn fu (m+1) s (by omega) (hi.succ h1 (Nat.le_of_not_lt c)) λm' a b c d=>h m' (by omega) (by omega) c ?_
   rcases d with d|d
   ·exact .inl (by omega)
   ·exact .inr d
theorem xX (hn:0<n) {Q:Array Nat×Nat×Nat->ag->Prop}:∀(fu m q:Nat) (p:Array Nat) (s:ag),Ent n p->q+1<=m->m+fu<=n->Dec f p m->(∀k,m - 1 - q<=k->k<m->F f p k=F f p (m - 1))->
  (∀p' m' q',Ent n p'->q'+1<=m'->m<=m'->m'<=m+fu->Dec f p' m'->(∀k,m' - 1 - q'<=k->k<m'->F f p' k=F f p' (m' - 1))->Q (p',m',q') s)->(kas_desc fu p m q).kasWp (nJ n f) Q s
 |0,m,q,p,s,e,h1,h2,hd,he,h=>h p m q e h1 (aj _) (aj _) hd he
 |fu+1,m,q,p,s,e,h1,h2,hd,he,h=>by
  refine⟨e.lt hn _,e.lt hn _, ?_⟩
  by_cases c:f (p.getD m 0)<f (p.getD (m - 1) 0)
  ·have c':F f p m<F f p (m - 1):=c;rw[decide_eq_true c];show KasT.kasWp _ (if true=true then(if q>0 then _ else _)else _) _ _;rw[if_pos rfl]
   by_cases hq:q>0
   ·rw[if_pos hq];have Cf:m<=p.size:=by rw[e.1];omega
    have hF:∀k,F f (kas_rev p (m - (q+1)) m) k=F f p k:=by
     intro k;rw[uI Cf]
     split
     ·rw[he _ (by omega) (by omega),he k (by omega) (by omega)]
     ·rfl
    have Cy:Dec f (kas_rev p (m - (q+1)) m) (m+1):=by intro i j Cu hj;rw[hF,hF];exact hd.succ (by omega) (iq c') i j Cu hj
    refine xX hn fu (m+1) 0 _ s (e.rev _ _) (by omega) (by omega) Cy ?_ λp' m' q' a b c d=>h p' m' q' a b (by omega) (by omega);intro k k1 k2;have:k=m:=by omega
    subst this;rfl
   ·rw[if_neg hq];refine xX hn fu (m+1) 0 _ s e (by omega) (by omega) (hd.succ (by omega) (iq c')) ?_ λp' m' q' a b c d=>h p' m' q' a b (by omega) (by omega);intro k k1 k2;have:k=m:=by omega
    subst this;rfl
  ·have c':¬ F f p m<F f p (m - 1):=c;rw[decide_eq_false c];show KasT.kasWp _ (if false=true then _ else KasT.ask _ _ _) _ _;rw[if_neg (by simp)];refine⟨e.lt hn _,e.lt hn _, ?_⟩
   by_cases c2:f (p.getD (m - 1) 0)<f (p.getD m 0)
   ·rw[decide_eq_true c2];exact h p m q e h1 (aj _) (by omega) hd he
   ·have c2':¬ F f p (m - 1)<F f p m:=c2;rw[decide_eq_false c2];have eq:F f p m=F f p (m - 1):=by omega
    refine xX hn fu (m+1) (q+1) _ s e (by omega) (by omega) (hd.succ (by omega) (by omega)) ?_ λp' m' q' a b c d=>h p' m' q' a b (by omega) (by omega);intro k k1 k2;show F f p k=F f p m
    by_cases r:k=m
    ·subst r;rfl
    ·rw[eq];exact he k (by omega) (by omega)
theorem Dec.rev {p:Array Nat}{m:Nat}(hm:m<=p.size) (h:Dec f p m):Inc f (kas_rev p 0 m) m:=by intro i j Cu hj;rw[uI hm,uI hm,if_pos ⟨ig _,by omega⟩,if_pos ⟨ig _,hj⟩];exact h _ _ (by omega) (by omega)
theorem LU (hn:0<n) {p:Array Nat}{m:Nat}{Q:Nat×Array Nat->ag->Prop}(e:Ent n p) (h1:1<=m) (h2:m<=n) (hd:Dec f p m)
  (h:∀m' p',Ent n p'->1<=m'->m'<=n->Inc f p' m'->Q (m',p') s):(kas_tail3 m n p).kasWp (nJ n f) Q s:=by
 unfold kas_tail3;rw[KasT.kasWp_bind];refine DG (e.rev 0 m) hn (n - m) m s h1 (hd.rev (by rw[e.1];exact h2)) λm' a b c _=>?_;exact h m' _ (e.rev 0 m) (by omega) (by omega) c
theorem LV (hn:0<n) {p:Array Nat}{m:Nat}{Q:Nat×Array Nat->ag->Prop}(e:Ent n p) (h2:m+1<=n) (hd:Dec f p (m+1))
  (h:∀m' p',Ent n p'->1<=m'->m'<=n->Inc f p' m'->Q (m',p') s):(kas_descPart m n p).kasWp (nJ n f) Q s:=by
 unfold kas_descPart;rw[KasT.kasWp_bind];refine xX hn (n - (m+1)) (m+1) 0 p s e (by omega) (by omega) hd (λk k1 k2=>by (have:k=m:=by omega);subst this;rfl) λp' m' q' e' a b c d eq=>?_;show KasT.kasWp _ (if q'>0 then _ else _) _ _
 by_cases hq:q'>0
 ·rw[if_pos hq];have Cf:m'<=p'.size:=by rw[e'.1];omega
  have hF:∀k,F f (kas_rev p' (m' - (q'+1)) m') k=F f p' k:=by
   intro k;rw[uI Cf]
   split
   ·rw[eq _ (by omega) (by omega),eq k (by omega) (by omega)]
   ·rfl
  refine LU hn (e'.rev _ _) (show 1<=m' by omega) (show m'<=n by omega) ?_ h;intro i j Cu hj;rw[hF,hF];exact d i j Cu hj
 ·rw[if_neg hq];exact LU hn e' (show 1<=m' by omega) (show m'<=n by omega) d h
theorem ZL (hn:1<=n) {p:Array Nat}{Q:Nat×Array Nat->ag->Prop}(e:Ent n p)
  (h:∀m' p',Ent n p'->1<=m'->m'<=n->Inc f p' m'->Q (m',p') s):(kas_count n p).kasWp (nJ n f) Q s:=by
 unfold kas_count;rw[KasT.kasWp_bind];refine DG e (by omega) (n - 1) 1 s (aj _) (λi j Cu hj=>by (have:i=j:=by omega);subst this;exact aj _) λm a b c d=>?_;show KasT.kasWp _ (if(m==n)=true then _ else if m>1 then _ else _) _ _
 by_cases q:m=n
 ·rw[if_pos (beq_iff_eq.mpr q)];exact h m p e (by omega) (by omega) c
 ·rw[if_neg (by intro z;exact q (beq_iff_eq.mp z))];have hlt:F f p m<F f p (m - 1):=by
   rcases d with d|d
   ·omega
   ·exact d
  by_cases q1:m>1
  ·rw[if_pos q1];refine⟨e.lt (by omega) _,e.lt (by omega) _, ?_⟩
   by_cases c2:f (p.getD 0 0)<f (p.getD (m - 1) 0)
   ·rw[decide_eq_true c2];exact h m p e (by omega) (by omega) c
   ·have c2':¬ F f p 0<F f p (m - 1):=c2;rw[decide_eq_false c2];have Cf:m<=p.size:=by rw[e.1];omega
    have eq:∀k,k<m->F f p k=F f p 0:=by intro k hk;have:=c 0 k (by omega) hk;have:=c k (m - 1) (by omega) (by omega);omega
    have hF:∀k,F f (kas_rev p 0 m) k=F f p k:=by
     intro k;rw[uI Cf]
     split
     ·rw[eq _ (by omega),eq k (by omega)]
     ·rfl
    refine LV (by omega) (e.rev _ _) (by omega) ?_ h;intro i j Cu hj;rw[hF,hF]
    by_cases r:j=m
    ·subst r
     by_cases r2:i=j
     ·subst r2;exact aj _
     ·have:=eq i (by omega);have:=eq (j - 1) (by omega);omega
    ·rw[eq i (by omega),eq j (by omega)];exact aj _
  ·rw[if_neg q1];have:m=1:=by omega
   subst this;refine LV (by omega) e (by omega) ?_ h;intro i j Cu hj
   by_cases r:i=j
   ·subst r;exact aj _
   ·have h1:i=0:=by omega
    have h2:j=1:=by omega
    subst h1;subst h2;exact iq hlt
theorem DH {p:Array Nat}(e:Ent n p) (hn:0<n) {k:Nat}(hi:Inc f p k) {Q:Nat->ag->Prop}:∀(fu l r:Nat) (s:ag),r - l<=fu->l<=r->r<=k->
  (∀i,i<l->F f p i<=F f p k)->(∀i,r<=i->i<k->F f p k<F f p i)->
  (∀l',l'<=k->(∀i,i<l'->F f p i<=F f p k)->(∀i,l'<=i->i<k->F f p k<F f p i)->Q l' s)->(kas_place p k fu l r).kasWp (nJ n f) Q s
 |0,l,r,s,h1,h2,h3,ha,hb,h=>by
  have:l=r:=by omega
  subst this;exact h l h3 ha hb
 |fu+1,l,r,s,h1,h2,h3,ha,hb,h=>by
  unfold kas_place
  by_cases q:l>=r
  ·rw[if_pos q];have:l=r:=by omega
   subst this;exact h l h3 ha hb
  ·rw[if_neg q];refine⟨e.lt hn _,e.lt hn _, ?_⟩
   by_cases c:f (p.getD k 0)<f (p.getD ((l+r) / 2) 0)
   ·have c':F f p k<F f p ((l+r) / 2):=c;rw[decide_eq_true c];refine DH e hn hi fu l ((l+r) / 2) s (by omega) (by omega) (by omega) ha ?_ h;intro i i1 i2;have:=hi ((l+r) / 2) i i1 i2;omega
   ·have c':¬ F f p k<F f p ((l+r) / 2):=c;rw[decide_eq_false c];refine DH e hn hi fu ((l+r) / 2+1) r s (by omega) (by omega) (by omega) ?_ hb h;intro i i1;have:=hi i ((l+r) / 2) (by omega) (by omega);omega
theorem LW (hn:0<n) {Q:Array Nat->ag->Prop}:∀(fu k:Nat) (p:Array Nat) (s:ag),Ent n p->k+fu<=n->Inc f p k->(∀p',Ent n p'->Inc f p' (k+fu)->Q p' s)->(kas_bin fu p k).kasWp (nJ n f) Q s
 |0,k,p,s,e,h1,hi,h=>h p e hi
 |fu+1,k,p,s,e,h1,hi,h=>by
  unfold kas_bin;rw[KasT.kasWp_bind];refine DH e hn hi k 0 k s (by omega) (by omega) (aj _) (λi hi=>absurd hi (by omega)) (λi a b=>absurd b (by omega)) λl hl ha hb=>?_;have Cf:k<p.size:=by rw[e.1];omega
  refine LW hn fu (k+1) _ s (e.bubble _ _) (by omega) ?_ λp' e' i'=>h p' e' (by rw[show k+(fu+1)=k+1+fu by omega];exact i');intro i j Cu hj;rw[LR Cf (by omega),LR Cf (by omega)];have hkl:k - (k - l)=l:=by omega
  rw[hkl]
  by_cases i1:i=l
  ·rw[if_pos i1]
   by_cases j1:j=l
   ·rw[if_pos j1];exact aj _
   ·rw[if_neg j1,if_pos (by omega)];exact iq (hb (j - 1) (by omega) (by omega))
  ·rw[if_neg i1]
   by_cases i2:l<i/\i<=k
   ·rw[if_pos i2,if_neg (by omega),if_pos (by omega)];exact hi (i - 1) (j - 1) (by omega) (by omega)
   ·rw[if_neg i2]
    by_cases j1:j=l
    ·rw[if_pos j1];exact ha i (by omega)
    ·rw[if_neg j1]
     by_cases j2:l<j/\j<=k
     ·rw[if_pos j2];exact hi i (j - 1) (by omega) (by omega)
     ·rw[if_neg j2];exact hi i j Cu (by omega)
theorem ZM (hn:1<=n) {Q:Array Nat->ag->Prop}(h:∀p,Ent n p->Inc f p n->Q p s):(kas_sort n).kasWp (nJ n f) Q s:=by
 unfold kas_sort;rw[KasT.kasWp_bind];refine ZL hn ⟨by simp,by simp⟩ λm p e h1 h2 hi=>?_;show KasT.kasWp _ (if m<n then _ else _) _ _
 by_cases q:m<n
 ·rw[if_pos q];have:max m 1=m:=by omega
  rw[this];refine LW (by omega) (n - m) m p s e (by omega) hi λp' e' i'=>h p' e' ?_;rw[show m+(n - m)=n by omega]at i';exact i'
 ·rw[if_neg q];have:m=n:=by omega
  subst this;exact h p e hi
theorem LX {α:Type}{cmp:Nat->Nat->(Bool->ag->Prop)->ag->Prop}{I:ag->Prop}(hc:∀i j C s,I s->i<n->j<n->(∀s',I s'->C (decide (f i<f j)) s')->cmp i j C s):
  ∀(t:KasT α) (Q:α->Prop) (Q':α->ag->Prop) (s₀ s:ag),t.kasWp (nJ n f) (λa _=>Q a) s₀->I s->(∀a s',Q a->I s'->Q' a s')->t.kasWp cmp Q' s
 | .ret a,Q,Q',s₀,s,h,hi,k=>k a s h hi
 | .ask i j c,Q,Q',s₀,s,h,hi,k=>hc i j _ s hi h.1 h.2.1 λs' hi'=>LX hc (c _) Q Q' s₀ s' h.2.2 hi' k
end SoM
namespace L2
structure Eo {α:Type}(lt:α->α->Bool):Prop where
 irr:∀x,lt x x=false
 tr:∀x y z,lt x y=true->lt y z=true->lt x z=true
 tot:∀x y,lt x y=false->lt y x=false->x=y
section
variable{α:Type}{lt:α->α->Bool}
theorem Eo.asy (o:Eo lt) {x y:α}(h:lt x y=true):lt y x=false:=by
 cases q:lt y x with
 |false=>rfl
 |true=>have:=o.tr x y x h q;rw[o.irr]at this;cases this
theorem Eo.lt_le (o:Eo lt) {x y z:α}(h:lt x y=true) (h2:lt z y=false):lt x z=true:=by
 cases q:lt y z with
 |true=>exact o.tr x y z h q
 |false=>rw[<-o.tot y z q h2];exact h
abbrev hW (lt:α->α->Bool) (l:List α):Prop:=l.Pairwise λa b=>lt b a=false
abbrev fT (lt:α->α->Bool) (l:List α):Prop:=l.Pairwise λa b=>lt a b=true
theorem LY (o:Eo lt):∀{l l':List α},hW lt l->hW lt l'->l.Perm l'->l=l'
 | [],l',_,_,p=>(List.nil_perm.mp p).symm
 |x::r,[],_,_,p=>by simp at p
 |x::r,y::r',h,h',p=>by
  have h1:=gg.mp h;have h2:=gg.mp h';have e:x=y:=by
   refine o.tot x y ?_ ?_
   ·rcases bh.mp (p.mem_iff.mp (bg ..))with e|e
    ·rw[e];exact o.irr y
    ·exact h2.1 x e
   ·rcases bh.mp (p.mem_iff.mpr (bg ..))with e|e
    ·rw[e];exact o.irr x
    ·exact h1.1 y e
  subst e;rw[LY o h1.2 h2.2 (List.Perm.cons_inv p)]
def kZ (lt:α->α->Bool) (x:α):List α->List α
 | []=>[x]
 |y::r=>if lt y x then y::kZ lt x r else if lt x y then x::y::r else y::r
def eR (lt:α->α->Bool):List α->List α
 | []=>[]
 |x::r=>kZ lt x (eR lt r)
theorem DI (o:Eo lt) (x z:α):∀l,z∈kZ lt x l↔z=x∨z∈l
 | []=>by simp[kZ]
 |y::r=>by
  unfold kZ
  split
  ·rw[bh,DI o x z r,bh];constructor
   ·rintro (h|h|h)
    ·exact .inr (.inl h)
    ·exact .inl h
    ·exact .inr (.inr h)
   ·rintro (h|h|h)
    ·exact .inr (.inl h)
    ·exact .inl h
    ·exact .inr (.inr h)
  ·rename_i q1
   split
   ·simp
   ·rename_i q2;have e:=o.tot x y (by simpa using q2) (by simpa using q1);subst e;simp
theorem nK (o:Eo lt) (z:α):∀l,z∈eR lt l↔z∈l
 | []=>.rfl
 |x::r=>by rw[eR,DI o,nK o z r,bh]
theorem LZ (o:Eo lt) (x:α):∀l,fT lt l->fT lt (kZ lt x l)
 | [],_=>by simp[kZ,fT]
 |y::r,h=>by
  have h1:=gg.mp h;unfold kZ
  split
  ·rename_i q;refine gg.mpr ⟨λz hz=>?_,LZ o x r h1.2⟩
   rcases(DI o x z r).mp hz with rfl|hz
   ·exact q
   ·exact h1.1 z hz
  ·split
   ·rename_i q;refine gg.mpr ⟨λz hz=>?_,h⟩
    rcases bh.mp hz with rfl|hz
    ·exact q
    ·exact o.tr _ _ _ q (h1.1 z hz)
   ·exact h
theorem uJ (o:Eo lt):∀l,fT lt (eR lt l)
 | []=>ya
 |x::r=>LZ o x _ (uJ o r)
theorem L0 (o:Eo lt) {l:List α}(h:fT lt l):hW lt l:=h.imp λh=>o.asy h
theorem uK (o:Eo lt) {l:List α}(h:fT lt l):l.Nodup:=h.imp λ{a b} h e=>by rw[e,o.irr]at h;cases h
theorem DJ (o:Eo lt) {l l':List α}(h:fT lt l) (h':fT lt l') (m:∀z,z∈l↔z∈l'):l=l':=by refine LY o (L0 o h) (L0 o h') ?_;exact(rf (uK o h) (uK o h')).mpr m
theorem ZN (o:Eo lt) {l l':List α}(h:fT lt l') (m:∀z,z∈l'↔z∈l):l'=eR lt l:=DJ o h (uJ o l) λz=>(m z).trans (nK o z l).symm
def rk (lt:α->α->Bool) (ks:List α) (x:α):Nat:=ks.countP λy=>lt y x
theorem DK {p q:α->Bool}:∀(l:List α),(∀y,p y=true->q y=true)->l.countP p<=l.countP q
 | [],_=>aj _
 |y::r,h=>by
  have:=DK r h;rw[pg,pg]
  cases hp:p y with
  |true=>rw[h y hp];simp;omega
  |false=>cases q y <;> simp <;> omega
theorem L6 {p q:α->Bool}:∀(l:List α),(∀y,p y=true->q y=true)->∀x,x∈l->q x=true->p x=false->l.countP p<l.countP q
 | [],_,x,hx,_,_=>by simp at hx
 |y::r,h,x,hx,h1,h2=>by
  rw[pg,pg]
  rcases bh.mp hx with rfl|hx
  ·have:=DK r h;rw[h1,h2];simp;omega
  ·have:=L6 r h x hx h1 h2
   cases hp:p y with
   |true=>rw[h y hp];simp;omega
   |false=>cases q y <;> simp <;> omega
theorem L7 (o:Eo lt) {ks:List α}{x z:α}(hx:x∈ks):decide (rk lt ks x<rk lt ks z)=lt x z:=by
 cases q:lt x z with
 |true=>exact decide_eq_true (L6 ks (λy h=>o.tr y x z h q) x hx q (o.irr x))
 |false=>exact decide_eq_false (Nat.not_lt.mpr (DK ks λy h=>o.lt_le h q))
theorem ZO (o:Eo lt) {ks:List α}{x z:α}(hz:z∈ks) (h:rk lt ks x<=rk lt ks z):lt z x=false:=by rw[<-L7 o hz];exact decide_eq_false (Nat.not_lt.mpr h)
end
def dH:Aq->Aq->Bool
 | [],[]=>false
 | [],_::_=>true
 |_::_,[]=>false
 |a::x,b::y=>if a==b then dH x y else decide (a<b)
theorem Dd:Eo dH:=by
 refine⟨λx=>?_,λx=>?_,λx=>?_⟩
 ·induction x with
  |nil=>rfl
  |cons a x ih=>simp[dH,ih]
 ·induction x with
  |nil=>
   intro y z h1 h2
   cases z with
   |nil=>cases y with
    |nil=>exact h1
    |cons b y=>cases h2
   |cons c z=>rfl
  |cons a x ih=>
   intro y z h1 h2
   cases y with
   |nil=>cases h1
   |cons b y=>
    cases z with
    |nil=>cases h2
    |cons c z=>
     simp only[dH,beq_iff_eq]at h1 h2 ⊢
     by_cases e1:a=b <;> by_cases e2:b=c
     ·rw[if_pos e1]at h1;rw[if_pos e2]at h2;rw[if_pos (e1.trans e2)];exact ih y z h1 h2
     ·rw[if_neg e2]at h2;rw[if_neg (by rw[e1];exact e2)];rw[e1];exact h2
     ·rw[if_neg e1]at h1;rw[if_neg (by rw[<-e2];exact e1)];rw[<-e2];exact h1
     ·rw[if_neg e1]at h1;rw[if_neg e2]at h2;simp only[decide_eq_true_eq]at h1 h2;rw[if_neg (by omega)];simp;omega
 ·induction x with
  |nil=>
   intro y h1 h2
   cases y with
   |nil=>rfl
   |cons b y=>cases h1
  |cons a x ih=>
   intro y h1 h2
   cases y with
   |nil=>cases h2
   |cons b y=>
    simp only[dH,beq_iff_eq]at h1 h2
    by_cases e:a=b
    ·subst e;rw[if_pos rfl]at h1 h2;rw[ih y h1 h2]
    ·rw[if_neg e]at h1;rw[if_neg (dh e)]at h2;simp at h1 h2;omega
def eX (p q:Int×Int):Bool:=if p.1==q.1 then decide (p.2<q.2)else decide (p.1<q.1)
def jT (p:Int×Int):Aq:=[p.1,p.2]
theorem uL (p q:Int×Int):dH (jT p) (jT q)=eX p q:=by
 unfold eX jT dH
 split
 ·unfold dH
  split
  ·rename_i h;simp at h;simp[dH,h]
  ·rfl
 ·rfl
theorem ZP {p q:Int×Int}(h:jT p=jT q):p=q:=by obtain⟨a,b⟩:=p;obtain⟨c,d⟩:=q;simp[jT]at h;rw[h.1,h.2]
theorem Dh:Eo eX:=⟨λx=>by rw[<-uL];exact Dd.irr _,λx y z h1 h2=>by rw[<-uL]at *;exact Dd.tr _ _ _ h1 h2,λx y h1 h2=>by rw[<-uL]at *;exact ZP (Dd.tot _ _ h1 h2)⟩
section
variable{α β:Type}{lt:α->α->Bool}{lt':β->β->Bool}{f:α->β}
theorem L8 (h:∀x y,lt' (f x) (f y)=lt x y) (x:α):∀l,kZ lt' (f x) (l.map f)=(kZ lt x l).map f
 | []=>rfl
 |y::r=>by
  simp only[da,kZ,h]
  split
  ·rw[L8 h x r];rfl
  ·split <;> rfl
theorem L9 (h:∀x y,lt' (f x) (f y)=lt x y):∀l,eR lt' (l.map f)=(eR lt l).map f
 | []=>rfl
 |x::r=>by rw[da,eR,L9 h r,L8 h];rfl
end
end L2
namespace SM
open PySem PySem.SetTable
def hW (l:As):Prop:=l.Pairwise (·<·)
theorem DL {l:As}(hr:hW l) {i k x:Nat}(a:l[i]?=some x) (b:l[k]?=some x):i=k:=by
 obtain⟨p1,p2⟩:=ax.mp a;obtain⟨q1,q2⟩:=ax.mp b
 rcases Nat.lt_trichotomy i k with h|h|h
 ·have:=iu.mp hr i k p1 q1 h;omega
 ·exact h
 ·have:=iu.mp hr k i q1 p1 h;omega
theorem ZQ (xs:Array Nat) (j:Nat) (hr:hW xs.toList):∀(fuel lo hi:Nat),lo<=hi->hi<=xs.size->hi - lo<=fuel->
  (∀i (h:i<xs.size),i<lo->xs[i]<j)->(∀i (h:i<xs.size),hi<=i->j<=xs[i])->
  (∀i (h:i<xs.size),i<below.go xs j fuel lo hi->xs[i]<j)/\(∀i (h:i<xs.size),below.go xs j fuel lo hi<=i->j<=xs[i])/\below.go xs j fuel lo hi<=xs.size:=by
 intro fuel
 induction fuel with
 |zero=>
  intro lo hi h1 h2 h3 ha hb;have:lo=hi:=by omega
  subst this;exact⟨ha,hb,h2⟩
 |succ n ih=>
  intro lo hi h1 h2 h3 ha hb;unfold below.go
  by_cases hlt:lo<hi
  ·rw[if_pos hlt];dsimp only;have hm:(lo+hi) / 2<xs.size:=by omega
   have e:xs.getD ((lo+hi) / 2) j=xs[(lo+hi) / 2]:=by simp[lb,hm]
   have mono:∀a b (ha:a<xs.size) (hb:b<xs.size),a<b->xs[a]<xs[b]:=by intro a b ha hb Dr;have:=iu.mp hr a b (by simpa using ha) (by simpa using hb) Dr;simpa using this
   by_cases hc:xs.getD ((lo+hi) / 2) j<j
   ·rw[if_pos hc];refine ih _ _ (by omega) h2 (by omega) ?_ hb;intro i h hi';rw[e]at hc
    by_cases q:i=(lo+hi) / 2
    ·subst q;exact hc
    ·have:=mono i _ h hm (by omega);omega
   ·rw[if_neg hc];refine ih _ _ (by omega) (by omega) (by omega) ha ?_;intro i h hi';rw[e]at hc
    by_cases q:i=(lo+hi) / 2
    ·subst q;omega
    ·have:=mono _ i hm h (by omega);omega
  ·rw[if_neg hlt];have:lo=hi:=by omega
   subst this;exact⟨ha,hb,h2⟩
theorem uM {xs:Array Nat}{j:Nat}(hr:hW xs.toList):
  (∀i (h:i<xs.size),i<below xs j->xs[i]<j)/\(∀i (h:i<xs.size),below xs j<=i->j<=xs[i])/\below xs j<=xs.size:=
 ZQ xs j hr xs.size 0 xs.size (ig _) (aj _) (by omega) (λi h hi=>absurd hi (by omega)) (λi h hi=>absurd h (by omega))
theorem MA {xs:Array Nat}{j:Nat}(hr:hW xs.toList) (hm:j∈xs.toList):xs[below xs j]?=some j:=by
 obtain⟨h1,h2,h3⟩:=uM (j:=j) hr;obtain⟨i,hi,e⟩:=jw hm;have hi':i<xs.size:=by simpa using hi
 have e':xs[i]=j:=by simpa using e
 have hle:below xs j<=i:=by
  rcases jo i (below xs j)with q|q
  ·have:=h1 i hi' q;omega
  ·exact q
 have hb:below xs j<xs.size:=by omega
 have:=h2 (below xs j) hb (aj _);have mono:∀a b (ha:a<xs.size) (hb:b<xs.size),a<b->xs[a]<xs[b]:=by intro a b ha hb Dr;have:=iu.mp hr a b (by simpa using ha) (by simpa using hb) Dr;simpa using this
 have hE:below xs j=i:=by
  rcases jo (below xs j) i with q|q
  ·have:=mono _ _ hb hi' q;omega
  ·omega
 rw[fw hb]
 congr 1
 have:∀k (hk:k<xs.size),k=i->xs[k]=xs[i]:=by intro k hk e;subst e;rfl
 rw[this _ hb hE,e']
theorem ZR {xs:Array Nat}{j:Nat}(hm:j∉xs.toList):(xs[below xs j]?==some j)=false:=by rw[beq_eq_false_iff_ne];intro e;obtain⟨h,e⟩:=du.mp e;exact hm (by rw[<-e];simp)
theorem uN {α:Type}(xs:Array α) (p:Nat) (x:α) (hp:p<=xs.size):(insertAt xs p x).toList=xs.toList.take p++x::xs.toList.drop p:=by unfold insertAt;rw[Array.toList_append,Array.toList_push];simp[Array.toList_extract,List.take_of_length_le]
theorem ZS {xs:Array Nat}{j:Nat}(hr:hW xs.toList) (hm:j∉xs.toList):hW (insertAt xs (below xs j) j).toList:=by
 obtain⟨h1,h2,h3⟩:=uM (j:=j) hr;rw[uN _ _ _ h3];unfold hW at hr ⊢;have hlt:∀a∈xs.toList.take (below xs j),a<j:=by intro a ha;obtain⟨i,hi,e⟩:=jw ha;rw[ji]at hi;rw[List.getElem_take]at e;have:=h1 i (by simp at hi;omega) (by omega);simp at e;omega
 have hgt:∀a∈xs.toList.drop (below xs j),j<a:=by
  intro a ha;obtain⟨i,hi,e⟩:=jw ha;rw[pd]at hi;rw[List.getElem_drop]at e;have q:=h2 (below xs j+i) (by simp at hi;omega) (by omega);have ne:a≠j:=by rintro rfl;exact hm (List.mem_of_mem_drop ha)
  simp at e;omega
 rw[List.pairwise_append];refine⟨hr.sublist (List.take_sublist _ _), ?_, ?_⟩
 ·rw[gg];exact⟨hgt,hr.sublist (List.drop_sublist _ _)⟩
 ·intro a ha b hb
  rcases bh.mp hb with rfl|hb
  ·exact hlt a ha
  ·have:=hlt a ha;have:=hgt b hb;omega
def nL (mask:Nat) (p:Probe):Probe:=
 if p.more>0 then{ p with j:=p.j+1,more:=p.more - 1 } else
 { p with j:=(leap mask p.i p.perturb).1,more:=runEnd mask (leap mask p.i p.perturb).1 - (leap mask p.i p.perturb).1,i:=(leap mask p.i p.perturb).1,perturb:=(leap mask p.i p.perturb).2 }
theorem MB (t:jc) (p:Probe):t.advance p=nL t.mask p:=by
 unfold SetTable.advance nL
 split <;> rfl
def ZT (mask:Nat) (h:Int):Probe:={ j:=bits h % (mask+1),more:=runEnd mask (bits h % (mask+1)) - bits h % (mask+1),i:=bits h % (mask+1),perturb:=bits h,dummy:=none }
def dW (mask:Nat) (h:Int):Nat->Probe
 |0=>ZT mask h
 |n+1=>nL mask (dW mask h n)
def pr (mask:Nat) (h:Int) (n:Nat):Nat:=(dW mask h n).j
theorem ZU (mask:Nat) (p:Probe):(nL mask p).dummy=p.dummy:=by unfold nL;split <;> rfl
theorem MD (mask:Nat) (h:Int):∀n,(dW mask h n).dummy=none
 |0=>rfl
 |n+1=>by rw[dW,ZU,MD mask h n]
def pP (mask i pt:Nat):Probe:={ j:=i,more:=runEnd mask i - i,i:=i,perturb:=pt,dummy:=none }
def bs (mask:Nat) (h:Int):Nat->Nat×Nat
 |0=>(bits h % (mask+1),bits h)
 |L+1=>leap mask (bs mask h L).1 (bs mask h L).2
theorem ZV (mask i:Nat):runEnd mask i - i<=9:=by unfold runEnd;split <;> omega
theorem xY (mask:Nat) (h:Int) (i pt:Nat) (n:Nat) (e:dW mask h n=pP mask i pt):∀k,k<=runEnd mask i - i->dW mask h (n+k)={ pP mask i pt with j:=i+k,more:=runEnd mask i - i - k }
 |0,_=>by rw[Nat.add_zero,e];rfl
 |k+1,hk=>by have ih:=xY mask h i pt n e k (by omega);rw[show n+(k+1)=(n+k)+1 from rfl,dW,ih];unfold nL;rw[if_pos (show runEnd mask i - i - k>0 by omega)];simp[pP];omega
theorem ME (mask:Nat) (h:Int):∀L,∃n,n<=10*L/\dW mask h n=pP mask (bs mask h L).1 (bs mask h L).2
 |0=>⟨0,by omega,rfl⟩
 |L+1=>by obtain⟨n,hn,e⟩:=ME mask h L;have r:=xY mask h _ _ n e (runEnd mask (bs mask h L).1 - (bs mask h L).1) (aj _);have:=ZV mask (bs mask h L).1;refine⟨n+(runEnd mask (bs mask h L).1 - (bs mask h L).1)+1,by omega, ?_⟩;rw[dW,r];unfold nL;rw[if_neg (by simp)];rfl
theorem MF (mask:Nat) (h:Int):∀L,(bs mask h L).2=bits h / 32 ^ L
 |0=>by simp[bs]
 |L+1=>by rw[bs];show(bs mask h L).2 / 32=_;rw[MF mask h L,Nat.div_div_eq_div_mul,Nat.pow_succ]
theorem ZW (h:Int):bits h<2 ^ 64:=by unfold bits;omega
theorem ZX (mask:Nat) (h:Int) {L:Nat}(hL:13<=L):(bs mask h L).2=0:=by
 rw[MF];have h1:=ZW h;have h2:(32:Nat) ^ 13<=32 ^ L:=Aj (by decide) hL;have h3:(2:Nat) ^ 64<32 ^ 13:=by decide
 exact Nat.div_eq_of_lt (by omega)
def fx (mask x:Nat):Nat:=(x*5+1) % (mask+1)
def oI (mask:Nat):Nat->Nat->Nat
 |0,x=>x
 |n+1,x=>oI mask n (fx mask x)
theorem MG (mask:Nat):∀n x,oI mask (n+1) x=fx mask (oI mask n x)
 |0,x=>rfl
 |n+1,x=>by rw[oI,MG mask n,oI]
theorem MH (mask:Nat) (h:Int):∀n,(bs mask h (13+n)).1=oI mask n (bs mask h 13).1
 |0=>rfl
 |n+1=>by rw[MG,<-MH mask h n,show 13+(n+1)=(13+n)+1 from rfl,bs];show((bs mask h (13+n)).1*5+1+(bs mask h (13+n)).2 / 32) % (mask+1)=_;rw[ZX mask h (by omega)];rfl
def rQ (mask:Nat):Nat->Nat->Nat
 |0,_=>0
 |n+1,x=>2 ^ x ||| rQ mask n (fx mask x)
theorem MI (mask j:Nat):∀n x,(rQ mask n x).testBit j=true->∃k,k<n/\oI mask k x=j
 |0,x,h=>by simp[rQ]at h
 |n+1,x,h=>by
  rw[rQ,Nat.testBit_or,Bool.or_eq_true]at h
  rcases h with h|h
  ·rw[Nat.testBit_two_pow,decide_eq_true_eq]at h;exact⟨0,by omega,h⟩
  ·obtain⟨k,hk,e⟩:=MI mask j n _ h;exact⟨k+1,by omega,e⟩
def mE (mask:Nat):Prop:=mask=7∨mask=31∨mask=127
def MJ (mask:Nat):Bool:=(bf (mask+1)).all λx=>rQ mask (mask+1) x==2 ^ (mask+1) - 1
theorem ZY {mask:Nat}(g:mE mask):MJ mask=true:=by rcases g with rfl|rfl|rfl <;> decide +kernel
theorem ZZ {mask x j:Nat}(g:mE mask) (hx:x<=mask) (hj:j<=mask):∃k,k<=mask/\oI mask k x=j:=by
 have h1:=ZY g;unfold MJ at h1;rw[gu]at h1;have h2:=h1 x (bx.mpr (by omega));rw[beq_iff_eq]at h2;have h3:(rQ mask (mask+1) x).testBit j=true:=by rw[h2,Nat.testBit_two_pow_sub_one,decide_eq_true_eq];omega
 obtain⟨k,hk,e⟩:=MI mask j _ _ h3;exact⟨k,by omega,e⟩
theorem xZ (a m:Nat):a % (m+1)<=m:=by have:=Nat.mod_lt a (show 0<m+1 by omega);omega
theorem Z0 (mask:Nat) (h:Int):∀L,(bs mask h L).1<=mask
 |0=>xZ _ _
 |L+1=>xZ _ _
theorem MK {mask j:Nat}(g:mE mask) (h:Int) (hj:j<=mask):∃L,L<=13+mask/\(bs mask h L).1=j:=by obtain⟨k,hk,e⟩:=ZZ g (Z0 mask h 13) hj;exact⟨13+k,by omega,by rw[MH];exact e⟩
theorem Z1 {mask j:Nat}(g:mE mask) (h:Int) (hj:j<=mask):∃n,n<10*turns mask/\pr mask h n=j:=by obtain⟨L,hL,e⟩:=MK g h hj;obtain⟨n,hn,e2⟩:=ME mask h L;refine⟨n,by unfold turns;omega, ?_⟩;unfold pr;rw[e2];exact e
theorem ML {mask i:Nat}(hi:i<=mask):runEnd mask i<=mask:=by unfold runEnd;split <;> omega
theorem MM {mask:Nat}(h:Int):∀n,(dW mask h n).i<=mask/\(dW mask h n).j+(dW mask h n).more<=mask
 |0=>by
  have e:bits h % (mask+1)<=mask:=xZ _ _;have:=ML e;have:bits h % (mask+1)<=runEnd mask (bits h % (mask+1)):=by unfold runEnd;split <;> omega
  exact⟨e,by show bits h % (mask+1)+(runEnd mask (bits h % (mask+1)) - bits h % (mask+1))<=mask;omega⟩
 |n+1=>by
  obtain⟨h1,h2⟩:=MM (mask:=mask) h n;rw[dW];unfold nL
  split
  ·exact⟨h1,by dsimp only;omega⟩
  ·dsimp only;have e:(leap mask (dW mask h n).i (dW mask h n).perturb).1<=mask:=xZ _ _;have:=ML e;have:(leap mask (dW mask h n).i (dW mask h n).perturb).1<=runEnd mask (leap mask (dW mask h n).i (dW mask h n).perturb).1:=by unfold runEnd;split <;> omega
   exact⟨e,by omega⟩
theorem DM {mask:Nat}(h:Int) (n:Nat):pr mask h n<=mask:=by have:=(MM (mask:=mask) h n).2;unfold pr;omega
def Way (mask:Nat) (occ:Nat->Prop) (h:Int) (j:Nat):Prop:=∃n,pr mask h n=j/\∀m,m<n->occ (pr mask h m)
theorem Way.mono {mask:Nat}{occ occ':Nat->Prop}{h:Int}{j:Nat}(w:Way mask occ h j) (k:∀x,occ x->occ' x):Way mask occ' h j:=let ⟨n,e,a⟩:=w;⟨n,e,λm hm=>k _ (a m hm)⟩
structure Dm (t:jc) (hs:Aq):Prop where
 size:t.place.size=hs.length
 rise:hW t.place.toList
 nod:t.dummies=#[]
 bnd:∀j∈t.place.toList,j<=t.mask
 room:hs.length<=t.mask
 msk:mE t.mask
 way:∀(i:Nat) (h:Int) (j:Nat),hs[i]?=some h->t.place.toList[i]?=some j->Way t.mask (·∈t.place.toList) h j
 plain:t.plain=true
theorem Dm.fits {t:jc}{hs:Aq}(T:Dm t hs):t.fits hs.length=true:=by unfold SetTable.fits SetTable.fill;rw[T.nod,T.size];simpa using T.room
theorem Dm.gave {t:jc}{hs:Aq}(T:Dm t hs):t.gaveWay=false:=by
 unfold SetTable.gaveWay
 rcases T.msk with e|e|e <;> rw[e] <;> rfl
theorem MN (j:Nat):SetTable.has #[] j=false:=by unfold SetTable.has;simp
theorem Dm.slot_live {t:jc}{hs:Aq}(T:Dm t hs) {j:Nat}(h:j∈t.place.toList):∃i,t.slot j=.live i/\t.place.toList[i]?=some j:=by refine⟨below t.place j, ?_,by simpa using MA T.rise h⟩;unfold SetTable.slot;dsimp only;rw[MA T.rise h];simp
theorem Dm.slot_empty {t:jc}{hs:Aq}(T:Dm t hs) {j:Nat}(h:j∉t.place.toList):t.slot j=.empty:=by unfold SetTable.slot;dsimp only;rw[ZR h,T.nod,MN];rfl
theorem Dm.empty_there {t:jc}{hs:Aq}(T:Dm t hs):∃j,j<=t.mask/\j∉t.place.toList:=by
 rcases sh (∃j,j<=t.mask/\j∉t.place.toList)with h|h
 ·exact h
 ·exfalso
  have h1:∀j,j∈bf (t.mask+1)->j∈t.place.toList:=by
   intro j hj
   rcases sh (j∈t.place.toList)with q|q
   ·exact q
   ·exact absurd ⟨j,by have:=bx.mp hj;omega,q⟩ h
  have h2:=(tu (n:=t.mask+1)).length_le_of_subset h1;rw[mf]at h2;have h3:t.place.toList.length=hs.length:=by rw[<-T.size];simp
  have:=T.room;omega
theorem Z2 {t:jc}{hs:Aq}(T:Dm t hs) (hashAt:Nat->Int) (h:Int):∀(fuel n N:Nat),n<=N->N - n<fuel->pr t.mask h N∉t.place.toList->
  ∃m,n<=m/\m<=N/\(∀l,n<=l->l<m->pr t.mask h l∈t.place.toList/\∀i,t.place.toList[i]?=some (pr t.mask h l)->hashAt i≠h) /\
   ((pr t.mask h m∉t.place.toList/\probe.go t hashAt h fuel (dW t.mask h n)=some (.empty (pr t.mask h m) none)) ∨
    (∃i,t.place.toList[i]?=some (pr t.mask h m)/\hashAt i=h/\probe.go t hashAt h fuel (dW t.mask h n)=some (.candidate (pr t.mask h m) i (dW t.mask h (m+1))))):=by
 intro fuel
 induction fuel with
 |zero=>intro n N _ h2 _;omega
 |succ f ih=>
  intro n N h1 h2 h3;have hj:(dW t.mask h n).j=pr t.mask h n:=rfl
  rcases sh (pr t.mask h n∈t.place.toList)with hm|hm
  ·obtain⟨i,e1,e2⟩:=T.slot_live hm
   by_cases hh:hashAt i=h
   ·refine⟨n,aj _,h1,λl a b=>absurd a (by omega),.inr ⟨i,e2,hh, ?_⟩⟩;rw[probe.go,hj,e1];dsimp only;rw[if_pos (beq_iff_eq.mpr hh),MB];rfl
   ·have hne:n≠N:=by rintro rfl;exact h3 hm
    obtain⟨m,a1,a2,a3,a4⟩:=ih (n+1) N (by omega) (by omega) h3;have e3:probe.go t hashAt h (f+1) (dW t.mask h n)=probe.go t hashAt h f (dW t.mask h (n+1)):=by rw[probe.go,hj,e1];dsimp only;rw[if_neg (by intro q;exact hh (beq_iff_eq.mp q)),MB];rfl
    refine⟨m,by omega,a2,λl b1 b2=>?_,by rw[e3];exact a4⟩
    rcases jo n l with q|q
    ·exact a3 l (by omega) b2
    ·have:l=n:=by omega
     subst this;refine⟨hm,λi' e'=>?_⟩;have:i'=i:=DL T.rise e' e2;subst this;exact hh
  ·refine⟨n,aj _,h1,λl a b=>absurd a (by omega),.inl ⟨hm, ?_⟩⟩;rw[probe.go,hj,T.slot_empty hm];dsimp only;rw[MD]
theorem Dm.stops {t:jc}{hs:Aq}(T:Dm t hs) (h:Int):∃N,N<10*turns t.mask/\pr t.mask h N∉t.place.toList:=by obtain⟨j,hj,hn⟩:=T.empty_there;obtain⟨N,hN,e⟩:=Z1 T.msk h hj;exact⟨N,hN,by rw[e];exact hn⟩
theorem Dm.before {t:jc}{hs:Aq}(T:Dm t hs) {h:Int}{i j m:Nat}(e1:hs[i]?=some h) (e2:t.place.toList[i]?=some j) (hm:pr t.mask h m∉t.place.toList):∃n,n<m/\pr t.mask h n=j:=by
 obtain⟨n,e,a⟩:=T.way i h j e1 e2;refine⟨n, ?_,e⟩
 rcases jo n m with q|q
 ·exact q
 ·exfalso
  rcases jo m n with r|r
  ·exact hm (a m r)
  ·have:m=n:=by omega
   subst this;exact hm (by rw[e];exact cu e2)
theorem MP {xs:Array Nat}{p j x:Nat}(hp:p<=xs.size):x∈(insertAt xs p j).toList↔x=j∨x∈xs.toList:=by
 rw[uN _ _ _ hp,cz,bh];have e:x∈xs.toList↔x∈xs.toList.take p∨x∈xs.toList.drop p:=by rw[<-cz,zq]
 rw[e];constructor
 ·rintro (a|a|a)
  ·exact .inr (.inl a)
  ·exact .inl a
  ·exact .inr (.inr a)
 ·rintro (a|a|a)
  ·exact .inr (.inl a)
  ·exact .inl a
  ·exact .inr (.inr a)
theorem Z3 {t:jc}(hn:t.dummies=#[]) (j:Nat):t.put j=({ t with place:=insertAt t.place (below t.place j) j },below t.place j):=by unfold SetTable.put;dsimp only;rw[hn,MN];cases t;subst hn;rfl
theorem MQ {α:Type}(l:List α) (x:α) (p i:Nat) (hp:p<=l.length):(l.take p++x::l.drop p)[i]?=if i<p then l[i]? else if i=p then some x else l[i - 1]?:=by
 have hl:(l.take p).length=p:=by rw[ji];omega
 by_cases h1:i<p
 ·rw[if_pos h1,ff (by omega),yt h1]
 ·rw[if_neg h1,fv (by omega),hl]
  by_cases h2:i=p
  ·subst h2;rw[if_pos rfl,Nat.sub_self];rfl
  ·rw[if_neg h2];obtain⟨k,rfl⟩:∃k,i=p+(k+1):=⟨i - p - 1,by omega⟩
   rw[show p+(k+1) - p=k+1 by omega,tq,List.getElem?_drop,show p+(k+1) - 1=p+k by omega]
theorem Dm.put {t:jc}{hs:Aq}(T:Dm t hs) {h:Int}{n:Nat}(hn:pr t.mask h n∉t.place.toList) (hw:∀m,m<n->pr t.mask h m∈t.place.toList) (hr:hs.length+1<=t.mask):
  Dm { t with place:=insertAt t.place (below t.place (pr t.mask h n)) (pr t.mask h n) } (hs.take (below t.place (pr t.mask h n))++h::hs.drop (below t.place (pr t.mask h n))):=by
 have hb:=(uM (j:=pr t.mask h n) T.rise).2.2;have hs':t.place.toList.length=hs.length:=by rw[<-T.size];simp
 have hlen:(hs.take (below t.place (pr t.mask h n))++h::hs.drop (below t.place (pr t.mask h n))).length=hs.length+1:=by rw[bw,cy,ji,pd];have:=T.size;omega
 refine⟨?_,ZS T.rise hn,T.nod, ?_, ?_,T.msk, ?_,T.plain⟩
 ·show(insertAt t.place (below t.place (pr t.mask h n)) (pr t.mask h n)).size=_;rw[hlen];have:(insertAt t.place (below t.place (pr t.mask h n)) (pr t.mask h n)).toList.length=hs.length+1:=by rw[uN _ _ _ hb,bw,cy,ji,pd,hs'];have:=T.size;omega
  simpa using this
 ·intro j hj
  rcases(MP hb).mp hj with rfl|hj
  ·exact DM h n
  ·exact T.bnd j hj
 ·rw[hlen];exact hr
 ·intro i h' j e1 e2;have En:(t.place.toList.take (below t.place (pr t.mask h n))++pr t.mask h n::t.place.toList.drop (below t.place (pr t.mask h n)))[i]?=some j:=by rw[<-uN _ _ _ hb];exact e2
  have Et:below t.place (pr t.mask h n)<=hs.length:=by rw[<-T.size];exact hb
  rw[MQ _ _ _ _ Et]at e1;rw[MQ _ _ _ _ (by rw[hs'];exact Et)]at En;have mono:∀x,x∈t.place.toList->x∈(insertAt t.place (below t.place (pr t.mask h n)) (pr t.mask h n)).toList:=λx hx=>(MP hb).mpr (.inr hx)
  by_cases q1:i<below t.place (pr t.mask h n)
  ·rw[if_pos q1]at e1 En;exact(T.way _ _ _ e1 En).mono mono
  ·rw[if_neg q1]at e1 En
   by_cases q2:i=below t.place (pr t.mask h n)
   ·rw[if_pos q2]at e1 En
    cases e1;cases En
    exact⟨n,rfl,λm hm=>mono _ (hw m hm)⟩
   ·rw[if_neg q2]at e1 En;exact(T.way _ _ _ e1 En).mono mono
def iL (owner:Array (Option Nat)) (j:Nat):Prop:=(owner.getD j (some 0)).isSome=true
theorem MR {P:Nat->Bool}{n:Nat}(h:(bf n).find? P=none):∀k,k<n->P k=false:=by intro k hk;have:=List.find?_eq_none.mp h k (bx.mpr hk);simpa using this
theorem Z4 {P:Nat->Bool}:∀{n k:Nat},(bf n).find? P=some k->k<n/\P k=true/\∀l,l<k->P l=false:=by
 intro n
 induction n with
 |zero=>intro k h;simp at h
 |succ n ih=>
  intro k h;rw[ur,List.find?_append]at h
  cases q:(bf n).find? P with
  |some k'=>rw[q]at h;simp at h;subst h;obtain⟨a,b,c⟩:=ih q;exact⟨by omega,b,c⟩
  |none=>
   rw[q]at h
   by_cases hp:P n=true
   ·simp[hp]at h;subst h;exact⟨by omega,hp,λl hl=>MR q l hl⟩
   ·simp[hp]at h
theorem Z5 {mask:Nat}{h:Int}{L n:Nat}(e:dW mask h n=pP mask (bs mask h L).1 (bs mask h L).2):dW mask h (n+(runEnd mask (bs mask h L).1 - (bs mask h L).1)+1)=pP mask (bs mask h (L+1)).1 (bs mask h (L+1)).2:=by have r:=xY mask h _ _ n e (runEnd mask (bs mask h L).1 - (bs mask h L).1) (aj _);rw[dW,r];unfold nL;rw[if_neg (by simp)];rfl
theorem Z6 {mask:Nat}{h:Int}{owner:Array (Option Nat)}:∀(fuel L n:Nat),dW mask h n=pP mask (bs mask h L).1 (bs mask h L).2->(∀k,k<n->iL owner (pr mask h k))->
  (∃L',L<=L'/\L'<L+fuel/\¬ iL owner (bs mask h L').1)->
  ∃n,layClean.free mask owner fuel (bs mask h L).1 (bs mask h L).2=some (pr mask h n)/\¬ iL owner (pr mask h n)/\∀m,m<n->iL owner (pr mask h m):=by
 intro fuel
 induction fuel with
 |zero=>rintro L n _ _ ⟨L',a,b,_⟩;omega
 |succ f ih=>
  rintro L n e hb ⟨L',a1,a2,a3⟩
  have r:=xY mask h _ _ n e;have hle:(bs mask h L).1<=runEnd mask (bs mask h L).1:=by unfold runEnd;split <;> omega
  rw[layClean.free]
  cases q:(bf (runEnd mask (bs mask h L).1+1 - (bs mask h L).1)).find? λk=>(owner.getD ((bs mask h L).1+k) (some 0)).isNone with
  |some k=>
   obtain⟨b1,b2,b3⟩:=Z4 q;dsimp only;have ek:pr mask h (n+k)=(bs mask h L).1+k:=by unfold pr;rw[r k (by omega)]
   refine⟨n+k,by rw[ek], ?_,λm hm=>?_⟩
   ·rw[ek];unfold iL;simp at b2;simp[b2]
   ·rcases jo m n with z|z
    ·exact hb m z
    ·obtain⟨l,rfl⟩:∃l,m=n+l:=⟨m - n,by omega⟩
     have el:pr mask h (n+l)=(bs mask h L).1+l:=by unfold pr;rw[r l (by omega)]
     rw[el];have:=b3 l (by omega);unfold iL
     cases w:owner.getD ((bs mask h L).1+l) (some 0)with
     |none=>rw[w]at this;simp at this
     |some _=>rfl
  |none=>
   dsimp only;have b:=MR q;have hocc:∀l,l<=runEnd mask (bs mask h L).1 - (bs mask h L).1->iL owner ((bs mask h L).1+l):=by
    intro l hl;have:=b l (by omega);unfold iL
    cases w:owner.getD ((bs mask h L).1+l) (some 0)with
    |none=>rw[w]at this;simp at this
    |some _=>rfl
   have hne:L≠L':=by
    rintro rfl
    exact a3 (by simpa using hocc 0 (by omega))
   refine ih (L+1) _ (Z5 e) (λk hk=>?_) ⟨L',by omega,by omega,a3⟩
   rcases jo k n with z|z
   ·exact hb k z
   ·obtain⟨l,rfl⟩:∃l,k=n+l:=⟨k - n,by omega⟩
    have el:pr mask h (n+l)=(bs mask h L).1+l:=by unfold pr;rw[r l (by omega)]
    rw[el];exact hocc l (by omega)
structure LOk (mask:Nat) (hs:Aq) (owner:Array (Option Nat)) (k:Nat):Prop where
 size:owner.size=mask+1
 own:∀(j i:Nat),owner[j]?=some (some i)->i<k/\∃h,hs[i]?=some h/\Way mask (iL owner) h j
 all:∀(i:Nat),i<k->∃j:Nat,owner[j]?=some (some i)
 inj:∀(j j' i:Nat),owner[j]?=some (some i)->owner[j']?=some (some i)->j=j'
theorem uO {owner:Array (Option Nat)}{j:Nat}(hj:j<owner.size):iL owner j↔∃i,owner[j]?=some (some i):=by
 unfold iL;rw[fw hj];simp only[lb,hj,dif_pos,Array.getInternal_eq_getElem,yq]
 cases owner[j] <;> simp
theorem LOk.free {mask k:Nat}{hs:Aq}{owner:Array (Option Nat)}(O:LOk mask hs owner k) (hk:k<=mask):∃j,j<=mask/\¬ iL owner j:=by
 rcases sh (∃j,j<=mask/\¬ iL owner j)with h|h
 ·exact h
 ·exfalso
  have h1:∀j,j<=mask->∃i,owner[j]?=some (some i):=λj hj=>by
   rcases sh (iL owner j)with q|q
   ·exact(uO (by rw[O.size];omega)).mp q
   ·exact absurd ⟨j,hj,q⟩ h
  let f:Nat->Nat:=λj=>match owner[j]? with|some (some i)=>i|_=>0
  have hf:∀j,j<=mask->owner[j]?=some (some (f j)):=λj hj=>by obtain⟨i,e⟩:=h1 j hj;show owner[j]?=some (some (match owner[j]? with|some (some i)=>i|_=>0));rw[e]
  have nd:((bf (mask+1)).map f).Nodup:=by rw[yb];rw[si];refine wa ?_ (tu (n:=mask+1));intro a b ha hb Dr e;have ea:=hf a (by have:=bx.mp ha;omega);have eb:=hf b (by have:=bx.mp hb;omega);rw[e]at ea;exact Dr (O.inj _ _ _ ea eb)
  have sub:∀x,x∈(bf (mask+1)).map f->x∈bf k:=by intro x hx;obtain⟨j,hj,rfl⟩:=cg.mp hx;exact bx.mpr (O.own j _ (hf j (by have:=bx.mp hj;omega))).1
  have:=nd.length_le_of_subset sub;simp at this;omega
theorem LOk.step {mask k:Nat}{hs:Aq}{owner:Array (Option Nat)}{h:Int}(g:mE mask) (O:LOk mask hs owner k) (hk:k<=mask) (hh:hs[k]?=some h):
  ∃j,layClean.free mask owner (turns mask) (bits h % (mask+1)) (bits h)=some j/\LOk mask hs (owner.setIfInBounds j (some k)) (k+1):=by
 obtain⟨j0,hj0,hn0⟩:=O.free hk;obtain⟨L,hL,eL⟩:=MK g h hj0;obtain⟨n,e,hn,hw⟩:=Z6 (mask:=mask) (h:=h) (owner:=owner) (turns mask) 0 0 rfl (λk hk=>absurd hk (by omega)) ⟨L,by omega,by unfold turns;omega,by rw[eL];exact hn0⟩;refine⟨pr mask h n,e, ?_⟩;have hjl:pr mask h n<owner.size:=by rw[O.size];have:=DM (mask:=mask) h n;omega
 have hjn:owner[pr mask h n]?=some none:=by
  rw[fw hjl];have:¬ ∃i,owner[pr mask h n]?=some (some i):=λq=>hn ((uO hjl).mpr q)
  cases w:owner[pr mask h n]with
  |none=>rfl
  |some i=>exact absurd ⟨i,by rw[fw hjl,w]⟩ this
 have get:∀j,(owner.setIfInBounds (pr mask h n) (some k))[j]?=if pr mask h n=j then some (some k)else owner[j]?:=by
  intro j;rw[Array.getElem?_setIfInBounds]
  by_cases q:pr mask h n=j
  ·rw[if_pos q,if_pos q,if_pos hjl]
  ·rw[if_neg q,if_neg q]
 have Cf:(owner.setIfInBounds (pr mask h n) (some k)).size=mask+1:=by rw[Array.size_setIfInBounds];exact O.size
 have occm:∀x,iL owner x->iL (owner.setIfInBounds (pr mask h n) (some k)) x:=by
  intro x hx
  by_cases hl:x<owner.size
  ·obtain⟨i,e⟩:=(uO hl).mp hx;refine(uO (by rw[Cf,<-O.size];exact hl)).mpr ?_;rw[get]
   by_cases q:pr mask h n=x
   ·exact⟨k,if_pos q⟩
   ·exact⟨i,by rw[if_neg q];exact e⟩
  ·unfold iL;simp[lb,hl]
 refine⟨Cf, ?_, ?_, ?_⟩
 ·intro j i e;rw[get]at e
  by_cases q:pr mask h n=j
  ·rw[if_pos q]at e;cases e;exact⟨by omega,h,hh,n,q,λm hm=>occm _ (hw m hm)⟩
  ·rw[if_neg q]at e;obtain⟨a,h',b,c⟩:=O.own j i e;exact⟨by omega,h',b,c.mono occm⟩
 ·intro i hi
  by_cases q:i=k
  ·subst q;exact⟨pr mask h n,by rw[get,if_pos rfl]⟩
  ·obtain⟨j,e⟩:=O.all i (by omega);refine⟨j, ?_⟩;rw[get]
   by_cases z:pr mask h n=j
   ·rw[<-z,hjn]at e;cases e
   ·rw[if_neg z];exact e
 ·intro j j' i e e';rw[get]at e e'
  by_cases z:pr mask h n=j
  ·rw[if_pos z]at e;cases e
   by_cases z':pr mask h n=j'
   ·exact z.symm.trans z'
   ·rw[if_neg z']at e';have:=(O.own j' _ e').1;omega
  ·rw[if_neg z]at e
   by_cases z':pr mask h n=j'
   ·rw[if_pos z']at e';cases e';have:=(O.own j _ e).1;omega
   ·rw[if_neg z']at e';exact O.inj _ _ _ e e'
theorem MT {mask:Nat}{hs:Aq}(g:mE mask) (hl:hs.length<=mask):∀(l pre:Aq) (owner:Array (Option Nat)),hs=pre++l->LOk mask hs owner pre.length->
  ∃owner',l.foldl (λ(acc:Option (Array (Option Nat)×Nat)) h=>do
    let (owner,k) <-acc
    let j <-layClean.free mask owner (turns mask) (bits h % (mask+1)) (bits h)
    pure (owner.setIfInBounds j (some k),k+1)) (some (owner,pre.length))=some (owner',hs.length)/\LOk mask hs owner' hs.length
 | [],pre,owner,e,O=>by rw[qe]at e;subst e;exact⟨owner,rfl,O⟩
 |h::l,pre,owner,e,O=>by
  have hh:hs[pre.length]?=some h:=by rw[e];simp
  obtain⟨j,e1,O1⟩:=O.step g (by rw[e]at hl;simp at hl;omega) hh;have e2:hs=(pre++[h])++l:=by rw[e];simp
  have hlen:(pre++[h]).length=pre.length+1:=by simp
  obtain⟨o',a,b⟩:=MT g hl l (pre++[h]) _ e2 (by rw[hlen];exact O1);refine⟨o', ?_,b⟩;rw[List.foldl_cons];rw[<-a,hlen]
  congr 1
  show(do let j <-layClean.free mask owner (turns mask) (bits h % (mask+1)) (bits h);pure (owner.setIfInBounds j (some pre.length),pre.length+1))=_;rw[e1];rfl
theorem Z7 {mask:Nat}{hs:Array Int}(g:mE mask) (hl:hs.size<=mask):∃owner,layClean mask hs=some owner/\LOk mask hs.toList owner hs.size:=by
 have O0:LOk mask hs.toList (Array.replicate (mask+1) none) 0:=by
  refine⟨by simp, ?_,λi hi=>absurd hi (by omega), ?_⟩
  ·intro j i e;rw[yo]at e
   split at e <;> simp at e
  ·intro j j' i e;rw[yo]at e
   split at e <;> simp at e
 obtain⟨o',a,b⟩:=MT g (by simpa using hl) hs.toList [] _ rfl O0;refine⟨o', ?_,by simpa using b⟩;unfold layClean;rw[<-Array.foldl_toList];simp only[qf]at a;rw[a];rfl
theorem Way.mono' {mask:Nat}{occ occ':Nat->Prop}{h:Int}{j:Nat}(w:Way mask occ h j) (k:∀x,x<=mask->occ x->occ' x):Way mask occ' h j:=let ⟨n,e,a⟩:=w;⟨n,e,λm hm=>k _ (DM h m) (a m hm)⟩
theorem MU (g:Nat->Option Nat):∀(l:As),l.Pairwise (·<·)->((l.filterMap λj=>(g j).map ((j,·):Nat->Nat×Nat)).map fh).Pairwise (·<·)
 | [],_=>by simp
 |j::l,h=>by
  rw[gg]at h;have ih:=MU g l h.2
  cases e:g j with
  |none=>simpa[br,e]using ih
  |some i=>
   simp only[br,e,Option.map_some,da,gg];refine⟨?_,ih⟩;intro a ha;obtain⟨⟨x,y⟩,hp,rfl⟩:=cg.mp ha;obtain⟨z,hz,ez⟩:=jz.mp hp
   cases q:g z with
   |none=>rw[q]at ez;simp at ez
   |some i'=>rw[q]at ez;simp at ez;have:=h.1 z hz;omega
theorem Z8 {mask finger moves:Nat}{led:Bool}{hs:Array Int}(g:mE mask) (hl:hs.size<=mask):
  ∃t order,laid mask finger moves led true hs=some (t,order)/\t.mask=mask/\t.led=led/\order.toList.Perm (bf hs.size)/\Dm t (order.toList.filterMap (hs.toList[·]?)):=by
 obtain⟨owner,e,O⟩:=Z7 g hl;generalize hlive:(bf (mask+1)).filterMap (λj=>(owner.getD j none).map ((j,·):Nat->Nat×Nat))=live;have Dl:∀j i,(j,i)∈live↔owner[j]?=some (some i):=by
  intro j i;rw[<-hlive,jz];constructor
  ·rintro ⟨x,hx,ex⟩
   have hx':x<owner.size:=by rw[O.size];exact bx.mp hx
   have eg:owner.getD x none=owner[x]:=by simp[lb,hx']
   rw[eg]at ex
   cases q:owner[x]with
   |none=>rw[q]at ex;simp at ex
   |some i'=>rw[q]at ex;simp at ex;obtain⟨rfl,rfl⟩:=ex;rw[fw hx',q]
  ·intro h;obtain⟨hx',q⟩:=du.mp h;refine⟨j,bx.mpr (by rw[<-O.size];exact hx'), ?_⟩;have eg:owner.getD j none=owner[j]:=by simp[lb,hx']
   rw[eg,q];rfl
 have hrise:(live.map fh).Pairwise (·<·):=by rw[<-hlive];exact MU _ _ (zd)
 have Dj:(live.map rh).Perm (bf hs.size):=by
  refine(rf ?_ tu).mpr ?_
  ·rw[yb,si];rw[si]at hrise;refine wa ?_ hrise
   rintro ⟨a,i⟩ ⟨b,i'⟩ ha hb Dr e
   have e':i=i':=e;subst e';have:=O.inj a b i ((Dl _ _).mp ha) ((Dl _ _).mp hb);have hab':a<b:=Dr;omega
  ·intro i;rw[bx];constructor
   ·intro h;obtain⟨⟨j,i'⟩,hp,rfl⟩:=cg.mp h;exact(O.own j i' ((Dl _ _).mp hp)).1
   ·intro h;obtain⟨j,ej⟩:=O.all i h;exact cg.mpr ⟨(j,i),(Dl _ _).mpr ej,rfl⟩
 have hlen:live.length=hs.size:=by simpa using Dj.length_eq
 have hget:∀(i:Nat),((live.map rh).filterMap (hs.toList[·]?))[i]?=(live[i]?).bind λp=>hs.toList[p.2]?:=by
  have gen:∀(l:List (Nat×Nat)),(∀p∈l,p.2<hs.toList.length)->∀(i:Nat),((l.map rh).filterMap (hs.toList[·]?))[i]?=(l[i]?).bind λp=>hs.toList[p.2]?:=by
   intro l
   induction l with
   |nil=>intro _ i;simp
   |cons p l ih=>
    intro hp i;have h1:=hp p (bg ..);have e1:hs.toList[p.2]?=some hs.toList[p.2]:=ay h1;rw[da,br,e1]
    cases i with
    |zero=>simp[e1]
    |succ i=>simp only[tq];exact ih (λq hq=>hp q (au _ hq)) i
  intro i;refine gen live ?_ i
  rintro ⟨j,k⟩ hp
  have:=(O.own j k ((Dl _ _).mp hp)).1;simpa using this
 have hlen':((live.map rh).filterMap (hs.toList[·]?)).length=hs.size:=by
  have gen:∀(l:List (Nat×Nat)),(∀p∈l,p.2<hs.toList.length)->((l.map rh).filterMap (hs.toList[·]?)).length=l.length:=by
   intro l
   induction l with
   |nil=>intro _;rfl
   |cons p l ih=>intro hp;have h1:=hp p (bg ..);have e1:hs.toList[p.2]?=some hs.toList[p.2]:=ay h1;rw[da,br,e1];show(_::_).length=_;rw[cy,cy,ih (λq hq=>hp q (au _ hq))]
  rw[gen live ?_,hlen]
  rintro ⟨j,k⟩ hp
  have:=(O.own j k ((Dl _ _).mp hp)).1;simpa using this
 refine⟨{ mask,place:=(live.map fh).toArray,dummies:=#[],finger,led,moves,plain:=true },(live.map rh).toArray, ?_,rfl,rfl,Dj, ?_⟩
 ·unfold laid;rw[e];show some _=some _;rw[hlive]
 ·refine⟨(by show(live.map fh).toArray.size=((live.map rh).filterMap (hs.toList[·]?)).length;rw[hlen',aw,ba,hlen]),hrise,rfl, ?_,by rw[hlen'];exact hl,g, ?_,rfl⟩
  ·intro j hj;obtain⟨⟨x,y⟩,hp,rfl⟩:=cg.mp (show j∈live.map fh from hj);have:=(Dl _ _).mp hp;obtain⟨hx',_⟩:=du.mp this;have:=O.size;show x<=mask;omega
  ·intro i h j e1 e2;have e1':((live.map rh).filterMap (hs.toList[·]?))[i]?=some h:=e1;rw[hget]at e1';have En:(live.map fh)[i]?=some j:=e2;rw[dk]at En
   cases q:live[i]? with
   |none=>rw[q]at En;cases En
   |some p=>
    obtain⟨x,k⟩:=p;rw[q]at e1' En;simp at e1' En;subst En;have hp:=cu q;obtain⟨a,h',b,c⟩:=O.own x k ((Dl _ _).mp hp);have hh:h'=h:=by
     have:hs.toList[k]?=some h:=by simpa using e1'
     rw[b]at this;exact cw this
    subst hh;refine c.mono' λy hy ho=>?_;obtain⟨i',ei⟩:=(uO (by rw[O.size];omega)).mp ho;exact cg.mpr ⟨(y,i'),(Dl _ _).mpr ei,rfl⟩
end SM
namespace SR
open PySem PySem.Spec PyProof.Rows SM
section
variable{prog:bj}{w:cq}
def hk (prog:bj) (w:cq) (k:Aq):Int:=tupleKeyHash (intKind prog w) k
abbrev KB:=List (Aq×ah)
def hY (prog:bj) (w:cq) (kb:KB):List (Int×af):=kb.map λp=>(hk prog w p.1,ja p.2)
structure Bl (prog:bj) (w:cq) (h:cx) (a:ah) (kb:KB) (o:Obj) (es:Array (Int×af)) (ep:Nat) (t:jc):Prop where
 obj:h.get? a=some o
 ex:o.ExactSet
 data:o.data=.set es ep t
 es:es.toList=hY prog w kb
 tab:Dm t (kb.map λp=>hk prog w p.1)
 nd:(kb.map fh).Nodup
 nf:kb.length*5<t.mask*3
 led:t.led=!w.params.followText "set-order"
def lC (prog:bj) (w:cq) (h:cx) (a:ah) (kb:KB):Prop:=∃o es ep t,Bl prog w h a kb o es ep t
def yA (prog:bj) (w:cq) (h:cx) (kb:KB):Prop:=∀p∈kb,ib (intKind prog w) h p.1 p.2
variable{h:cx}{a:ah}{kb:KB}{o:Obj}{es:Array (Int×af)}{ep:Nat}{t:jc}
theorem Bl.size (P:Bl prog w h a kb o es ep t):es.size=kb.length:=by have:=congrArg qc P.es;simpa[hY]using this
theorem Bl.fits (P:Bl prog w h a kb o es ep t):t.fits es.size=true:=by have:=P.tab.fits;rw[ba]at this;rw[P.size];exact this
theorem Bl.at_ (P:Bl prog w h a kb o es ep t) {i:Nat}{p:Aq×ah}(e:kb[i]?=some p):es[i]?=some (hk prog w p.1,.ref p.2):=by
 have:es.toList[i]?=some (hk prog w p.1,ja p.2):=by rw[P.es];simp[hY,e]
 simpa using this
theorem Bl.hash_at (P:Bl prog w h a kb o es ep t) {i:Nat}{p:Aq×ah}(e:kb[i]?=some p):(es[i]?.map (·.1)).getD 0=hk prog w p.1:=by rw[P.at_ e];rfl
end
section
variable{prog:bj}{w:cq}{A:cm}{E:af->ag->Prop}{s:ag}{a:ah}{kb:KB}{o:Obj}{es:Array (Int×af)}{ep:Nat}{t:jc}
theorem MV {ks:Aq}{b:ah}{Q:Bool->ag->Prop}(hb:ib (intKind prog w) s.heap ks b) (h:Q false s):wpAny (model prog w) A (ofAClassStatement 8 (.ref b)) Q E s:=by
 obtain⟨o,items,n,ho,hc,hd,hi⟩:=hb;unfold ofAClassStatement;refine ae (sf (T := "tuple") ⟨o,ho,hc⟩ ?_);show wpAny _ _ ((if(("tuple" : String) == "tuple")=true then(pure true:Sem Bool)else isSubtype (.type "tuple") (.type "tuple")) >>= _) _ _ s;rw[if_pos (by decide)];refine ae (ai ?_);simp only[pw,cp,if_false];refine ae (jd ho hd ?_);refine ae ?_;show wpAny _ _ (forIn items _ _) _ _ s;rw[<-Ak];refine qi _ (λrest r s'=>r.1=none/\s'=s/\∀v∈rest,carriedByValue v=true) _ ?_ ?_ _ _ ⟨rfl,rfl,hi.byValue⟩
 ·rintro v rest r s' ⟨hr,rfl,Cb⟩
  have hv:=Cb v bg;have e:ofAClassStatement 7 v=pure false:=by
   cases v with
   |ref a=>simp[carriedByValue]at hv
   |_=>rfl
  rw[e];refine ae (ai ?_);simp only[cp,if_false];exact ai ⟨rfl,rfl,λu Bq=>Cb u (au _ Bq)⟩
 ·rintro ⟨r1,r2⟩ s' ⟨hr,rfl,_⟩
  simp only at hr;subst hr;exact ai h
theorem Z9 {k:Aq}{b:ah}{Q:Bool->ag->Prop}(hb:ib (intKind prog w) s.heap k b):∀(l:List af),(∀y∈l,∃k' b',y=.ref b'/\ib (intKind prog w) s.heap k' b')->Q false s->
  wpAny (model prog w) A (searchCouldBeSeen (.ref b) l) Q E s:=by
 intro l hl h;unfold searchCouldBeSeen;refine ae ?_;refine qi _ (λrest r s'=>r.1=none/\s'=s/\∀y∈rest,∃k' b',y=.ref b'/\ib (intKind prog w) s.heap k' b') _ ?_ ?_ _ _ ⟨rfl,rfl,hl⟩
 ·rintro y rest r s' ⟨hr,rfl,Cb⟩
  obtain⟨k',b',rfl,hb'⟩:=Cb y bg;have fin:r.1=none/\s'=s'/\∀y∈rest,∃k' b',y=.ref b'/\ib (intKind prog w) s'.heap k' b':=⟨hr,rfl,λu hu=>Cb u (au _ hu)⟩
  dsimp only
  split
  ·exact ai ⟨rfl,rfl,fin.2.2⟩
  ·refine ae (wpAny_eqIsQuiet_tuple hb ?_);simp only[pw,cp,if_false];refine ae (wpAny_eqIsQuiet_tuple hb' ?_);simp only[pw,cp,if_false];refine ae (MV hb ?_);simp only[cp,if_false];refine ae (MV hb' ?_);simp only[cp,if_false];exact ai ⟨rfl,rfl,fin.2.2⟩
 ·rintro ⟨r1,r2⟩ s' ⟨hr,rfl,_⟩
  simp only at hr;subst hr;exact ai h
end
section
variable{prog:bj}{w:cq}{A:cm}{E:af->ag->Prop}{s:ag}{a:ah}{kb:KB}{o:Obj}{es:Array (Int×af)}{ep:Nat}{t:jc}{k:Aq}{b:ah}
theorem mem_keys {kb:KB}{k:Aq}:k∈kb.map fh↔∃(i:Nat) (b:ah),kb[i]?=some (k,b):=by
 constructor
 ·intro h;obtain⟨⟨k',b⟩,hp,rfl⟩:=cg.mp h;obtain⟨i,hi,e⟩:=jw hp;exact⟨i,b,by rw[ay hi,e]⟩
 ·rintro ⟨i,b,e⟩
  exact cg.mpr ⟨(k,b),cu e,rfl⟩
theorem a9 (P:Bl prog w s.heap a kb o es ep t) (T:yA prog w s.heap kb) (hb:ib (intKind prog w) s.heap k b) (hu:A.units<cLine) {Q:SetFound->ag->Prop}
  (Cz:k∈kb.map fh->Q (.there none) s)
  (Ck:k∉kb.map fh->∀n,pr t.mask (hk prog w k) n∉t.place.toList->(∀m,m<n->pr t.mask (hk prog w k) m∈t.place.toList)->Q (.free (pr t.mask (hk prog w k) n) false) s)
  (N:Nat) (hN:N<10*ug t.mask) (hNe:pr t.mask (hk prog w k) N∉t.place.toList):
  ∀(fuel n:Nat) (stand:Option SetTable.Probe),stand.getD (t.probeStart (hk prog w k))=dW t.mask (hk prog w k) n->n<=N->N - n<fuel->
   (∀l,l<n->pr t.mask (hk prog w k) l∈t.place.toList/\∀(i:Nat) p,t.place.toList[i]?=some (pr t.mask (hk prog w k) l)->kb[i]?=some p->p.1≠k)->
   wpAny (model prog w) A (setSearchFrom a (.ref b) (hk prog w k) true fuel stand) Q E s:=by
 intro fuel
 induction fuel with
 |zero=>intro n stand _ _ h2;omega
 |succ f ih=>
  intro n stand Fb h1 h2 hseen;have hlen:t.place.toList.length=kb.length:=by have:=P.tab.size;simpa using this
  have kbat:∀{i j:Nat},t.place.toList[i]?=some j->∃p,kb[i]?=some p:=λ{i j} e=>by obtain⟨hi,_⟩:=ax.mp e;exact⟨kb[i]'(by omega),ay (by omega)⟩
  unfold setSearchFrom;refine ae (jx P.obj P.data P.fits ?_);dsimp only;rw[P.tab.gave];simp only[cp,if_false];obtain⟨m,a1,a2,a3,a4⟩:=Z2 P.tab (λi=>(es[i]?.map (·.1)).getD 0) (hk prog w k) (10*ug t.mask) n N h1 (by omega) hNe;have pass:∀l,l<m->pr t.mask (hk prog w k) l∈t.place.toList/\∀(i:Nat) p,t.place.toList[i]?=some (pr t.mask (hk prog w k) l)->kb[i]?=some p->p.1≠k:=by
   intro l hl
   rcases jo l n with q|q
   ·exact hseen l q
   ·obtain⟨b1,b2⟩:=a3 l q hl;refine⟨b1,λi p e1 e2 e3=>b2 i e1 ?_⟩;show(es[i]?.map (·.1)).getD 0=_;rw[P.hash_at e2,e3]
  rcases a4 with⟨b1,b2⟩|⟨i,b1,b2,b3⟩
  ·have e:∀g:Nat->Int,g=(λi=>(es[i]?.map (·.1)).getD 0)->t.probe g (hk prog w k) (stand.getD (t.probeStart (hk prog w k)))=some (.empty (pr t.mask (hk prog w k) m) none):=by rintro g rfl;rw[Fb];exact b2
   rw[e]
   rotate_left
   ·rfl
   refine ai (Ck ?_ m b1 λl hl=>(pass l hl).1);intro Dl;obtain⟨i,b',ei⟩:=mem_keys.mp Dl;obtain⟨j,ej⟩:∃j,t.place.toList[i]?=some j:=by obtain⟨hi,_⟩:=ax.mp ei;exact⟨_,ay (by omega)⟩
   obtain⟨n',hn',e'⟩:=P.tab.before (i:=i) (h:=hk prog w k) (by rw[dk,ei];rfl) ej b1;exact(pass n' hn').2 i (k,b') (by rw[e'];exact ej) ei rfl
  ·have e:∀g:Nat->Int,g=(λi=>(es[i]?.map (·.1)).getD 0)->t.probe g (hk prog w k) (stand.getD (t.probeStart (hk prog w k)))=some (.candidate (pr t.mask (hk prog w k) m) i (dW t.mask (hk prog w k) (m+1))):=by rintro g rfl;rw[Fb];exact b3
   rw[e]
   rotate_left
   ·rfl
   dsimp only;obtain⟨p,ep'⟩:=kbat b1;have hp:=T p (cu ep');have es1:t.sameMemory t.moves t.mask=some true:=by unfold SetTable.sameMemory;simp
   obtain⟨i2,e2,e3⟩:=P.tab.slot_live (cu b1);have hi2:i2=i:=DL P.tab.rise e3 b1;subst hi2;have lI:¬ p.1=k->wpAny (model prog w) A (setSearchFrom a (.ref b) (hk prog w k) true f (some (dW t.mask (hk prog w k) (m+1)))) Q E s:=by
    intro hpk;have hmN:m≠N:=by rintro rfl;exact hNe (cu b1)
    refine ih (m+1) _ rfl (by omega) (by omega) ?_
    ·intro l hl
     rcases jo l m with q|q
     ·exact pass l q
     ·have:l=m:=by omega
      subst this;refine⟨cu b1,λi' p' z1 z2=>?_⟩;have:i'=i2:=DL P.tab.rise z1 b1;subst this;rw[ep']at z2;cases z2;exact hpk
   cases hl:t.led
   case' true=>simp only[pw,cp,if_false]
   case' false=>
    simp only[Bool.not_false,if_true];refine ae (Z9 hb _ ?_ ?_)
    ·intro y hy;obtain⟨e1,he1,rfl⟩:=cg.mp hy;have Ed:=(Array.mem_filter.mp (zr.mp he1)).1;have he3:e1∈hY prog w kb:=by rw[<-P.es];exact zr.mpr Ed
     obtain⟨q,hq,rfl⟩:=cg.mp he3;exact⟨q.1,q.2,rfl,T q hq⟩
    simp only[cp,if_false]
   all_goals
    rw[P.at_ ep'];dsimp only;refine ae (gw (wpAny_eqBool_tuple hu hp hb ?_));refine ae (jx P.obj P.data P.fits ?_);dsimp only
    by_cases hpk:p.1=k
    ·rw[decide_eq_true hpk];simp only[Bool.true_and,if_true];exact ai (Cz (mem_keys.mpr ⟨i2,p.2,by rw[ep',<-hpk]⟩))
    ·rw[decide_eq_false hpk];simp only[qw,cp,if_false];rw[es1];dsimp only;simp only[if_true];rw[e2];dsimp only;rw[P.at_ ep'];dsimp only;refine ae (wpAny_isSame_ref_self ?_);refine ae (ai ?_);simp only[if_true];exact lI hpk
theorem c7 (P:Bl prog w s.heap a kb o es ep t) (T:yA prog w s.heap kb) (hb:ib (intKind prog w) s.heap k b) (hu:A.units<cLine) {Q:SetFound->ag->Prop}
  (Cz:k∈kb.map fh->Q (.there none) s)
  (Ck:k∉kb.map fh->∀n,pr t.mask (hk prog w k) n∉t.place.toList->(∀m,m<n->pr t.mask (hk prog w k) m∈t.place.toList)->Q (.free (pr t.mask (hk prog w k) n) false) s):
  wpAny (model prog w) A (setSearch a (.ref b) (hk prog w k) true) Q E s:=by
 obtain⟨N,hN,hNe⟩:=P.tab.stops (hk prog w k);have hm:10*ug t.mask<=1420:=by
  unfold ug
  rcases P.tab.msk with e|e|e <;> rw[e] <;> decide
 exact a9 P T hb hu Cz Ck N hN hNe 100000 0 none rfl (ig _) (by omega) λl hl=>absurd hl (by omega)
theorem c8 {Q:Bool->ag->Prop}(hb:ib (intKind prog w) s.heap k b) (h:Q true s):wpAny (model prog w) A (hashByValue 8 (.ref b)) Q E s:=by
 have hT:=hb.typeIs;obtain⟨o,items,n,ho,hc,hd,hi⟩:=hb;unfold hashByValue;refine ae (wpAny_specialOf hT F.slot_tuple_hash.lookup ?_);dsimp only;refine ae (jd ho hd ?_);refine ae ?_;show wpAny _ _ (forIn items _ _) _ _ s;rw[<-Ak];have hv:∀v∈items.toList,∃i t,v=.int i t:=by
  clear hd ho
  generalize items.toList=l at hi
  induction hi with
  |nil=>intro v h;cases h
  |cons h1 _ ih=>
   intro v hv
   rcases bh.mp hv with rfl|hv
   ·obtain⟨t,e⟩:=oh h1;exact⟨_,t,e⟩
   ·exact ih v hv
 refine qi _ (λrest r s'=>r.1=none/\s'=s/\∀v∈rest,∃i t,v=.int i t) _ ?_ ?_ _ _ ⟨rfl,rfl,hv⟩
 ·rintro v rest r s' ⟨hr,rfl,Cb⟩
  obtain⟨i,t,rfl⟩:=Cb v bg;refine ae (ai ?_);simp only[pw,cp,if_false];exact ai ⟨rfl,rfl,λu Bq=>Cb u (au _ Bq)⟩
 ·rintro ⟨r1,r2⟩ s' ⟨hr,rfl,_⟩
  simp only at hr;subst hr;exact ai h
end
section
variable{prog:bj}{w:cq}{A:cm}{E:af->ag->Prop}{s:ag}{a:ah}{kb:KB}{o:Obj}{es:Array (Int×af)}{ep:Nat}{t:jc}{k:Aq}{b:ah}
theorem c9 (p:Nat):(hY prog w kb).take p++(hk prog w k,ja b)::(hY prog w kb).drop p=hY prog w (kb.take p++(k,b)::kb.drop p):=by simp[hY,yu,vm]
theorem d6 (p:Nat):(kb.map λq=>hk prog w q.1).take p++hk prog w k::(kb.map λq=>hk prog w q.1).drop p=(kb.take p++(k,b)::kb.drop p).map λq=>hk prog w q.1:=by simp[yu,vm]
theorem yB {α:Type}(l:List α) (x:α) (p:Nat):(l.take p++x::l.drop p).Perm (x::l):=by have h:(l.take p++x::l.drop p).Perm (x::(l.take p++l.drop p)):=List.perm_middle;rwa [zq]at h
theorem DN {p:Nat}(h:(kb.map fh).Nodup) (hk:k∉kb.map fh):((kb.take p++(k,b)::kb.drop p).map fh).Nodup:=by have q:=(yB kb (k,b) p).map fh;exact q.nodup_iff.mpr (jv.mpr ⟨hk,h⟩)
theorem MW {es':Array (Int×af)}{t':jc}(hd:o.data=.set es ep t) (ho:s.heap.get? a=some o):(s.heap.update a (Obj.putSet es' t')).get? a=some { o with data:=.set es' (ep+1) t' }:=by have:=ka (Obj.putSet es' t') ho (by rw[putSet_of es' t' hd];rfl);rw[putSet_of es' t' hd]at this;exact this
theorem MX {α:Type}:∀(l:List α),(bf l.length).filterMap (λi=>l[i]?)=l
 | []=>rfl
 |x::l=>by
  rw[cy,om,br];simp only[tw,qv]
  congr 1
  exact MX l
theorem MY {kb:KB}{mask' wanted:Nat}{Q:Unit->ag->Prop}(ho:s.heap.get? a=some o) (hex:o.ExactSet) (hd:o.data=.set es ep t) (hes:es.toList=hY prog w kb) (hT:Dm t (kb.map λp=>hk prog w p.1)) (nd:(kb.map fh).Nodup) (hled:t.led=!w.params.followText "set-order")
  (hw:ze wanted - 1=mask') (hg:mE mask') (hl:kb.length*5<mask'*3) (hz:ze wanted<=cf)
  (h:∀h' Ef,jf a s.heap h'->lC prog w h' a Ef->Ef.Perm kb->Q () { s with heap:=h' }):
  wpAny (model prog w) A (setRelay a wanted) Q E s:=by
 have Cf:es.size=kb.length:=by have:=congrArg qc hes;simpa[hY]using this
 have hfit:t.fits es.size=true:=by have:=hT.fits;rw[ba]at this;rw[Cf];exact this
 have eh:(es.map (·.1)).toList=kb.map λp=>hk prog w p.1:=by rw[Array.toList_map,hes];simp[hY]
 have hs':(es.map (·.1)).size=kb.length:=by simp[Cf]
 unfold setRelay;refine ae (jx ho hd hfit ?_);dsimp only;rw[if_neg (by omega)];obtain⟨t',order,e1,e2,e3,e4,e5⟩:=Z8 (mask:=mask') (finger:=t.finger) (moves:=t.movedTo mask') (led:=t.led) (hs:=es.map (·.1)) hg (by rw[hs'];omega);have er:t.relaid (es.map (·.1)) wanted=some (t',order):=by unfold SetTable.relaid;rw[hw,hT.plain];exact e1
 rw[er];have hlt:∀i∈order.toList,i<kb.length:=λi hi=>by have:=bx.mp (e4.mem_iff.mp hi);omega
 have hfm:∀(l:As),(∀i∈l,i<kb.length)->l.filterMap (λi=>es[i]?)=hY prog w (l.filterMap λi=>kb[i]?):=by
  intro l hl
  induction l with
  |nil=>rfl
  |cons i l ih=>
   have hi:=hl i bg;have q1:kb[i]?=some kb[i]:=ay hi;have q2:es[i]?=some (hk prog w kb[i].1,ja kb[i].2):=by
    have:es.toList[i]?=some (hk prog w kb[i].1,ja kb[i].2):=by rw[hes];simp[hY,q1]
    simpa using this
   rw[br,br,q1,q2];simp only;rw[ih λj hj=>hl j (au _ hj)];rfl
 have hkey:∀(l:As),(∀i∈l,i<kb.length)->l.filterMap (λi=>(es.map (·.1)).toList[i]?)=(l.filterMap λi=>kb[i]?).map λp=>hk prog w p.1:=by
  intro l hl
  induction l with
  |nil=>rfl
  |cons i l ih=>
   have hi:=hl i bg;have q1:kb[i]?=some kb[i]:=ay hi;have q2:(es.map (·.1)).toList[i]?=some (hk prog w kb[i].1):=by rw[eh];simp[q1]
   rw[br,br,q1,q2];simp only;rw[ih λj hj=>hl j (au _ hj)];rfl
 have Dj:(order.toList.filterMap λi=>kb[i]?).Perm kb:=by have q:=e4.filterMap (λi=>kb[i]?);rw[hs']at q;exact q.trans (List.Perm.of_eq (MX kb))
 have hes2:(order.filterMap (es[·]?)).toList=hY prog w (order.toList.filterMap λi=>kb[i]?):=by rw[Array.toList_filterMap];exact hfm _ hlt
 have hsz2:(order.filterMap (es[·]?)).size=es.size:=by have:=congrArg qc hes2;rw[nc]at this;rw[this,Cf];simp[hY,Dj.length_eq]
 show wpAny _ _ ((if((order.filterMap (es[·]?)).size != es.size)=true then(unsupported "internal:set-table-lost-an-element" >>= λ_=>pure (order.filterMap (es[·]?),t'))else pure (order.filterMap (es[·]?),t')) >>= _) _ _ s;rw[if_neg (by rw[hsz2];simp)];refine ae (ai ?_);dsimp only;refine wpAny_storeSet_of ho hd ?_ (by rw[hsz2,Cf];rcases hg with q|q|q <;> (rw[q]at hl;rw[kr];omega));refine h _ (order.toList.filterMap λi=>kb[i]?) (ow ..) ⟨_,_,_,t',MW hd ho,hex,rfl,hes2, ?_, ?_, ?_,e3.trans hled⟩ Dj
 ·rw[<-hkey _ hlt];exact e5
 ·exact(Dj.map fh).nodup_iff.mpr nd
 ·rw[Dj.length_eq,e2];exact hl
theorem d7 (P:Bl prog w s.heap a kb o es ep t) (T:yA prog w s.heap kb) (hb:ib (intKind prog w) s.heap k b) (hu:A.units<cLine) (h76:k∉kb.map fh->kb.length+1<=76) {Q:Bool->ag->Prop}
  (h:∀h' Ef r,jf a s.heap h'->lC prog w h' a Ef->(k∈kb.map fh->Ef.Perm kb)->(k∉kb.map fh->Ef.Perm ((k,b)::kb))->Q r { s with heap:=h' }):
  wpAny (model prog w) A (setAddHashed a (.ref b) (hk prog w k)) Q E s:=by
 unfold setAddHashed;refine gw ?_;unfold setAddHashedIn;refine ae (jx P.obj P.data P.fits ?_);dsimp only;have hbs:byScan (.ref b) es=false:=by simp[byScan,Value.scannable]
 rw[hbs];simp only[cp,if_false];refine ae (c7 P T hb hu (λCz=>?_) λCk n hn hw=>?_)
 ·dsimp only;refine ai ?_;have:=h s.heap kb false (uw ..) ⟨o,es,ep,t,P⟩ (λ_=>.refl _) λq=>absurd Cz q;exact this
 ·dsimp only;refine ae (jx P.obj P.data P.fits ?_);dsimp only;rw[Z3 P.tab.nod];dsimp only;rw[if_pos P.tab.plain];refine ae (c8 hb ?_);simp only[if_true];have hlen:=P.nf;have hmask:=P.tab.msk;have hroom:(kb.map λp=>hk prog w p.1).length+1<=t.mask:=by
   rw[ba]
   rcases hmask with q|q|q <;> (rw[q]at hlen ⊢;omega)
  have T2:=P.tab.put (h:=hk prog w k) (n:=n) hn hw hroom;have hbl:=(uM (j:=pr t.mask (hk prog w k) n) P.tab.rise).2.2;generalize hp:uh t.place (pr t.mask (hk prog w k) n)=p at T2 hbl ⊢;rw[d6 (b:=b)]at T2;have hesl:(jq es p (hk prog w k,ja b)).toList=hY prog w (kb.take p++(k,b)::kb.drop p):=by rw[uN _ _ _ (by rw[P.size,<-show t.place.size=kb.length from by have:=P.tab.size;simpa using this];exact hbl),P.es,c9]
  have Cf:(jq es p (hk prog w k,ja b)).size=kb.length+1:=by have:=congrArg qc hesl;simp only[hY,ba,nc]at this;rw[this,(yB kb (k,b) p).length_eq];rfl
  refine ae (wpAny_storeSet_of P.obj P.data ?_ (by rw[Cf,kr];have:=h76 Ck;omega));have Ek:(kb.take p++(k,b)::kb.drop p).length=kb.length+1:=(yB kb (k,b) p).length_eq;have ho2:=MW (s:=s) (es':=jq es p (hk prog w k,ja b)) (t':={ t with place:=jq t.place p (pr t.mask (hk prog w k) n) }) P.data P.obj;have fill:({ t with place:=jq t.place p (pr t.mask (hk prog w k) n) }:jc).tooFull=decide ((kb.length+1)*5>=t.mask*3):=by unfold SetTable.tooFull SetTable.fill;have e1:=T2.size;rw[ba,Ek]at e1;have e1':(jq t.place p (pr t.mask (hk prog w k) n)).size=kb.length+1:=e1;dsimp only;rw[P.tab.nod,e1'];rfl
  simp only[Bool.not_false,Bool.true_and];rw[fill];have fin:∀h' Ef,jf a (s.heap.update a (Obj.putSet (jq es p (hk prog w k,ja b)) { t with place:=jq t.place p (pr t.mask (hk prog w k) n) })) h'->lC prog w h' a Ef->
    Ef.Perm (kb.take p++(k,b)::kb.drop p)->Q true { s with heap:=h' }:=λh' Ef sb st pm=>
   h h' Ef true ((ow ..).trans sb) st (λq=>absurd q Ck) λ_=>pm.trans (yB kb (k,b) p)
  by_cases full:(kb.length+1)*5>=t.mask*3
  ·rw[decide_eq_true full,if_pos rfl];have h76':=h76 Ck;have hcase:(t.mask=7/\kb.length=4)∨(t.mask=31/\kb.length=18):=by
    rcases hmask with q|q|q
    ·left;rw[q]at hlen full;exact⟨q,by omega⟩
    ·right;rw[q]at hlen full;exact⟨q,by omega⟩
    ·rw[q]at full;omega
   have es0:es.size=kb.length:=P.size
   rcases hcase with⟨q1,q2⟩|⟨q1,q2⟩
   ·refine ae (MY (mask':=31) (kb:=kb.take p++(k,b)::kb.drop p) ho2 P.ex rfl hesl T2 (DN P.nd Ck) P.led (by rw[es0,q2];decide) (.inr (.inl rfl)) (by rw[Ek,q2];decide) (by rw[es0,q2,kr];decide) λh' Ef sb st pm=>ai (fin h' Ef sb st pm))
   ·refine ae (MY (mask':=127) (kb:=kb.take p++(k,b)::kb.drop p) ho2 P.ex rfl hesl T2 (DN P.nd Ck) P.led (by rw[es0,q2];decide) (.inr (.inr rfl)) (by rw[Ek,q2];decide) (by rw[es0,q2,kr];decide) λh' Ef sb st pm=>ai (fin h' Ef sb st pm))
  ·rw[decide_eq_false full,if_neg ie];refine ai (fin _ _ (uw ..) ⟨_,_,_,_,ho2,P.ex,rfl,hesl,T2,DN P.nd Ck, ?_,P.led⟩ (.refl _));rw[Ek];exact Nat.lt_of_not_le full
end
theorem Bl.keep {prog:bj}{w:cq}{h h':cx}{a:ah}{kb:KB}(S:lC prog w h a kb) (k:∀o,h.get? a=some o->h'.get? a=some o):lC prog w h' a kb:=by obtain⟨o,es,ep,t,P⟩:=S;exact⟨o,es,ep,t,k o P.obj,P.ex,P.data,P.es,P.tab,P.nd,P.nf,P.led⟩
theorem yC {prog:bj}{w:cq}{h h':cx}{ks:Aq}{a:ah}(x:ib (intKind prog w) h ks a) (k:∀o,h.get? a=some o->h'.get? a=some o):ib (intKind prog w) h' ks a:=by obtain⟨o,items,n,ho,r⟩:=x;exact⟨o,items,n,k o ho,r⟩
section
variable{prog:bj}{w:cq}{A:cm}{R:yh->ag->Prop}{I:ah}{fp wr:List ah}{n:Nat}{P:Nat->af->Prop}{St:Nat->cx->Prop}
structure Upto (ky:Nat->Aq) (ad:Nat->ah) (i:Nat) (kb:KB):Prop where
 from_:∀p∈kb,∃j,j<i/\p=(ky j,ad j)
 all:∀j,j<i->ky j∈kb.map fh
theorem d8 (W:Walks prog w A.in1 I fp wr n P St) (S:ah) (hSf:S∉fp) (ad:Nat->ah) (ky:Nat->Aq) (hval:∀i v,P i v->v=.ref (ad i)) (hu:A.units+2<cLine)
  (U:Ap) (hU:U.length<=76) (hky:∀i,i<n->ky i∈U) (hS:∀i,i<n->ad i≠S/\ad i∉wr):
  ∀(m i:Nat) (s:ag) (kb:KB),n - i=m->i<=n->St i s.heap->lC prog w s.heap S kb->Upto ky ad i kb->(∀j,j<n->ib (intKind prog w) s.heap (ky j) (ad j))->
   (∀h' tk Ef,(∀b o,b∉S::wr->s.heap.get? b=some o->h'.get? b=some o)->lC prog w h' S Ef->Upto ky ad n Ef->R (.ok (.ret .none)) { s with heap:=h',toks:=tk })->
   codeAny (model prog w) A (.builtin "set.update.loop" ⟨[.ref S,.ref I],[]⟩) R s:=by
 have hSw:S∉wr:=λh=>hSf (W.sub _ h);intro m
 induction m with
 |zero=>
  intro i s kb hk hi Fb hT Er El hR;have Cz:i=n:=by omega
  subst Cz;refine mq F.entry_set_update_loop ?_;rw[kd F.plain_set_update_loop _];show wpAny _ A.in1 (pyNext (.ref I) >>= _) _ _ s;refine ae (W.done s _ _ Fb λh' tk hm=>?_);exact ai (hR h' tk kb (λb o hb e=>hm b o (λz=>hb (au _ z)) e) (Bl.keep hT λo e=>hm S o hSw e) Er)
 |succ m ih=>
  intro i s kb hk hi Fb hT Er El hR;have hlt:i<n:=by omega
  refine mq F.entry_set_update_loop ?_;rw[kd F.plain_set_update_loop _];show wpAny _ A.in1 (pyNext (.ref I) >>= _) _ _ s;refine ae (W.item i s _ _ hlt Fb λv h' tk hP hst' hm=>?_);have ev:=hval i v hP;subst ev;have hT':lC prog w h' S kb:=Bl.keep hT λo e=>hm S o hSw e;have Ec:∀j,j<n->ib (intKind prog w) h' (ky j) (ad j):=λj hj=>yC (El j hj) λo e=>hm _ o (hS j hj).2 e;show wpAny _ A.in1 (holding [ja (ad i)] (setAdd S (.ref (ad i))) >>= _) _ _ _;refine ae (gw ?_);unfold setAdd;refine gw ?_;refine ae (wpAny_pyHash_tuple (s:={ s with heap:=h',toks:=tk }) (show A.in1.units<cLine by show A.units+1<cLine;omega) (Ec i hlt) ?_);obtain⟨o,es,ep,t,Pt⟩:=hT';have tups:yA prog w h' kb:=λp hp=>by obtain⟨j,hj,rfl⟩:=Er.from_ p hp;exact Ec j (by omega)
  have hsub:∀x∈kb.map fh,x∈U:=λx hx=>by obtain⟨p,hp,rfl⟩:=cg.mp hx;obtain⟨j,hj,rfl⟩:=Er.from_ p hp;exact hky j (by omega)
  refine d7 (s:={ s with heap:=h',toks:=tk+((ky i).length+1) }) (a:=S) (k:=ky i) (b:=ad i) Pt tups (Ec i hlt) (by show A.units+1<cLine;omega) (λCk=>?_) λh2 kb2 r sb hT2 q1 q2=>?_
  ·have nd:(ky i::kb.map fh).Nodup:=jv.mpr ⟨Ck,Pt.nd⟩;have:=nd.length_le_of_subset (l₂:=U) λx hx=>by
    rcases bh.mp hx with rfl|hx
    ·exact hky i hlt
    ·exact hsub x hx
   simp at this;omega
  ·have hup2:Upto ky ad (i+1) kb2:=by
    by_cases Cz:ky i∈kb.map fh
    ·have pm:=q1 Cz;refine⟨λp hp=>?_,λj hj=>?_⟩
     ·obtain⟨j,hj,e⟩:=Er.from_ p (pm.mem_iff.mp hp);exact⟨j,by omega,e⟩
     ·rw[(pm.map fh).mem_iff]
      rcases jo j i with z|z
      ·exact Er.all j z
      ·have:j=i:=by omega
       subst this;exact Cz
    ·have pm:=q2 Cz;refine⟨λp hp=>?_,λj hj=>?_⟩
     ·rcases bh.mp (pm.mem_iff.mp hp)with z|z
      ·exact⟨i,by omega,z⟩
      ·obtain⟨j,hj,e⟩:=Er.from_ p z;exact⟨j,by omega,e⟩
     ·rw[(pm.map fh).mem_iff,da,bh]
      rcases jo j i with z|z
      ·exact .inr (Er.all j z)
      ·have:j=i:=by omega
       subst this;exact .inl rfl
   refine ai ⟨wy F.plain_set_update_loop _,ih (i+1) _ kb2 (by omega) hlt (W.frame _ _ _ hst' λb hb o e=>?_) hT2 hup2 (λj hj=>?_) λh3 tk3 kb3 k3 hT3 hup3=>?_⟩
   ·rw[sb.2 b (λz:b=S=>hSf (by rw[<-z];exact hb))];exact e
   ·exact yC (Ec j hj) λo e=>(sb.2 _ (hS j hj).1).trans e
   ·refine hR h3 tk3 kb3 (λb o hb e=>k3 b o hb ?_) hT3 hup3;exact(sb.2 b λz=>hb (by rw[z];exact bg)).trans (hm b o (λz=>hb (au _ z)) e)
end
theorem walk_slots:Slot "set" "__iter__" "set.__iter__"/\Slot "set_iterator" "__next__" "set_iterator.__next__"/\Slot "set_iterator" "__iter__" "set_iterator.__iter__"/\Slot "set" "__len__" "set.__len__":=by
 refine⟨Slot.of (owner := "set") (n := "__iter__") ?_ ?_ ?_ ?_ ?_ ?_,Slot.of (owner := "set_iterator") (n := "__next__") ?_ ?_ ?_ ?_ ?_ ?_,Slot.of (owner := "set_iterator") (n := "__iter__") ?_ ?_ ?_ ?_ ?_ ?_,Slot.of (owner := "set") (n := "__len__") ?_ ?_ ?_ ?_ ?_ ?_⟩
 all_goals first
  |decide +kernel
  |(rw[typeLookup_type,builtinLookup_eq_fast];kernel_rfl)
  |(rw[isSubtype_type];kernel_rfl)
  |(left;decide +kernel)
  |(right;decide +kernel)
theorem yD (a:af):argsOk "set.__iter__" ⟨[a],[]⟩/\argsOk "set_iterator.__next__" ⟨[a],[]⟩/\argsOk "set_iterator.__iter__" ⟨[a],[]⟩:=by refine⟨?_, ?_, ?_⟩ <;> unfold argsOk <;> kernel_rfl
theorem MZ:entryFor table "set_iterator.__next__" = some nq.«set_iterator.__next__»:=entryFor_of_fast (by kernel_rfl)
theorem d9:entryFor table "set.__iter__" = some nq.«frozenset.__iter__»:=entryFor_alias (id' := "frozenset.__iter__") (by kernel_rfl) rfl (by decide +kernel) (by kernel_rfl)
theorem h8:entryFor table "set_iterator.__iter__" = some nq.«dict_keyiterator.__iter__»:=entryFor_alias (id' := "dict_keyiterator.__iter__") (by kernel_rfl) rfl (by decide +kernel) (by kernel_rfl)
theorem erase_perm {α:Type}:∀(l:List α) (i:Nat) (h:i<l.length),(l[i]::l.eraseIdx i).Perm l
 | [],_,h=>absurd h (by simp)
 |x::r,0,_=>.refl _
 |x::r,i+1,h=>by have ih:=erase_perm r i (by simpa using h);show((r[i]'(by simpa using h))::x::r.eraseIdx i).Perm (x::r);exact(List.Perm.swap _ _ _).trans (ih.cons x)
theorem M3 {α:Type}(next:Nat->Nat):∀(fuel k:Nat) (l:List α) (out:Array α),l.length<=fuel->(xv next fuel k l out).toList.Perm (out.toList++l)
 |0,k,l,out,h=>by have:l=[]:=ua.mp (by omega);subst this;rw[xv];simp
 |fuel+1,k,l,out,h=>by
  rw[xv]
  cases l with
  |nil=>simp
  |cons x r=>have hlt:next k % (x::r).length<(x::r).length:=Nat.mod_lt _ (by simp);rw[ay hlt];dsimp only;refine(M3 next fuel (k+1) _ _ (by rw[yc hlt];omega)).trans ?_;rw[Array.toList_push,oj];refine yd _ ?_;exact erase_perm _ _ hlt
theorem i5 {α:Type}(next:Nat->Nat) (xs:Array α):(pickOrder next xs).toList.Perm xs.toList:=by unfold pickOrder;have:=M3 next xs.size 0 xs.toList #[] (by simp);simpa using this
section
variable{prog:bj}{w:cq}
def jF (w:cq) (a:ah) (ep:Nat) (es:Array (Int×af)):Array (Int×af):=if w.params.followText "set-order" then pickOrder (w.params.setOrder a ep) es else es
theorem M4 (w:cq) (a:ah) (ep:Nat) (es:Array (Int×af)):(jF w a ep es).toList.Perm es.toList:=by
 unfold jF
 split
 ·exact i5 _ _
 ·exact .refl _
theorem yE (w:cq) (a:ah) (ep:Nat) (es:Array (Int×af)):(jF w a ep es).size=es.size:=by simpa using(M4 w a ep es).length_eq
def hZ (w:cq) (t:jc) (i:Nat):Nat:=if w.params.followText "set-order" then 0 else match i with|0=>0|j+1=>t.place.getD j 0+1
def kG (a:ah) (slot i n ep:Nat):Obj:={ cls:=.type "set_iterator",data:=.fields #[rawInt slot,rawInt i,.ref a,rawInt n,rawInt ep] }
theorem i6 {t:jc}{hs:Aq}(T:Dm t hs) (hb:w.params.followText "set-order" = false) {i:Nat}(hi:i<=t.place.size):uh t.place (hZ w t i)=i:=by
 obtain⟨h1,h2,h3⟩:=uM (j:=hZ w t i) T.rise;have mono:∀a b (ha:a<t.place.size) (hb:b<t.place.size),a<b->t.place[a]<t.place[b]:=by intro a b ha hb Dr;have:=iu.mp T.rise a b (by simpa using ha) (by simpa using hb) Dr;simpa using this
 unfold hZ at h1 h2 h3 ⊢;rw[hb]at h1 h2 h3 ⊢;simp only[cp,if_false]at h1 h2 h3 ⊢
 cases i with
 |zero=>
  dsimp only at h1 h2 h3 ⊢;generalize uh t.place 0=r at h1 h2 h3 ⊢
  cases r with
  |zero=>rfl
  |succ r=>have:=h1 r (by omega) (by omega);omega
 |succ j=>
  dsimp only at h1 h2 h3 ⊢;have hj:j<t.place.size:=by omega
  have ej:t.place.getD j 0=t.place[j]:=by simp[lb,hj]
  rw[ej]at h1 h2 h3 ⊢;generalize uh t.place (t.place[j]+1)=r at h1 h2 h3 ⊢
  rcases Nat.lt_trichotomy r (j+1)with q|q|q
  ·have:=h2 j hj (by omega);omega
  ·exact q
  ·have:=h1 (j+1) (by omega) q;have:=mono j (j+1) hj (by omega) (by omega);omega
end
section
variable{prog:bj}{w:cq}{A:cm}{E:af->ag->Prop}{s:ag}{a it:ah}{kb:KB}{o:Obj}{es:Array (Int×af)}{ep:Nat}{t:jc}
theorem i7 {Q:Bool->ag->Prop}(P:Bl prog w s.heap a kb o es ep t) (h:Q false s):wpAny (model prog w) A (setDrawn a) Q E s:=by
 unfold setDrawn setsByText;refine ae (jx P.obj P.data P.fits ?_);dsimp only;refine ae (ae (nr (ai ?_)));have e:(!(w.params.followText "set-order")&&((!t.plain)&&decide (es.size>1)))=false:=by rw[P.tab.plain];simp
 show wpAny _ _ (pure (!(w.params.followText "set-order")&&((!t.plain)&&decide (es.size>1)))) _ _ s;rw[e];exact ai h
theorem i8 {Q:af->ag->Prop}(P:Bl prog w s.heap a kb o es ep t) (h:Q (.ref s.heap.objs.size) { s with heap:=s.heap.push (kG a 0 0 es.size ep) }):
  wpAny (model prog w) A (pyIter (.ref a)) Q E s:=by
 have hT:s.TypeIs (.ref a) "set" := ⟨o,P.obj,P.ex.1⟩;refine wpAny_pyIter_slot hT walk_slots.1 (gy walk_slots.1 hT d9 ?_ (yD _).1);unfold nq.«frozenset.__iter__» Builtin.Frozenset.slot0;refine ae (m:=(do Builtin.Frozenset.addrOf (<-slotArgs "__iter__" 0 ⟨[.ref a],[]⟩).1:Sem ah)) (ai ?_);unfold Builtin.Frozenset.sizeOf;refine ae (ae (wq P.obj P.data P.fits (ai ?_)));refine ae (i7 P ?_);simp only[cp,if_false];refine ae (ai ?_);refine ae (wpAny_setEpoch_of P.obj P.data P.fits ?_);refine ae (fz ?_ (by size_fits));refine ai ⟨_,rfl,"set_iterator",_,⟨_,bc _ rfl,rfl⟩,walk_slots.2.1.lookup,h⟩
end
section
variable{prog:bj}{w:cq}{A:cm}{E:af->ag->Prop}{s:ag}{a it:ah}{kb:KB}{o:Obj}{es:Array (Int×af)}{ep:Nat}{t:jc}
theorem M5 {i:Nat}{Q:Option (af×Nat)->ag->Prop}(P:Bl prog w s.heap a kb o es ep t) (hi:i<=es.size)
  (h:Q (((jF w a ep es)[i]?).map λe=>(e.2,hZ w t (i+1))) s):wpAny (model prog w) A (setNext a (hZ w t i) i ep) Q E s:=by
 unfold setNext setsByText;refine ae (jx P.obj P.data P.fits ?_);dsimp only;refine ae (ae (nr (ai ?_)));have hps:t.place.size=es.size:=by have:=P.tab.size;rw[P.size];simpa using this
 show wpAny _ _ (if w.params.followText "set-order" = true then _ else _) _ _ s
 by_cases hb:w.params.followText "set-order" = true
 ·rw[if_pos hb,if_neg (by simp)];refine ae ?_;unfold setWalk setsByText;refine ae (jx P.obj P.data P.fits ?_);dsimp only;refine ae (ae (nr (ai ?_)));show wpAny _ _ (if w.params.followText "set-order" = true then _ else _) _ _ s;rw[if_pos hb];refine ae (nr (ai (ai ?_)));unfold jF hZ at h;unfold hZ;rw[if_pos hb]at h ⊢;rw[if_pos hb]at h;exact h
 ·have hb':w.params.followText "set-order" = false:=by simpa using hb
  rw[if_neg hb];have hl:t.led=true:=by rw[P.led,hb'];rfl
  have hd:((!t.plain)&&decide (es.size>1))=false:=by rw[P.tab.plain];rfl
  show wpAny _ _ (if((!t.plain)&&decide (es.size>1))=true then _ else _) _ _ s;rw[hd];simp only[cp,if_false];show wpAny _ _ ((if((!t.led)&&!es.isEmpty)=true then _ else _) >>= _) _ _ s;rw[hl];simp only[pw,Bool.false_and,cp,if_false];refine ae (ai ?_);have hbl:=i6 (w:=w) P.tab hb' (i:=i) (by omega);rw[hbl];unfold jF at h;rw[if_neg hb]at h;refine ai ?_
  by_cases hlt:i<es.size
  ·have e1:es[i]?=some es[i]:=fw hlt;have e2:t.place[i]?=some t.place[i]:=fw (by omega);rw[e1]at h;rw[e1,e2];have e3:hZ w t (i+1)=t.place[i]+1:=by unfold hZ;rw[if_neg hb];simp[lb,show i<t.place.size by omega]
   rw[e3]at h;exact h
  ·have e1:es[i]?=none:=ud (by omega);rw[e1]at h ⊢;exact h
theorem i9 {i:Nat}{x:Int×af}{Q:Option af->ag->Prop}(P:Bl prog w s.heap a kb o es ep t) (hit:s.heap.get? it=some (kG a (hZ w t i) i es.size ep)) (hx:(jF w a ep es)[i]?=some x)
  (hQ:∀h',h'.get? it=some (kG a (hZ w t (i+1)) (i+1) es.size ep)->jf it s.heap h'->Q (some x.2) { s with heap:=h' }):wpAny (model prog w) A (pyNext (.ref it)) Q E s:=by
 have hT:s.TypeIs (.ref it) "set_iterator" := ⟨_,hit,rfl⟩;have hlt:i<es.size:=by rw[<-yE w a ep es];exact(du.mp hx).1
 unfold pyNext;refine ae (wx (ik (name:=nh "__next__") hT walk_slots.2.1 (gy walk_slots.2.1 hT MZ ?_ (yD _).2.1)));unfold nq.«set_iterator.__next__»;refine ae (m:=slotArgs "__next__" 0 ⟨[.ref it],[]⟩) (ai ?_);refine ae (wpAny_fieldsOf hit rfl ?_);dsimp only;show wpAny _ _ (setEntries a >>= _) _ _ s;refine ae (wq P.obj P.data P.fits ?_);rw[if_neg (by simp)];show wpAny _ _ (setNext a ((hZ w t i:Nat):Int).toNat ((i:Nat):Int).toNat ((ep:Nat):Int).toNat >>= _) _ _ s;rw[fi,fi,fi];refine ae (M5 P (iq hlt) ?_);rw[hx];show wpAny _ _ (setField (.ref it) 0 (rawInt ((hZ w t (i+1):Nat):Int)) >>= _) _ _ s;refine ae (jt hit (by simp) λh1 g1 b1=>?_);refine ae (jt g1 (by simp) λh2 g2 b2=>?_);refine ai ⟨_,rfl,ai (hQ h2 ?_ (b1.trans b2))⟩;rw[g2];rfl
theorem j3 {i:Nat}{Q:Option af->ag->Prop}(hh:A.handled=none) (P:Bl prog w s.heap a kb o es ep t) (hit:s.heap.get? it=some (kG a (hZ w t i) i es.size ep)) (hi:i=es.size)
  (hQ:∀h',Aa it s.heap h'->Q none { s with heap:=h' }):wpAny (model prog w) A (pyNext (.ref it)) Q E s:=by
 have hT:s.TypeIs (.ref it) "set_iterator" := ⟨_,hit,rfl⟩;unfold pyNext;refine ae (wx (ik (name:=nh "__next__") hT walk_slots.2.1 (gy walk_slots.2.1 hT MZ ?_ (yD _).2.1)));unfold nq.«set_iterator.__next__»;refine ae (m:=slotArgs "__next__" 0 ⟨[.ref it],[]⟩) (ai ?_);refine ae (wpAny_fieldsOf hit rfl ?_);dsimp only;show wpAny _ _ (setEntries a >>= _) _ _ s;refine ae (wq P.obj P.data P.fits ?_);rw[if_neg (by simp)];show wpAny _ _ (setNext a ((hZ w t i:Nat):Int).toNat ((i:Nat):Int).toNat ((ep:Nat):Int).toNat >>= _) _ _ s;rw[fi,fi,fi];refine ae (M5 P (qr hi) ?_);rw[ud (by rw[yE];omega)];show wpAny _ _ (setField (.ref it) 2 jy >>= _) _ _ s;refine ae (jt hit (by simp) λh1 g1 b1=>?_);show wpAny _ _ (newExc (.type "StopIteration") [] >>= _) _ _ _;refine ae ?_;simp only[newExc,newTuple];refine ae (fz ?_ (by size_fits));refine ae (m:=firstArgMember _ _) (uf (a:=jy) (by first|rfl|(simp only[firstArgMember];rfl)) ?_);refine fz ?_ (by size_fits);simp only[raiseNew];refine ae (wpAny_handled ?_);rw[show A.in1.handled=none from hh];refine ae (ai (wpAny_throw ?_));refine ae (yn (T := "StopIteration") (b:=true) ⟨_,bc _ rfl,rfl⟩ isSubtype_stop ?_);exact ai (hQ _ ((b1.extBut.push _).push _))
end
section
variable{prog:bj}{w:cq}{A:cm}{E:af->ag->Prop}{s:ag}{a:ah}{kb:KB}{o:Obj}{es:Array (Int×af)}{ep:Nat}{t:jc}
theorem Bl.at' {h h':cx}(P:Bl prog w h a kb o es ep t) (k:h'.get? a=some o):Bl prog w h' a kb o es ep t:=⟨k,P.ex,P.data,P.es,P.tab,P.nd,P.nf,P.led⟩
theorem j5 (hh:A.handled=none) (I:ah) (hne:a≠I):
  Walks prog w A I [I,a] [I] es.size (λi v=>∃x,(jF w a ep es)[i]?=some x/\v=x.2) (λi h=>Bl prog w h a kb o es ep t/\h.get? I=some (kG a (hZ w t i) i es.size ep)) where
 sub:=λb hb=>by rw[bz.mp hb];exact bg ..
 frame:=λi h h' ⟨p,q⟩ k=>⟨p.at' (k a (by simp) _ p.obj),k I (by simp) _ q⟩
 item:=λi s Q E hi ⟨p,q⟩ hQ=>by
  have hi':i<(jF w a ep es).size:=by rw[yE];exact hi
  have hx:(jF w a ep es)[i]?=some (jF w a ep es)[i]:=fw hi';refine i9 p q hx λh' q' sb=>hQ _ h' s.toks ⟨_,hx,rfl⟩ ⟨p.at' ((sb.2 a hne).trans p.obj),q'⟩ λb o hb e=>?_;exact(sb.2 b λz=>hb (by rw[z];exact bg ..)).trans e
 done:=λs Q E ⟨p,q⟩ hQ=>j3 hh p q rfl λh' x=>hQ h' s.toks λb o hb e=>x b o (λz=>hb (by rw[z];exact bg ..)) e
 self:=λi s Q E ⟨_,q⟩ hQ=>by have hT:s.TypeIs (.ref I) "set_iterator" := ⟨_,q,rfl⟩;refine wpAny_pyIter_slot hT walk_slots.2.2.1 (gy walk_slots.2.2.1 hT h8 ?_ (yD _).2.2);exact ai ⟨_,rfl,"set_iterator",_,⟨_,q,rfl⟩,walk_slots.2.1.lookup,hQ⟩
theorem j6 {S:ah}{n:Nat}{Q:Unit->ag->Prop}(h:s.heap.get? S=some (seqObj "list" #[] n)) (q:∀h' c,h'.get? S=some (seqObj "list" #[] c)->(∀b o,b≠S->s.heap.get? b=some o->h'.get? b=some o)->Q () { s with heap:=h' }):
  wpAny (model prog w) A (wz (.ref S)) Q E s:=by
 unfold wz;refine ae (xa h rfl ?_);have h1:=vf h (λx=>x.push jy);refine xa h1 rfl ?_;have h2:=vf h1 (λx=>x.pop);refine q _ _ h2 λb o hb e=>?_;rw[ql _ _ _ _ hb,ql _ _ _ _ hb];exact e
theorem j7 {Q:List af->ag->Prop}(hh:A.handled=none) (P:Bl prog w s.heap a kb o es ep t) (hn:es.size<=cf)
  (q:∀(h':cx) (tk:Nat),(∀b o,s.heap.get? b=some o->h'.get? b=some o)->s.heap.objs.size<=h'.objs.size->Q ((jF w a ep es).toList.map (·.2)) { s with heap:=h',toks:=tk }):wpAny (model prog w) A (collect (.ref a)) Q E s:=by
 have la:a<s.heap.objs.size:=aq P.obj;have up1:∀b o,s.heap.get? b=some o->(s.heap.push (seqObj "list" #[] 0)).get? b=some o:=λb o e=>ak _ e;have hS1:(s.heap.push (seqObj "list" #[] 0)).get? s.heap.objs.size=some (seqObj "list" #[] 0):=bc _ rfl;have P1:Bl prog w (s.heap.push (seqObj "list" #[] 0)) a kb o es ep t:=P.at' (up1 a o P.obj);have hT1:vc { s with heap:=s.heap.push (seqObj "list" #[] 0) } (.ref a) "set" := ⟨o,P1.obj,P1.ex.1⟩;unfold collect;refine ae (wpAny_runValue (mq entry_proto_collect' ?_));rw[kd F.plain_proto_collect _];refine ae (m:=newList []) (Al (ai ⟨Code.quiet_builtin _ (by decide +kernel),mq entry_list_iadd' ?_⟩));rw[kd F.plain_list_iadd _];show wpAny _ A.in1 (vn (.ref s.heap.objs.size) (.ref a) (.ref s.heap.objs.size)) _ _ { s with heap:=s.heap.push (seqObj "list" #[] 0) };unfold vn;refine ae (sf hT1 ?_);have ne:we (.ref s.heap.objs.size) (.ref a)=false:=by simp[we,jn la]
 rw[if_neg (by rw[ne];decide)];refine ae (i8 P1 ?_);have sz:(s.heap.push (seqObj "list" #[] 0)).objs.size=s.heap.objs.size+1:=zt _ _;rw[sz];have up2:∀b o,(s.heap.push (seqObj "list" #[] 0)).get? b=some o->((s.heap.push (seqObj "list" #[] 0)).push (kG a 0 0 es.size ep)).get? b=some o:=λb o e=>ak _ e;have P2:Bl prog w ((s.heap.push (seqObj "list" #[] 0)).push (kG a 0 0 es.size ep)) a kb o es ep t:=P1.at' (up2 a o P1.obj);have hT2:vc { s with heap:=(s.heap.push (seqObj "list" #[] 0)).push (kG a 0 0 es.size ep) } (.ref a) "set" := ⟨o,P2.obj,P2.ex.1⟩;have hI2:((s.heap.push (seqObj "list" #[] 0)).push (kG a 0 0 es.size ep)).get? (s.heap.objs.size+1)=some (kG a 0 0 es.size ep):=by rw[<-sz];exact bc _ rfl
 refine ae (gw ?_);unfold Builtin.List.listLengthHint;refine ae (wpAny_specialOf hT2 walk_slots.2.2.2.lookup ?_);have spl:splitId "set.__len__" = some ("set","__len__"):=by decide +kernel
 dsimp only;rw[spl];dsimp only;refine ae (yn (b:=true) hT2 sub_set_self ?_);rw[if_neg (by decide),if_pos (by decide +kernel)];refine ae (sf hT2 (ai ?_));rw[if_pos (by decide +kernel)];refine ae (tj ?_);refine ae (j6 (s:={ s with heap:=(s.heap.push (seqObj "list" #[] 0)).push (kG a 0 0 es.size ep) }) (up2 _ _ hS1) λh3 c hS3 up3=>?_);have neS:∀b o,s.heap.get? b=some o->b≠s.heap.objs.size:=λb o e=>az (aq e);have P3:Bl prog w h3 a kb o es ep t:=P2.at' (up3 a o (az la) P2.obj);have hI3:h3.get? (s.heap.objs.size+1)=some (kG a 0 0 es.size ep):=up3 _ _ (pz _) hI2;have hz:hZ w t 0=0:=by unfold hZ;split <;> rfl
 have hh2:A.in1.handled=none:=by simp[hh]
 have nin:s.heap.objs.size∉[s.heap.objs.size+1,a]:=λm=>by
  rcases bh.mp m with e|m
  ·exact pz _ e.symm
  ·exact jn la (bz.mp m)
 refine ai ⟨wy F.plain_extend_loop _,codeAny_extend_loopS (A:=A) ((j5 (kb:=kb) (o:=o) (t:=t) (ep:=ep) (es:=es) hh2 (s.heap.objs.size+1) (a:=a) (az (jb la))).toS) hn s.heap.objs.size nin _ es.size 0 { s with heap:=h3 } #[] c rfl (ig _)
  ⟨P3,by rw[hz];exact hI3⟩ hS3 (ItemsOf.nil _) λs' acc c' mv hS' ia=>?_⟩
 have eacc:acc.toList=(jF w a ep es).toList.map (·.2):=by
  apply oq
  intro i;rw[oz,dk,oz]
  cases q:acc[i]? with
  |some v=>obtain⟨x,h1,h2⟩:=ia.2 i v q;rw[h1,h2];rfl
  |none=>have h1:acc.size<=i:=Array.getElem?_eq_none_iff.mp q;rw[ud (by rw[yE,<-ia.1];exact h1)];rfl
 obtain⟨hp,gs,dr,tk,os⟩:=s';have e1:gs=s.gens:=mv.gens;have e2:dr=s.drawn:=mv.drawn;have e3:os=s.os:=mv.os;subst e1;subst e2;subst e3;show wpAny _ A (load s.heap.objs.size >>= _) _ _ _;refine ae (wpAny_load hS' (ai ?_));rw[eacc];refine q hp tk (λb o e=>mv.heap b o (λm=>?_) (up3 b o (neS b o e) (up2 b o (up1 b o e)))) (iq (aq hS'))
 rcases bh.mp m with z|m
 ·exact neS b o e z
 ·exact az (jb (aq e)) (bz.mp m)
end
open PySem.W SoM L2
section
variable{prog:bj}{w:cq}{A:cm}{E:af->ag->Prop}{s:ag}
theorem M6 {fin:Bool}{Q:Bool->ag->Prop}:∀{kx ky:Aq}{vx vy:List af}(i:Nat),ItemsAre (intKind prog w) kx vx->ItemsAre (intKind prog w) ky vy->fin=decide (vx.length<vy.length)->Q (dH kx ky) s->KatLex prog w A true fin Q (vx.zip vy) i s
 |_,_,_,_,i,.nil,.nil,hf,h=>by subst hf;exact kat_nil h
 |_,_,_,_,i,.nil,.cons _ _,hf,h=>by subst hf;refine kat_nil ?_;rw[decide_eq_true (by simp)];exact h
 |_,_,_,_,i,.cons _ _,.nil,hf,h=>by subst hf;refine kat_nil ?_;rw[decide_eq_false (by simp)];exact h
 |_,_,_,_,i,.cons (k:=a) hu hx,.cons (k:=b) hv hy,hf,h=>by
  obtain⟨t,rfl⟩:=oh hu;obtain⟨t',rfl⟩:=oh hv;refine kat_cons (yf (kat_go (λe=>?_) λe=>?_))
  ·refine kat_yes (M6 (i+1) hx hy (hf.trans (by simp)) ?_);rw[dH,if_pos e]at h;exact h
  ·have h':Q (decide (a<b)) s:=by rw[dH,if_neg (by rw[e];simp)]at h;exact h
   refine kat_no ?_
   cases q:i==0 with
   |true=>exact oneLt_int h'
   |false=>exact kat_one _ _ (xj h')
theorem j8 {x y:ah}{kx ky:Aq}{Q:Bool->ag->Prop}(hx:ib (intKind prog w) s.heap kx x) (hy:ib (intKind prog w) s.heap ky y) (h:Q (dH kx ky) s):wpAny (model prog w) A (keyLt' (tuples' true) (.ref x) (.ref y)) Q E s:=by obtain⟨ox,ix,nx,e1,_,d1,i1⟩:=hx;obtain⟨oy,iy,ny,e2,_,d2,i2⟩:=hy;exact kat_lt e1 d1 e2 d2 (M6 0 i1 i2 (by simp) h)
def Co (prog:bj) (w:cq) (h:cx) (n:Nat) (ad:Nat->ah) (ky:Nat->Aq):Prop:=∀i,i<n->ib (intKind prog w) h (ky i) (ad i)/\ky i≠[]
def cD (n:Nat) (ad:Nat->ah):List af:=(bf n).map λi=>.ref (ad i)
theorem lD (n:Nat) (ad:Nat->ah):(cD n ad).length=n:=by simp[cD]
theorem DO {n:Nat}{ad:Nat->ah}{i:Nat}(h:i<n):(cD n ad).getD i jy=.ref (ad i):=by simp[cD,h]
theorem M7:∀(l:As) {ad:Nat->ah}{ky:Nat->Aq},(∀i∈l,ib (intKind prog w) s.heap (ky i) (ad i)/\ky i≠[])->∃fs:List af,KatTups s.heap (l.map λi=>.ref (ad i)) fs/\fs.length=l.length/\∀v∈fs,∃a t,v=.int a t
 | [],_,_,_=>⟨[],trivial,rfl,by simp⟩
 |i::l,ad,ky,h=>by
  obtain⟨fs,t,hl,hv⟩:=M7 l (ad:=ad) (ky:=ky) λj hj=>h j (au _ hj);obtain⟨⟨o,its,n,e,c,d,r⟩,ne⟩:=h i (bg ..)
  cases q:its.toList with
  |nil=>rw[q]at r;cases hk:ky i with
   |nil=>exact absurd hk ne
   |cons a b=>rw[hk]at r;cases r
  |cons v vs=>
   rw[q]at r
   cases hk:ky i with
   |nil=>exact absurd hk ne
   |cons a b=>
    rw[hk]at r
    cases r with
    |cons hu _=>
     obtain⟨tk,rfl⟩:=oh hu;refine⟨.int a tk::fs,KatTups.cons e c d (by rw[<-oz,q];rfl) t,by simp[hl],λv hv'=>?_⟩
     rcases bh.mp hv' with rfl|hv'
     ·exact⟨_,_,rfl⟩
     ·exact hv v hv'
theorem j9 {n:Nat}{ad:Nat->ah}{ky:Nat->Aq}{G:Array Nat->ag->Prop}(h2:2<=n) (hk:Co prog w s.heap n ad ky)
  (h:∀p,Ent n p->hW dH (p.toList.map ky)->G p s):
  wpAny (model prog w) A (keyKind' (cD n ad).toArray) (λκ s'=>(kas_sort (cD n ad).length).kasWp (kas_ask prog w A κ (cD n ad)) G s') (λ_ _=>False) s:=by
 obtain⟨fs,t,hl,hv⟩:=M7 (prog:=prog) (w:=w) (s:=s) (bf n) (ad:=ad) (ky:=ky) λi hi=>hk i (bx.mp hi);refine kat_kind (T:=.type "int") t (by rw[hl,mf];omega) (λv hv'=>?_) (by decide) ?_
 ·obtain⟨a,tk,rfl⟩:=hv v hv';exact .now
 ·rw[lD]
  let ks:=(bf n).map ky
  have mem:∀i,i<n->ky i∈ks:=λi hi=>cg.mpr ⟨i,bx.mpr hi,rfl⟩;refine LX (n:=n) (f:=λi=>rk dH ks (ky i)) (I:=λs'=>s'=s) (λi j C s' hs hi hj hC=>?_) (kas_sort n) (λp=>Ent n p/\hW dH (p.toList.map ky)) G s s (ZM (by omega) λp e inc=>⟨e, ?_⟩) rfl λp s' hp hs=>by subst hs;exact h p hp.1 hp.2
  ·subst hs;show wpAny (model prog w) A (keyLt' (tuples' true) ((cD n ad).getD i jy) ((cD n ad).getD j jy)) C (λ_ _=>False) s';rw[DO hi,DO hj];refine j8 (hk i hi).1 (hk j hj).1 ?_;have:=hC s' rfl;rwa [L7 Dd (mem i hi)]at this
  ·refine iu.mpr λi j hi hj Cu=>?_;have hj':j<p.size:=by simpa using hj
   have hi':i<p.size:=by omega
   have z:=inc i j (iq Cu) (by rw[<-e.1];exact hj');unfold SoM.F at z;have ei:p.getD i 0=p[i]:=by simp[lb,hi']
   have ej:p.getD j 0=p[j]:=by simp[lb,hj']
   rw[ei,ej]at z;have lt:∀k (hk:k<p.size),p[k]<n:=λk hk=>bx.mp (e.2.mem_iff.mp (by simp));have:=ZO Dd (mem _ (lt j hj')) z;simpa using this
end
section
variable{prog:bj}{w:cq}{A:cm}{E:af->ag->Prop}{s:ag}
abbrev yF (h h':cx):Prop:=∀b o,h.get? b=some o->h'.get? b=some o
def Dc (n:Nat) (ad:Nat->ah) (ky:Nat->Aq) (out:List af):Prop:=∃p:As,p.Perm (bf n)/\hW dH (p.map ky)/\out=p.map λi=>.ref (ad i)
theorem Dc.len {n:Nat}{ad:Nat->ah}{ky:Nat->Aq}{out:List af}(h:Dc n ad ky out):out.length=n:=by obtain⟨p,pp,_,e⟩:=h;rw[e,ba,pp.length_eq,mf]
theorem Co.keep {h h':cx}{n:Nat}{ad:Nat->ah}{ky:Nat->Aq}(k:Co prog w h n ad ky) (g:∀i,i<n->∀o,h.get? (ad i)=some o->h'.get? (ad i)=some o):Co prog w h' n ad ky:=λi hi=>⟨yC (k i hi).1 (g i hi),(k i hi).2⟩
theorem k6 {a:ah}{n c:Nat}{ad:Nat->ah}{ky:Nat->Aq}{P:Fin->ag->Prop}(ho:s.heap.get? a=some (seqObj "list" (cD n ad).toArray c)) (h64:n<64) (hk:Co prog w s.heap n ad ky)
  (q:∀h' e out,Dc n ad ky out->h'.get? a=some (seqObj "list" out.toArray e)->(∀b o,b≠a->s.heap.get? b=some o->h'.get? b=some o)->P (.done (.ret .none)) { s with heap:=h' }):
  wpAny (model prog w) A (nq.«list.sort» ⟨[.ref a],[]⟩) P E s:=by
 have la:a<s.heap.objs.size:=aq ho;obtain⟨e1,g1⟩:∃e1,(s.heap.update a (nu λ_=>(#[]:Array af))).get? a=some (seqObj "list" #[] e1):=⟨_,vf ho λ_=>#[]⟩
 have k1:∀b o,b≠a->s.heap.get? b=some o->(s.heap.update a (nu λ_=>(#[]:Array af))).get? b=some o:=λb o hb e=>by rw[ql _ _ _ _ hb];exact e
 generalize hH1:s.heap.update a (nu λ_=>(#[]:Array af))=H1 at g1 k1;have k3:yF H1 ((H1.push (seqObj "tuple" (cD n ad).toArray 0)).push (seqObj "list" #[] 0)):=λb o e=>ak _ (ak _ e);have ne:∀i,i<n->ad i≠a:=λi hi e=>by obtain⟨⟨o,its,m,e1,c1,_⟩,_⟩:=hk i hi;rw[e,ho]at e1;cases e1;exact absurd (Value.type.inj c1) (by decide)
 have K3:Co prog w ((H1.push (seqObj "tuple" (cD n ad).toArray 0)).push (seqObj "list" #[] 0)) n ad ky:=hk.keep λi hi o e=>k3 _ o (k1 _ o (ne i hi) e);have g3:=k3 a _ g1;have kk:∀b o,b≠a->s.heap.get? b=some o->((H1.push (seqObj "tuple" (cD n ad).toArray 0)).push (seqObj "list" #[] 0)).get? b=some o:=λb o hb e=>k3 b o (k1 b o hb e);have sl:n<=cf:=by rw[kr];omega
 have fin:∀(out:List af),Dc n ad ky out->wpAny (model prog w) A (do
   let touched:=(<-seqEpoch a) != e1
   Builtin.List.listUpdate (.ref a) λ_=>out.toArray
   if let some e:=(none:Option af)then rule "list.sort.comparison-raised"; throw e
   if touched then rule "list.sort.modified"; raiseError "ValueError" "list modified during sort"
   ret .none) P E { s with heap:=(H1.push (seqObj "tuple" (cD n ad).toArray 0)).push (seqObj "list" #[] 0) }:=λout Es=>by
  refine ae (seqEpoch_at g3 rfl ?_);refine ae (xa g3 rfl ?_ (ig _) (by rw[aw,Es.len];omega));simp only[bne_self_eq_false,cp,if_false];exact ai (q _ _ out Es (vf g3 λ_=>out.toArray) λb o hb e=>by rw[ql _ _ _ _ hb];exact kk b o hb e)
 generalize hH3:(H1.push (seqObj "tuple" (cD n ad).toArray 0)).push (seqObj "list" #[] 0)=H3 at k3 K3 g3 kk fin;rw[list_sort_plain];refine ae (listItems_at ho rfl (ae (xa ho rfl ?_ (by rw[aw,lD];exact sl) (ig _))));rw[hH1];refine ae (seqEpoch_at g1 rfl (ae (wpAny_newTuple (ae (Al (gw ?_) (ig _))) (by show(cD n ad).length<=_;rw[lD];exact sl))));show wpAny (model prog w) A _ P E { s with heap:=(H1.push (seqObj "tuple" (cD n ad).toArray 0)).push (seqObj "list" #[] 0) };rw[hH3];have hz:(cD n ad).toArray.size=n:=by rw[aw,lD]
 dsimp only
 by_cases h2:n<2
 ·rw[if_pos (by rw[hz];exact h2),if_pos (by rw[hz];exact h2)];refine ae (ai ?_);rw[StateT.run_pure];refine ae (ai ?_);have e:(arrOf (SortSt.mk' general' ((cD n ad).toArray.zip (cD n ad).toArray) #[] 7 none)).map (·.2)=(cD n ad).toArray:=by show(((cD n ad).toArray.zip (cD n ad).toArray)).map (·.2)=_;rw[Array.map_snd_zip (aj _)]
  dsimp only;rw[e];refine fin _ ⟨bf n,.refl _, ?_,rfl⟩;refine iu.mpr λi j hi hj Cu=>?_;rw[ba,mf]at hj;omega
 ·have h2':2<=n:=by omega
  rw[if_neg (by rw[hz];exact h2),if_neg (by rw[hz];exact h2)];refine ae (ku (j9 (A:=A) (s:={ s with heap:=H3 }) (G:=λp s'=>s'={ s with heap:=H3 }/\Ent n p/\hW dH (p.toList.map ky)) h2' K3 λp e r=>⟨rfl,e,r⟩) (λκ s0 hκ=>?_) λ_ _ x=>x.elim);refine ae (ku (kat_run (ks:=cD n ad) (vs:=cD n ad) (Q:=λDp s'=>∃p:Array Nat,p.size=(cD n ad).length/\arrOf Dp=p.map (kas_item ((cD n ad).toArray.zip (cD n ad).toArray))/\failedOf Dp=none/\s'={ s with heap:=H3 }/\Ent n p/\hW dH (p.toList.map ky))
   rfl (by rw[lD];exact h2') (by rw[lD];exact h64) (λp Dp s' z1 z2 z3 z4=>⟨p,z1,z2,z3,z4⟩) hκ) ?_ λ_ _ e=>e)
  rintro ⟨⟨⟩,Dp⟩ s' ⟨p,_,z2,z3,rfl,z5,z6⟩
  dsimp only;rw[kat_snds rfl z2,z3];have e:(p.toList.map λi=>(cD n ad).getD i jy)=p.toList.map λi=>.ref (ad i):=Am λi hi=>DO (bx.mp (z5.2.mem_iff.mp hi));rw[e];exact fin _ ⟨p.toList,z5.2,z6,rfl⟩
theorem k7 {x:af}{n:Nat}{ad:Nat->ah}{ky:Nat->Aq}{Q:af->ag->Prop}(h64:n<64) (hk:Co prog w s.heap n ad ky)
  (hc:∀(Q':List af->ag->Prop) (E':af->ag->Prop),(∀h' tk,yF s.heap h'->s.heap.objs.size<=h'.objs.size->Q' (cD n ad) { s with heap:=h',toks:=tk })->wpAny (model prog w) A.in1 (collect x) Q' E' s)
  (q:∀h' tk D e out,Dc n ad ky out->s.heap.objs.size<=D->h'.get? D=some (seqObj "list" out.toArray e)->yF s.heap h'->Q (.ref D) { s with heap:=h',toks:=tk }):
  wpAny (model prog w) A (call (.builtin "sorted") [x]) Q E s:=by
 refine Calls.call_function_entry kind_sorted plain_sorted entry_sorted (args_sorted1 _) ?_;unfold nq.«sorted»;refine ae (m:=checkCount "sorted" 1 1 _) (ai (ae (hc _ _ λh1 tk k1 sz=>ae (Al ?_ (by rw[lD,kr];omega)))));have g:(h1.push (seqObj "list" (cD n ad).toArray 0)).get? h1.objs.size=some (seqObj "list" (cD n ad).toArray 0):=bc _ rfl;have k2:yF s.heap (h1.push (seqObj "list" (cD n ad).toArray 0)):=λb o e=>ak _ (k1 b o e);refine ae (gw (gy slot_list_sort ⟨_,g,rfl⟩ entry_list_sort (k6 (s:={ s with heap:=h1.push (seqObj "list" (cD n ad).toArray 0),toks:=tk }) g h64 (hk.keep λi hi o e=>k2 _ o e) λh' e out so ho ke=>⟨_,rfl, ?_⟩) (args_list_sort _)));exact ai ⟨_,rfl,q h' tk h1.objs.size e out so sz ho λb o e=>ke b o (az (av (aq e) sz)) (k2 b o e)⟩
end
def bare (w:cq):Obj:={ cls:=.type "set",dict:=none,data:=.set #[] 0 (.fresh 0 0 (!w.params.followText "set-order")) }
section
variable{prog:bj}{w:cq}{A:cm}{E:af->ag->Prop}{s:ag}
theorem k8 {h:cx}{a:ah}(e:h.get? a=some (bare w)):lC prog w h a []:=by
 have tok:∀led:Bool,Dm (.fresh 0 0 led) []:=λled=>⟨rfl,.nil,rfl,(λj hj=>nomatch hj),ig _,.inl rfl,(λi h j e=>nomatch e),rfl⟩
 exact⟨bare w,#[],0,_,e,⟨rfl,rfl,rfl⟩,rfl,rfl,tok _,.nil,(by show 0*5<7*3;decide),rfl⟩
theorem k9 (a:af) {Q:af->ag->Prop}(q:Q (.ref s.heap.objs.size) { s with heap:=s.heap.push (bare w) }):
  codeAny (model prog w) A (.call (.builtin "set.__new__") ⟨[.type "set",a],[]⟩) (wants Q E) s:=by
 refine qt F.plain_set_new F.entry_set_new (uf (F.newCall_set_1 a) ?_);have self:=sub_set_self;unfold nq.«set.__new__» Builtin.Frozenset.newClass;cases s
 wp_walk
 exact nr (ai (ae (wpAny_alloc (ai (ai q)))))
theorem l5 {v:af}{Q N:af->ag->Prop}(hn:codeAny (model prog w) A.in1 (.call (.builtin "set.__new__") ⟨[.type "set",v],[]⟩) (wants N E) s)
  (hi:∀x s1,N x s1->s1.TypeIs x "set"/\codeAny (model prog w) A.in1 (.call (.builtin "set.__init__") ⟨[x,v],[]⟩) (wants (λr s2=>r=.none/\Q x s2) E) s1):wpAny (model prog w) A (call (.type "set") [v]) Q E s:=by
 have f:=F.called_set;obtain⟨_,_,fm⟩:=f.mro;have fd:=f.made;have fs:=f.sub;have ft:=f.notType;have fc:=f.canCreate;have fk:=F.typeCall_set_1 v;have fl:=f.init.lookup;have q:(Code.builtin "type.__call__" ⟨[.type "set",v],[]⟩).quiet=true:=Code.quiet_builtin _ (by decide +kernel);refine zi (codeAny_of_tree (ai ⟨q,mq F.entry_type_call ?_⟩));rw[Around.under_plain (weight_type_call_type "set" [v] []) rfl]
 repeat (any_goals (first|assumption|wp_step))
 refine rz hn ?_
 rintro (e|fl1) s1 h1
 ·exact h1
 ·cases fl1 <;> try exact h1.elim
  rename_i x;obtain⟨hx,hr⟩:=hi x s1 h1;have fb:=f.init.bind x
  repeat (any_goals (first|assumption|wp_step))
  refine rz hr ?_
  rintro (e|Fd) s2 h2
  ·exact h2
  ·cases Fd <;> try exact h2.elim
   obtain⟨rfl,h3⟩:=h2
   repeat (any_goals (first|assumption|wp_step))
theorem M8 {l:ah}{T:String}{it:Obj}{n:Nat}{P:Nat->af->Prop}{St:Nat->cx->Prop}{fp wr:List ah}(ad:Nat->ah) (ky:Nat->Aq) (U:Ap) {Q:af->ag->Prop}
  (hu:A.units+8<cLine) (hT:s.TypeIs (.ref l) T) (n1:isSubtype (.type T) (.type "set")=pure false) (n2:isSubtype (.type T) (.type "frozenset")=pure false) (n3:(Af T==Af "dict")=false)
  (hi:∀(B:cm) (Q':af->ag->Prop) (E':af->ag->Prop),Q' (.ref (s.heap.objs.size+1)) { s with heap:=(s.heap.push (bare w)).push it }->wpAny (model prog w) B (pyIter (.ref l)) Q' E' { s with heap:=s.heap.push (bare w) })
  (W:Walks prog w A.in1.in1.in1 (s.heap.objs.size+1) fp wr n P St) (hfp:s.heap.objs.size∉fp) (hwr:∀b∈wr,s.heap.objs.size<b) (h0:St 0 ((s.heap.push (bare w)).push it))
  (hval:∀i v,P i v->v=.ref (ad i)) (hU:U.length<=76) (hky:∀i,i<n->ky i∈U) (El:∀j,j<n->ib (intKind prog w) s.heap (ky j) (ad j))
  (q:∀(h':cx) (tk:Nat) kb,lC prog w h' s.heap.objs.size kb->Upto ky ad n kb->(∀b o,s.heap.get? b=some o->h'.get? b=some o)->Q (.ref s.heap.objs.size) { s with heap:=h',toks:=tk }):
  wpAny (model prog w) A (call (.type "set") [.ref l]) Q E s:=by
 refine l5 (N:=λx s1=>x=.ref s.heap.objs.size/\s1={ s with heap:=s.heap.push (bare w) }) (k9 _ ⟨rfl,rfl⟩) ?_
 rintro x s1 ⟨rfl,rfl⟩
 have up:∀b o,s.heap.get? b=some o->(s.heap.push (bare w)).get? b=some o:=λb o e=>ak _ e;have hb:(s.heap.push (bare w)).get? s.heap.objs.size=some (bare w):=bc _ rfl;have hS:vc { s with heap:=s.heap.push (bare w) } (.ref s.heap.objs.size) "set" := ⟨_,hb,rfl⟩;refine⟨hS,qt F.called_set.init.plain F.entry_set_init (check_set_init_1 hS ?_)⟩;obtain⟨ol,el,cl⟩:=hT;have hl1:vc { s with heap:=s.heap.push (bare w) } (.ref l) T:=⟨ol,up l ol el,cl⟩
 have lt:∀j,j<n->ad j<s.heap.objs.size:=λj hj=>let ⟨_,_,_,e,_⟩:=El j hj;aq e;have Et:((s.heap.push (bare w)).push it).get? s.heap.objs.size=some (bare w):=ak _ hb;have run:∀(R:yh->ag->Prop),(∀h' tk kb,lC prog w h' s.heap.objs.size kb->Upto ky ad n kb->(∀b o,s.heap.get? b=some o->h'.get? b=some o)->R (.ok (.ret .none)) { s with heap:=h',toks:=tk })->
   codeAny (model prog w) A.in1.in1 (.builtin "set.update.loop" ⟨[.ref s.heap.objs.size,.ref (s.heap.objs.size+1)],[]⟩) R { s with heap:=(s.heap.push (bare w)).push it }:=λR hR=>by
  refine d8 W s.heap.objs.size hfp ad ky hval (by show A.units+1+1+2<cLine;omega) U hU hky (λj hj=>⟨az (lt j hj),λm=>Nat.lt_asymm (lt j hj) (hwr _ m)⟩) n 0 _ [] rfl (ig _) h0 (k8 Et)
   ⟨(λp hp=>nomatch hp),λj hj=>absurd hj (Nat.not_lt_zero j)⟩ (λj hj=>yC (El j hj) λo e=>ak _ (up _ o e)) λh' tk kb keep S u=>hR h' tk kb S u λb o e=>?_
  have hlt:=aq e;exact keep b o (λm=>(bh.mp m).elim (az hlt) λm=>Nat.lt_asymm hlt (hwr b m)) (ak _ (up b o e))
 unfold nq.«set.__init__» noKeywords Builtin.Frozenset.updateFrom;generalize hPI:pyIter=PI;unfold bare at hb
 wp_walk
 subst hPI;refine hi _ _ _ ?_;refine ae (wpAny_runValue (run _ λh' tk kb S u keep=>?_));exact ai (ai ⟨rfl,q h' tk kb S u keep⟩)
end
end SR
namespace L2.Mr
open PySem PySem.Spec PyProof.Rows SR
def Bn (H:Hp):List V->Ap->Prop
 | [],[]=>True
 |v::vs,k::ks=>(∃b,v=.ref b/\H b=some (.tup (k.map V.int)))/\Bn H vs ks
 |_,_=>False
def l6:V->ah
 | .ref b=>b
 |_=>0
def fU (vs:List V) (i:Nat):ah:=l6 (vs.getD i .non)
section
variable{X:Cx}{pins:List (ah×Obj)}{σ:St}{H H':Hp}{s:ag}
theorem Bn.len:∀{vs:List V}{ks:Ap},Bn H vs ks->vs.length=ks.length
 | [],[],_=>rfl
 | [],_::_,h=>h.elim
 |_::_,[],h=>h.elim
 |v::vs,k::ks,h=>by rw[cy,cy,Bn.len h.2]
theorem Bn.at_:∀{vs:List V}{ks:Ap}{i:Nat},Bn H vs ks->i<ks.length->vs[i]?=some (.ref (fU vs i))/\H (fU vs i)=some (.tup ((ks.getD i []).map V.int))
 | [],[],_,_,h=>by simp at h
 | [],_::_,_,h,_=>h.elim
 |_::_,[],_,h,_=>h.elim
 |v::vs,k::ks,0,h,_=>by obtain⟨⟨b,rfl,e⟩,_⟩:=h;exact⟨rfl,e⟩
 |v::vs,k::ks,i+1,h,hi=>by
  obtain⟨e1,e2⟩:=Bn.at_ (i:=i) h.2 (by simpa using hi);have ea:fU (v::vs) (i+1)=fU vs i:=by simp[fU]
  exact⟨by rw[ea];simpa using e1,by rw[ea];simpa using e2⟩
theorem M9:∀{k:Aq}{its:List af}{prog:bj}{w:cq},Bd (k.map V.int) its->ItemsAre (intKind prog w) k its
 | [],_,_,_,.nil=>.nil
 |n::k,_,_,_,.cons h1 h2=>by obtain⟨t,rfl⟩:=h1;exact .cons (intKind_is _ _ _ _) (M9 h2)
theorem DP (I:Inv X pins σ H s) {b:ah}{k:Aq}(e:H b=some (.tup (k.map V.int))):ib (intKind X.prog X.w) s.heap k b:=by obtain⟨_,its,r,o,e1,c,_,n,d⟩:=I.hok b _ e;exact⟨o,its.toArray,n,e1,c,d,M9 r⟩
theorem NA {vs:List V}{ks:Ap}{its:List af}(h:Bn H vs ks) (r:Bd vs its):its=cD ks.length (fU vs):=by
 have hl:=r.length;have hl2:=h.len
 apply oq
 intro i
 by_cases hi:i<ks.length
 ·obtain⟨e1,_⟩:=h.at_ hi;obtain⟨u,e2,e3⟩:=r.get e1;cases e3;rw[e2];simp[cD,hi]
 ·rw[zu (by omega),zu (by rw[lD];omega)]
theorem l8 {n:Nat}{ad:Nat->ah}{ky:Nat->Aq}{out:List af}(so:Dc n ad ky out) (hH:∀i,i<n->H (ad i)=some (.tup ((ky i).map V.int))):
  ∃(p:As) (Cc:List V),p.Perm (bf n)/\hW dH (p.map ky)/\Bd Cc out/\Bn H Cc (p.map ky):=by
 obtain⟨p,pp,r,rfl⟩:=so;refine⟨p,p.map λi=>V.ref (ad i),pp,r, ?_, ?_⟩
 ·clear pp r
  induction p with
  |nil=>exact .nil
  |cons i p ih=>exact .cons rfl ih
 ·have:∀q:As,(∀i∈q,i<n)->Bn H (q.map λi=>V.ref (ad i)) (q.map ky):=λq=>by
   induction q with
   |nil=>intro _;trivial
   |cons i q ih=>exact λh=>⟨⟨_,rfl,hH i (h i (bg ..))⟩,ih λj hj=>h j (au _ hj)⟩
  exact this p λi hi=>bx.mp (pp.mem_iff.mp hi)
theorem l9 {α:Type}{p:As}{n:Nat}{l:List α}{d:α}(h:p.Perm (bf n)) (hl:l.length=n):(p.map λi=>l.getD i d).Perm l:=by
 refine(h.map _).trans ?_;have:(bf n).map (λi=>l.getD i d)=l:=by
  apply List.ext_getElem (by simp[hl])
  intro i h1 h2;simp[h2]
 rw[this]
def yG (prog:bj) (w:cq) (l:ah) (o:Obj) (kb:KB):Prop:=∃es ep t,∀h:cx,h.get? l=some o->Bl prog w h l kb o es ep t
structure KbOk (H:Hp) (kb:KB) (ks:Ap):Prop where
 tup:∀p∈kb,H p.2=some (.tup (p.1.map V.int))
 frm:∀p∈kb,p.1∈ks
 all:∀k∈ks,k∈kb.map fh
abbrev NB (X:Cx):List V->Hp->VK->Prop:=λxs H Q=>∃(p:ah) (vs:List V) (ks:Ap),xs=[.ref p]/\H p=some (.lst vs)/\Bn H vs ks/\(eR dH ks).length<=76/\∀l o kb,H l=none->yG X.prog X.w l o kb->KbOk H kb ks->Q (.ref l) (aT H l (.frz o (.own 0)))
theorem sub_list:isSubtype (.type "list") (.type "set")=pure false/\isSubtype (.type "list") (.type "frozenset")=pure false:=⟨F.sub_list_set,F.sub_list_frozenset⟩
theorem m6 {k:Nat}(rm:Bt k X.A):Bi X (.type "set") (NB X):=by
 intro pins s σ H xs us Q I rv ⟨p,vs,ks,e,hp,ht,hU,q⟩;subst e;obtain⟨u,rfl,ru⟩:=iX rv;cases ru;obtain⟨its,rits,pl,hz⟩:=I.list (Bs.of hp);have hits:=NA ht rits;have lp:=I.hok.lt hp;have hI:s.heap.IsList p (cD ks.length (fU vs)).toArray:=by rw[<-hits];exact pl.isList
 have Cf:(cD ks.length (fU vs)).toArray.size=ks.length:=by rw[aw,lD]
 have hh:X.A.in1.in1.in1.handled=none:=rm.hd;have hne:p≠s.heap.objs.size+1:=az (jb lp);have hb:(s.heap.push (bare X.w)).IsList p (cD ks.length (fU vs)).toArray:=hI.push _;have hs1:(s.heap.push (bare X.w)).objs.size=s.heap.objs.size+1:=zt _ _;have W:=uc (prog:=X.prog) (w:=X.w) (A:=X.A.in1.in1.in1) hh (s.heap.objs.size+1) p hne (cD ks.length (fU vs)).toArray;rw[Cf]at W;refine M8 (T := "list") (it:={ cls:=.type "list_iterator",data:=.fields #[.ref p,.int 0 0] }) (fU vs) (λi=>ks.getD i []) (eR dH ks) (by have:=rm.un;omega) hI.typeIs sub_list.1 sub_list.2 (by decide) (λB Q' E' hQ=>?_) W ?_ ?_ ?_ (λi v hv=>?_) hU (λi hi=>?_) (λj hj=>?_) λh' tk kb hS Er k=>?_
 ·refine kq hb ?_;rw[<-hs1]at hQ;exact hQ
 ·intro m
  rcases bh.mp m with z|m
  ·exact pz _ z.symm
  ·exact jn lp (bz.mp m)
 ·intro b hb;rw[bz.mp hb];exact jm _
 ·refine⟨⟨{ cls:=.type "list_iterator",data:=.fields #[.ref p,.int 0 0] }, ?_,rfl,rfl⟩,hb.push _⟩;rw[<-hs1];exact bc _ rfl
 ·have hi:i<ks.length:=by have:=(du.mp hv).1;rwa [Cf]at this
  have:(cD ks.length (fU vs))[i]?=some (.ref (fU vs i)):=by simp[cD,hi]
  rw[zv,this]at hv;exact(cw hv).symm
 ·refine(nK Dd _ _).mpr ?_;show ks.getD i []∈ks;simp[hi]
 ·exact DP I (ht.at_ hj).2
 ·obtain⟨o,es,ep,t,P⟩:=hS;refine⟨.ref s.heap.objs.size,_,I.laid (t':=tk) (o:=.frz o (.own 0)) k (aj _) ⟨P.obj,o,P.obj⟩,rfl,q _ o kb (I.hok.fresh (aj _)) ⟨es,ep,t,λh e=>P.at' e⟩ ⟨λz hz=>?_,λz hz=>?_,λz hz=>?_⟩⟩
  ·obtain⟨j,hj,rfl⟩:=Er.from_ z hz;exact(ht.at_ hj).2
  ·obtain⟨j,hj,rfl⟩:=Er.from_ z hz;show ks.getD j []∈ks;simp[hj]
  ·obtain⟨j,hj,rfl⟩:=jw hz;have:=Er.all j hj;simpa[hj]using this
abbrev NC (X:Cx):List V->Hp->VK->Prop:=λxs H Q=>∃(l:ah) (o:Obj) (kb:KB) (ks:Ap),xs=[.ref l]/\H l=some (.frz o (.own 0))/\yG X.prog X.w l o kb/\KbOk H kb ks/\(∀k∈ks,k≠[])/\(eR dH ks).length<64/\∀D Cc,H D=none->Bn H Cc (eR dH ks)->Q (.ref D) (aT H D (.lst Cc))
theorem m7 {α β:Type}{f:α->β}:∀{l:List β}{l':List β},l.Perm l'->∀xs:List α,l'=xs.map f->∃ys:List α,ys.Perm xs/\l=ys.map f:=by
 intro l l' h
 induction h with
 |nil=>intro xs e;exact⟨xs,.refl _,e⟩
 |cons a _ ih=>
  intro xs e
  cases xs with
  |nil=>cases e
  |cons x xs=>simp only[da,Ac]at e;obtain⟨ys,p,e'⟩:=ih xs e.2;exact⟨x::ys,p.cons x,by simp[e.1,e']⟩
 |swap a b l=>
  intro xs e
  cases xs with
  |nil=>cases e
  |cons x xs=>
   cases xs with
   |nil=>simp at e
   |cons y xs=>simp only[da,Ac]at e;exact⟨y::x::xs,.swap ..,by simp[e.1,e.2.1,e.2.2]⟩
 |trans _ _ ih1 ih2=>intro xs e;obtain⟨ys,p,e'⟩:=ih2 xs e;obtain⟨zs,p',e''⟩:=ih1 ys e';exact⟨zs,p'.trans p,e''⟩
theorem m8 {k:Nat}(rm:Bt k X.A):Bi X (.builtin "sorted") (NC X):=by
 intro pins s σ H xs us Q I rv ⟨l,o,kb,ks,e,hl,⟨es,ep,t,hP⟩,kO,ne,h64,q⟩;subst e;obtain⟨u,rfl,ru⟩:=iX rv;cases ru;have P:=hP s.heap (I.hok l _ hl).1;have pe:(jF X.w l ep es).toList.Perm (hY X.prog X.w kb):=by rw[<-P.es];exact M4 _ _ _ _
 obtain⟨kc,pk,ek⟩:=m7 pe kb rfl;have mem:∀i,i<kc.length->kc.getD i ([],0)∈kb:=λi hi=>pk.mem_iff.mp (by simp[hi]);have hn:(kb.map fh).length=(eR dH ks).length:=by refine List.Perm.length_eq ((rf P.nd (uK Dd (uJ Dd ks))).mpr λz=>?_);rw[nK Dd];refine⟨λh=>?_,λh=>kO.all z h⟩;obtain⟨p,hp,rfl⟩:=cg.mp h;exact kO.frm p hp
 have hlen:kc.length<64:=by rw[pk.length_eq];rw[ba]at hn;omega
 have hes:es.size=kc.length:=by rw[P.size,pk.length_eq]
 have KA:Co X.prog X.w s.heap kc.length (λi=>(kc.getD i ([],0)).2) (λi=>(kc.getD i ([],0)).1):=λi hi=>⟨DP I (kO.tup _ (mem i hi)),ne _ (kO.frm _ (mem i hi))⟩
 have er:(jF X.w l ep es).toList.map (·.2)=cD kc.length (λi=>(kc.getD i ([],0)).2):=by
  rw[ek,jg]
  apply List.ext_getElem (by simp[lD])
  intro i h1 h2;have hi:i<kc.length:=by simpa using h1
  simp[cD,hi]
 refine k7 hlen KA (λQ' E' hQ=>?_) λh' tk D e out so hD ho k=>?_
 ·refine j7 (show X.A.in1.handled=none from rm.hd) P (by rw[hes,kr];omega) λh' tk kk sz=>?_;rw[er];exact hQ h' tk kk sz
 ·obtain⟨pp,Cc,h1,h2,h3,h4⟩:=l8 (H:=H) so λi hi=>kO.tup _ (mem i hi);have pm:(pp.map λi=>(kc.getD i ([],0)).1).Perm (kb.map fh):=by have:=((l9 (d:=(([],0):Aq×ah)) h1 rfl).trans pk).map fh;rwa [jg]at this
  have nd:(pp.map λi=>(kc.getD i ([],0)).1).Nodup:=pm.nodup_iff.mpr P.nd;have rs:fT dH (pp.map λi=>(kc.getD i ([],0)).1):=by
   refine(h2.and nd).imp λ{a b} ⟨x,y⟩=>?_
   cases q:dH a b with
   |true=>rfl
   |false=>exact absurd (Dd.tot a b q x) y
  have e1:(pp.map λi=>(kc.getD i ([],0)).1)=eR dH ks:=ZN Dd rs λz=>by rw[pm.mem_iff];refine⟨λh=>?_,λh=>kO.all z h⟩;obtain⟨p,hp,rfl⟩:=cg.mp h;exact kO.frm p hp
  rw[e1]at h4;refine⟨.ref D,_,I.laid (t':=tk) k hD (show Bh X.prog X.w _ _ _ (.lst Cc) from⟨?_,out,e,h3,ho⟩),rfl,q D Cc (I.hok.fresh hD) h4⟩;rw[h4.len,kr];omega
end
def rR:Dv->Option Aq 
 | .tup xs=>bU gH xs
 |_=>none
def yH (k:Aq):Dv:=.tup (k.map Dv.int)
section
variable{X:Cx}{G:Cfg}{E:XK}{k:Nat}{e a b:bo}{es:List bo}{ma mb:M Dv}{aO:M Aw }{p p2 pos Di:Pos}
theorem DQ {μ:Nat->ah}{n:Nat}{H:Hp}:∀{xs:Aw}{vs:List V}{ks:Ap},RelDL G μ n H xs vs->bU rR xs=some ks->Bn H vs ks
 | [],_,ks,r,e=>by cases e;rw[RelDL]at r;subst r;trivial
 |x::xs,_,ks,r,e=>by
  rw[RelDL]at r;obtain⟨v,rr,rfl,r1,r2⟩:=r;unfold bU at e
  cases x with
  |tup ds=>
   dsimp only[rR]at e
   cases q:bU gH ds with
   |none=>rw[q]at e;cases e
   |some zs=>
    rw[q]at e;dsimp only at e
    cases q2:bU rR xs with
    |none=>rw[q2]at e;cases e
    |some ys=>rw[q2]at e;cases e;rw[Bc]at r1;obtain⟨b,us,rfl,h1,h2⟩:=r1;rw[oH h2 q]at h1;exact⟨⟨b,rfl,h1⟩,DQ r2 q2⟩
  |_=>cases e
theorem ND {μ:Nat->ah}{n:Nat}{H:Hp}:∀{vs:List V}{ks:Ap},Bn H vs ks->RelDL G μ n H (ks.map yH) vs
 | [],[],_=>RelDL.nil
 | [],_::_,h=>h.elim
 |_::_,[],h=>h.elim
 |v::vs,k::ks,h=>by obtain⟨⟨b,rfl,e⟩,h2⟩:=h;refine RelDL.cons ?_ (ND h2);unfold yH;rw[Bc];exact⟨b,_,rfl,e,tG k⟩
def yI (ks:Ap):Bool:=ks.all λk=>!k.isEmpty
theorem m9 {ks:Ap}(h:yI ks=true):∀k∈ks,k≠[]:=λk hk e=>by have:=gu.mp h k hk;rw[e]at this;cases this
theorem n9:dy "set" = some (.type "set"):=by decide +kernel
end
open PySem.SeqAt PySem.MeetsSeq PySem.MeetsSeq2 PySem.MeetsSeq3
section
variable{X:Cx}{G:Cfg}{E:XK}{k:Nat}{e a b o:bo}{es:List bo}{mo me ma mb:M Dv}{aO:M Aw }{p p2 pos Di apos cpos np:Pos}{y:Str}
theorem o7 {prog:bj}{w:cq}{A:cm}{Ee:af->ag->Prop}{s:ag}{t sl:ah}{items:Array af}{vl vu:af}{lo hi:Option Int}{Q:af->ag->Prop}(ht:zg s.heap t items) (hs:s.heap.IsSliceOf sl vl vu .none) (pl:vt vl lo) (pu:vt vu hi)
  (h0:HT.sIx items.size 0 lo=0) (h1:HT.sIx items.size items.size hi=items.size) (h:Q (.ref t) s):wpAny (model prog w) A (getItem (.ref t) (.ref sl)) Q Ee s:=by
 obtain⟨os,hos,hcs,hds⟩:=id hs;have hTs:s.TypeIs (.ref sl) "slice" := ⟨os,hos,hcs⟩;have tt:=ht.typeIs;obtain⟨ot,et,ct,_⟩:=id ht;unfold getItem
 try with_reducible refine gw ?_
 first|refine ae (ai ?_)|skip
 refine ae (wpAny_sequenceKey tt (by decide) (ae (ik (name:=nh "__getitem__") tt gv (gy gv tt PySem.F.entry_tuple_getitem ?_ (PySem.F.args_tuple_getitem_2 _ _)))));refine ae (m:=slotArgs "__getitem__" 1 ⟨[.ref t,.ref sl],[]⟩) (ai (ae (Ah ht (ae (sf hTs ?_)))));rw[if_pos (by decide)];refine ae (HT.sliceApplied_gen hs pl pu ?_);rw[h0,h1];show wpAny _ _ (if(((0:Nat):Int)==0&&(1:Int)==1&&(items.size - 0)==items.size)=true then _ else _) _ _ s;rw[if_pos (by simp)];unfold Builtin.Tuple.tupleIsExact;refine ae (ae (sf tt (ai ?_)));rw[if_pos (by decide)];refine ae (tj (ai ⟨_,rfl,ai h⟩))
theorem p6:SlR X (λx lo hi H Q=>∃a xs,x=.ref a/\Bp X.K H a xs/\HT.sIx xs.length 0 lo=0/\HT.sIx xs.length xs.length hi=xs.length/\Q (.ref a) H):=by
 intro pins s σ H x v vl vu lo hi sl Q I rx hs pl pu ⟨a,xs,ex,hx,h0,h1,q⟩;subst ex;cases rx;obtain⟨its,r,ht,hz⟩:=I.tuple hx;have hlen:its.toArray.size=xs.length:=by rw[aw];exact r.length.symm
 exact⟨"tuple",_,gv.lookup,ht.typeIs,o7 ht hs pl pu (by rw[hlen];exact h0) (by rw[hlen];exact h1) ⟨.ref a,H,I,rfl,q⟩⟩
def yJ (x:Dv) (lo hi:Option Int) (h:Hs):Rs Dv:=match x with
 | .ref j=>match getL h j with
  |some xs=>.ok (.ref h.length) (h++[.lst (oG xs lo hi)])
  |none=>.bad
 | .tup xs=>.ok (.tup (oG xs lo hi)) h
 |_=>.bad
theorem p7 {xs:Aw}{lo hi:Option Int}(h0:HT.sIx xs.length 0 lo=0) (h1:HT.sIx xs.length xs.length hi=xs.length):oG xs lo hi=xs:=by unfold oG;rw[h0,h1];simp
def uP (m:M Dv) (lo hi:MO):M Dv:=λρ h=>(m ρ h).bind λx h1=>(lo ρ h1).bind λl h2=>(hi ρ h2).bind λu h3=>yJ x l u h3
theorem p8 {lo hi:Option bo}{ml mh:MO}(ho:aK X G E o mo) (hl:xU X G E lo ml) (hh:xU X G E hi mh):aK X G E (.Subscript o (.Slice lo hi none p2) pos) (uP mo ml mh):=λhK=>
 PE.imp (UC (SlR.or (SlR.or UO UE) p6) (ho hK) (hl hK) (hh hK)) λσ H Q ⟨μ,ρ,h,rs,s,oo⟩=>eG rs s oo λμ1 x h1 vx H1 x1 Bo s1 r1 o1=>by
  refine⟨μ1,ρ,h1,Bo,s1,(o1.bind (R1:=λ_ _ _ a b=>b=a)).mono λl' H2 ⟨μ2,l,h2,x2,s2,el,o2⟩=>?_⟩;subst el;refine⟨μ2,ρ,h2,Bo.mono x2,s2,(o2.bind (R1:=λ_ _ _ a b=>b=a)).mono λu' H3 ⟨μ3,u,h3,x3,s3,eu,o3⟩=>?_⟩;subst eu;have r3:=Bc.mono (x2.trans x3) _ _ r1
  cases x with
  |ref j=>
   dsimp only[yJ]at o3
   cases q:getL h3 j with
   |none=>rw[q]at o3;exact o3.elim
   |some xs=>rw[q]at o3;obtain⟨vs,ea,ra⟩:=s3.ob j _ (cU q);obtain⟨_,rfl⟩:=r3;exact .inl (.inl ⟨_,vs,rfl,Bs.of ea,λp hp=>oX s3 (K8 ra _ _) hp o3⟩)
  |tup xs=>
   dsimp only[yJ]at o3;obtain⟨a,vs,rfl,ea,ra⟩:=r3
   by_cases hw:HT.sIx xs.length 0 l'=0/\HT.sIx xs.length xs.length u'=xs.length
   ·refine .inr ⟨a,vs,rfl,Bp.of ea,by rw[ra.length];exact hw.1,by rw[ra.length];exact hw.2,o3 μ3 _ _ Ext.refl s3 ?_⟩;rw[p7 hw.1 hw.2];exact⟨a,vs,rfl,ea,ra⟩
   ·exact .inl (.inr ⟨a,vs,rfl,Bp.of ea,by rw[ra.length];exact hw,λp hp=>o3 μ3 _ _ (Ext.same (cZ hp)) (s3.same (cZ hp)) ⟨p,_,rfl,dF,RelDL.mono (Ext.same (cZ hp)) _ _ (K8 ra _ _)⟩⟩)
  |_=>exact o3.elim
def iA (x y:Dv) (h:Hs):Rs Dv:=match x,y with
 | .int i,.int j=>.ok (.bl (decide (i<j))) h
 | .tup xs,.tup ys=>match bU gH xs,bU gH ys with
  |some ns,some ms=>.ok (.bl (HT.lexLt ns ms)) h
  |_,_=>.bad
 |_,_=>.bad
theorem NF:∀x y:Aq,HT.lexLt x y=dH x y
 | [],[]=>rfl
 | [],_::_=>rfl
 |_::_,[]=>rfl
 |a::x,b::y=>by
  rw[HT.lexLt_cons,dH,NF x y]
  by_cases h:a=b <;> simp[h]
theorem NG:fX G (λx y H Q=>(jX λi j=>.bl (decide (i<j))) x y H Q∨HQ G.K x y H Q) iA:=by
 intro E μ h H x y vx vy Q s rx ry o;unfold iA at o
 split at o
 ·rename_i i j;exact .inl (qX E μ h H (.int i) (.int j) vx vy Q s rx ry o)
 ·rename_i xs ys
  cases q1:bU gH xs with
  |none=>rw[q1]at o;exact o.elim
  |some ns=>
   cases q2:bU gH ys with
   |none=>rw[q1,q2]at o;exact o.elim
   |some ms=>rw[q1,q2]at o;obtain⟨a,us,rfl,ea,ra⟩:=rx;obtain⟨b,ws,rfl,eb,rb⟩:=ry;exact .inr ⟨a,b,ns,ms,rfl,rfl,Bp.of (by rw[ea,oH ra q1]),Bp.of (by rw[eb,oH rb q2]),o.val s rfl⟩
 ·exact o.elim
theorem NH (g:Good X G E k) (ha:aK X G E a ma) (hb:aK X G E b mb):aK X G E (.Compare a [.Lt] [b] pos) (m2 iA ma mb):=λhK=>qS (Cg.or G4 (HR (by have:=g.room.un;omega))) (by rw[hK];exact NG) ha hb (mX _) hK
theorem NI (g:Good X G E k) (ha:aK X G E a ma) (hb:aK X G E b mb):gW X G E (.Compare a [.Lt] [b] pos) (mB (m2 iA ma mb)):=λhK=>qT (Cg.or G4 (HR (by have:=g.room.un;omega))) (by rw[hK];exact NG) ha hb (mX _) hK
def cE (j:Int):Aq:=(bf j.toNat).map λk:Nat=>(k:Int)
theorem p9:Bi X (.type "range") (λxs H Q=>∃j:Int,xs=[.int j]/\∀l,H l=none->Q (.ref l) (aT H l (.rng 0 j))):=by intro pins s σ H xs us Q I rv ⟨j,e,q⟩;subst e;obtain⟨u,rfl,ru⟩:=iX rv;obtain⟨t,rfl⟩:=ru;refine call_range_1 ⟨.ref s.heap.objs.size,_,I.laid (t':=s.toks+1+1) (o:=.rng 0 j) (λb ob q=>ak _ q) (aj _) ⟨_,_,_,bc _ rfl⟩,rfl,q _ (I.hok.fresh (aj _))⟩
theorem q9 (rm:Bt k X.A):Bi X (.type "list") (λxs H Q=>∃(l:ah) (j:Int),xs=[.ref l]/\H l=some (.rng 0 j)/\0<=j/\j<=1000/\∀D,H D=none->Q (.ref D) (aT H D (.lst ((cE j).map V.int)))):=by
 intro pins s σ H xs us Q I rv ⟨l,j,e,hl,h0,h1,q⟩;subst e;obtain⟨u,rfl,ru⟩:=iX rv;cases ru;obtain⟨t,u,v,hr⟩:=I.hok l _ hl;refine call_list_range (n:=j.toNat) (a:=0) (b:=j) (c:=1) rm.hd hr (small_one (by omega) (by omega) (by omega) (by omega)) ?_ (by omega) λh' tk acc c ke ho ia=>?_
 ·rw[rangeSize_one]
  split <;> omega
 ·have hv:Bd ((cE j).map V.int) acc.toList:=by
   have:∀(n:Nat) (as:List af),as.length=n->(∀(i:Nat) (v:af),as[i]?=some v->∃t,v=Value.int (0+(i:Int)*1) t)->Bd (((bf n).map λk:Nat=>(k:Int)).map V.int) as:=λn=>by
    induction n with
    |zero=>intro as hl _;rw[ua.mp hl];exact .nil
    |succ n ih=>
     intro as hl hi;have hne:as≠[]:=λz=>by rw[z]at hl;cases hl
     have e:=List.dropLast_concat_getLast hne;rw[<-e,ur,gr,gr];have hlast:as[n]?=some (as.getLast hne):=by
      rw[List.getLast_eq_getElem,ay (by omega)]
      congr 2;omega
     obtain⟨t,ht⟩:=hi n _ hlast;refine Bd.append (ih as.dropLast (by simp[hl]) λi v hv=>hi i v ?_) ?_
     ·rw[List.getElem?_dropLast]at hv
      split at hv
      ·exact hv
      ·cases hv
     ·refine .cons ?_ .nil;show RelV (.int (n:Int)) _;rw[ht];exact⟨t,by simp⟩
   refine this j.toNat acc.toList (by simpa using ia.1) λi v hv=>?_;exact ia.2 i v (by simpa using hv)
  refine⟨.ref s.heap.objs.size,_,I.laid (t':=tk) ke (aj _) (show Bh X.prog X.w _ _ _ (.lst ((cE j).map V.int)) from⟨?_,acc.toList,c,hv, ?_⟩),rfl,q _ (I.hok.fresh (aj _))⟩
  ·rw[ba,cE,ba,mf,kr];omega
  ·rw[ho]
def rS:Dv->Hs->Rs Dv
 | .int j,h=>if(decide (0<=j)&&decide (j<=1000))=true then .ok (.ref h.length) (h++[.lst ((cE j).map Dv.int)])else .bad
 |_,_=>.bad
theorem r8 (g:Good X G E k) (hg:Gl X "list") (hm:X.mg "list" = none) (hg2:Gl X "range") (hm2:X.mg "range" = none) (ha:eF X G E [e] aO)
  (he:ar [e] X.env=[(false,eval e X.env)]:=by rfl) (Ed:ar [Expr.Call (.Name "range" p2) [e] [] Di] X.env=[(false,eval (.Call (.Name "range" p2) [e] [] Di) X.env)]:=by rfl):
  aK X G E (.Call (.Name "list" p) [.Call (.Name "range" p2) [e] [] Di] [] pos) (aF (f1 rS) aO):=λhK=>
 PE.imp (wJ (q9 g.room) hg hm xE (iE (wJ p9 hg2 hm2 boot_range (ha hK) (by decide) (by decide) he rfl) jH Ed) (by decide) (by decide) Ed rfl) λσ H Q ⟨μ,ρ,h,rs,s,o⟩=>by
  refine kR rs s o λμ1 ds h1 vs H1 x1 Bo s1 r1 o1=>?_;unfold f1 at o1
  split at o1
  ·rename_i d;obtain⟨v,rfl,rv⟩:=tH r1
   cases d with
   |int j=>
    dsimp only[rS]at o1
    split at o1
    ·rename_i h0;rw[fe]at h0;have j0:0<=j:=by simpa using h0.1
     have j1:j<=1000:=by simpa using h0.2
     rw[Bc]at rv;subst rv;refine⟨j,rfl,λl hl=>?_⟩;have sm:=cZ (o:=.rng 0 j) hl;refine⟨l,j,rfl,dF,j0,j1,λD hD=>?_⟩;exact oX (E:=E) (s1.same sm) (tG _) hD (λμ' H' v x'=>o1 μ' H' v ((Ext.same sm).trans x'))
    ·exact o1.elim
   |_=>exact o1.elim
  ·exact o1.elim
end
section
variable{mo me:M Dv}{ml mh:MO}
end
section
variable{X:Cx}{G:Cfg}{E:XK}{k:Nat}{e a b o:bo}{es:List bo}{mo me ma mb:M Dv}{aO:M Aw }{p p2 pos Di apos cpos np:Pos}{y:Str}
theorem sub_tuple:isSubtype (.type "tuple") (.type "set")=pure false/\isSubtype (.type "tuple") (.type "frozenset")=pure false:=by constructor <;> (rw[isSubtype_type];kernel_rfl)
abbrev NJ (X:Cx):List V->Hp->VK->Prop:=λxs H Q=>∃(p:ah) (vs:List V) (ks:Ap),xs=[.ref p]/\H p=some (.tup vs)/\Bn H vs ks/\(eR dH ks).length<=76/\∀l o kb,H l=none->yG X.prog X.w l o kb->KbOk H kb ks->Q (.ref l) (aT H l (.frz o (.own 0)))
theorem r9 (rm:Bt k X.A):Bi X (.type "set") (NJ X):=by
 intro pins s σ H xs us Q I rv ⟨p,vs,ks,e,hp,ht,hU,q⟩;subst e;obtain⟨u,rfl,ru⟩:=iX rv;cases ru;obtain⟨its,rits,pl,hz⟩:=I.tuple (Bp.of hp);have hits:=NA ht rits;have lp:=I.hok.lt hp;have hI:s.heap.IsTuple p (cD ks.length (fU vs)).toArray:=by rw[<-hits];exact pl
 have Cf:(cD ks.length (fU vs)).toArray.size=ks.length:=by rw[aw,lD]
 have hne:p≠s.heap.objs.size+1:=az (jb lp);have hb:(s.heap.push (bare X.w)).IsTuple p (cD ks.length (fU vs)).toArray:=IsTup.push (items:=(cD ks.length (fU vs)).toArray) hI _;have hs1:(s.heap.push (bare X.w)).objs.size=s.heap.objs.size+1:=zt _ _;have W:=Walks.tuple (prog:=X.prog) (w:=X.w) (A:=X.A.in1.in1.in1) (show X.A.in1.in1.in1.handled=none from rm.hd) (s.heap.objs.size+1) p hne (cD ks.length (fU vs)).toArray;rw[Cf]at W;refine M8 (T := "tuple") (it:={ cls:=.type "tuple_iterator",data:=.fields #[.ref p,.int 0 0] }) (fU vs) (λi=>ks.getD i []) (eR dH ks) (by have:=rm.un;omega) hI.typeIs sub_tuple.1 sub_tuple.2 (by decide) (λB Q' E' hQ=>?_) W (λm=>?_) (λb hb=>?_) ⟨⟨{ cls:=.type "tuple_iterator",data:=.fields #[.ref p,.int 0 0] }, ?_,rfl,rfl⟩,IsTup.push (items:=(cD ks.length (fU vs)).toArray) hb _⟩ (λi v hv=>?_) hU (λi hi=>?_) (λj hj=>DP I (ht.at_ hj).2) λh' tk kb hS Er k=>?_
 ·refine sr hb ?_;rw[<-hs1]at hQ;exact hQ
 ·rcases bh.mp m with z|m
  ·exact pz _ z.symm
  ·exact jn lp (bz.mp m)
 ·rw[bz.mp hb];exact jm _
 ·rw[<-hs1];exact bc _ rfl
 ·have hi:i<ks.length:=by have:=(du.mp hv).1;rwa [Cf]at this
  have:(cD ks.length (fU vs))[i]?=some (.ref (fU vs i)):=by simp[cD,hi]
  rw[zv,this]at hv;exact(cw hv).symm
 ·refine(nK Dd _ _).mpr ?_;show ks.getD i []∈ks;simp[hi]
 ·obtain⟨o,es,ep,t,P⟩:=hS;refine⟨.ref s.heap.objs.size,_,I.laid (t':=tk) (o:=.frz o (.own 0)) k (aj _) ⟨P.obj,o,P.obj⟩,rfl,q _ o kb (I.hok.fresh (aj _)) ⟨es,ep,t,λh e=>P.at' e⟩ ⟨λz hz=>?_,λz hz=>?_,λz hz=>?_⟩⟩
  ·obtain⟨j,hj,rfl⟩:=Er.from_ z hz;exact(ht.at_ hj).2
  ·obtain⟨j,hj,rfl⟩:=Er.from_ z hz;show ks.getD j []∈ks;simp[hj]
  ·obtain⟨j,hj,rfl⟩:=jw hz;have:=Er.all j hj;simpa[hj]using this
theorem t9 (rm:Bt k X.A):Bi X (.type "set") (λxs H Q=>NB X xs H Q∨NJ X xs H Q):=by
 intro pins s σ H xs us Q I rv h
 rcases h with h|h
 ·exact m6 rm pins s σ H xs us Q I rv h
 ·exact r9 rm pins s σ H xs us Q I rv h
def pQ (x:Dv) (h:Hs):Option Ap :=match x with
 | .ref i=>match getL h i with
  |some xs=>bU rR xs
  |none=>none
 | .tup xs=>bU rR xs
 |_=>none
def mF (x:Dv) (h:Hs):Rs Dv:=match pQ x h with
 |some ks=>if(yI ks&&decide ((eR dH ks).length<64))=true then .ok (.ref h.length) (h++[.lst ((eR dH ks).map yH)])else .bad
 |none=>.bad
theorem NK (g:Good X G E k) (hg:Gl X "sorted") (hm:X.mg "sorted" = none) (hg2:Gl X "set") (hm2:X.mg "set" = none) (ha:eF X G E [e] aO)
  (he:ar [e] X.env=[(false,eval e X.env)]:=by rfl) (Ed:ar [Expr.Call (.Name "set" p2) [e] [] Di] X.env=[(false,eval (.Call (.Name "set" p2) [e] [] Di) X.env)]:=by rfl):
  aK X G E (.Call (.Name "sorted" p) [.Call (.Name "set" p2) [e] [] Di] [] pos) (aF (f1 mF) aO):=λhK=>
 PE.imp (sR (m8 g.room) hg hm ZA (iE (wJ (t9 g.room) hg2 hm2 n9 (ha hK) (by decide) (by decide) he rfl) jH Ed) (by decide) (by decide) Ed rfl) λσ H Q ⟨μ,ρ,h,rs,s,o⟩=>by
  refine kR rs s o λμ1 ds h1 vs H1 x1 Bo s1 r1 o1=>?_;unfold f1 at o1
  split at o1
  ·rename_i d;obtain⟨v,rfl,rv⟩:=tH r1;unfold mF at o1
   cases q:pQ d h1 with
   |none=>rw[q]at o1;exact o1.elim
   |some ks=>
    rw[q]at o1;dsimp only at o1
    split at o1
    ·rename_i h0;rw[fe]at h0;have h64:(eR dH ks).length<64:=by simpa using h0.2
     have fin:∀(l:ah) (o:Obj) (kb:KB),H1 l=none->yG X.prog X.w l o kb->KbOk H1 kb ks->NC X [.ref l] (aT H1 l (.frz o (.own 0))) Q:=λl o kb hl so ko=>by have sm:=cZ (o:=.frz o (.own 0)) hl;refine⟨l,o,kb,ks,rfl,dF,so,⟨λp hp=>sm _ _ (ko.tup p hp),ko.frm,ko.all⟩,m9 h0.1,h64,λD Cc hD ht=>?_⟩;exact oX (E:=E) (s1.same sm) (ND ht) hD (λμ' H' v x'=>o1 μ' H' v ((Ext.same sm).trans x'))
     cases d with
     |ref i=>
      dsimp only[pQ]at q
      cases q1:getL h1 i with
      |none=>rw[q1]at q;cases q
      |some xs=>rw[q1]at q;obtain⟨vs,e1,r2⟩:=s1.ob i _ (cU q1);obtain⟨_,rfl⟩:=rv;exact .inl ⟨_,vs,ks,rfl,e1,DQ r2 q,by omega,fin⟩
     |tup xs=>obtain⟨a,vs,rfl,e1,r2⟩:=rv;exact .inr ⟨_,vs,ks,rfl,e1,DQ r2 q,by omega,fin⟩
     |_=>cases q
    ·exact o1.elim
  ·exact o1.elim
end
theorem NL {α β:Type}{f g:α->Option β}:∀l:List α,(∀x∈l,f x=g x)->l.filterMap f=l.filterMap g
 | [],_=>rfl
 |x::l,h=>by rw[br,br,h x (by simp),NL l λy hy=>h y (by simp[hy])]
section
variable{X:Cx}{G:Cfg}{E:XK}{o:bo}{mo:M Dv}{ms:MO}{se:bo}{p2 pos:Pos}
end
end L2.Mr
namespace L2.Mr.Com
open PySem PySem.Spec PyProof.Rows L2 L2.Mr
def DR:MS:=(aN (dX (m1 (bB rJ) (aA 0)) (m1 qV (m1 (bB nF) (aA 0)))))
def F_q3:Av:=aW 1 1 (DR)
def yK:MS:=(aN (dX (aF F_q3 (aB (aA 0) aC)) (qU rF rF (aA 1) (aA 0) (aA 2))))
def F_qo:Av:=aW 3 3 (yK)
def NM:MS:=(aN (mL kB (bC (aO rD (aB (aA 0) (aB (uP (aA 0) (tX (mC (.int 1))) tW) aC))) [none,none] (cM 2 (bA (aD 0) (bA (aD 1) cP))) bT (aY (m2 iA (aA 0) (aA 1))))))
def F_qz:Av:=aW 1 1 (NM)
def DS:MS:=(aN (aF F_qo (aB (aA 1) (aB (mC (.int 0)) (aB (m2 hO (aA 0) (mC (.int 1))) aC)))))
def F_q2:Av:=aW 2 2 (DS)
def yL:MS:=(aN (dX (m1 (bB hV) (aA 1)) (mL kB (bC (aX fZ (aA 1)) [none,some 0] (aD 0) bT (aY (aF F_q2 (aB (aA 1) (aB (aA 0) aC))))))))
def F_qm:Av:=aW 2 2 (yL)
def rT:MS:=(aN (dX (aF F_qm (aB (aA 0) (aB (aA 1) aC))) (m2 cA (aF (f1 eW) (aB (aA 1) aC)) (mC (.int 2)))))
def F_q5:Av:=aW 2 2 (rT)
def DT:MS:=(aN (mL kB (bC (aX fZ (aA 1)) [none,some 0] (aD 0) bT (aY (aF F_q5 (aB (aA 1) (aB (aA 0) aC)))))))
def F_qw:Av:=aW 2 2 (DT)
def NN:MS:=(aN (mL tN (bC (aX fZ (aA 0)) [none,none] (cM 2 (bA (aD 0) (bA (aD 1) cP))) bT (aY (m2 cA (aA 0) (aA 1))))))
def F_qy:Av:=aW 1 1 (NN)
def NO:MS:=(aN (mL kB (bC (aX fZ (aA 0)) [none,none,none,none,some 0] (cM 2 (bA (aD 0) (bA (aD 1) cP))) bT (iH (aX fZ (aA 4)) (cM 2 (bA (aD 2) (bA (aD 3) cP))) (mB (m2 cA (aA 1) (aA 2))) (aY (m2 (cS false) (aL (aB (aA 0) (aB (aA 3) aC))) (aA 4)))))))
def F_qh:Av:=aW 1 1 (NO)
def pR:MS:=(aH (bX (gX (eJ (cB (m1 (bB hV) (aA 0)))) (mB (m2 dG (aF (f1 eW) (aB (aA 0) aC)) (mC (.int 2))))) (aN (mC (.bl false))) cO) (aH (aJ (aA 0) (cM 2 (bA (aD 1) (bA (aD 2) cP)))) (aH (bX (gX (eJ (cB (aF F_qo (aB (aA 1) (aB (mC (.int 1)) (aB (mC (.int 6)) aC)))))) (eJ (cB (m1 (bB hV) (aA 2))))) (aN (mC (.bl false))) cO) (aH (bX (gX (eJ (cB (aF F_qw (aB (aA 1) (aB (aA 2) aC))))) (eJ (cB (aF F_qz (aB (aA 2) aC))))) (aN (mC (.bl false))) cO) (aN (dX (m1 qV (aF F_qy (aB (aA 2) aC))) (aF F_qh (aB (aA 2) aC))))))))
def F_q1:Av:=aW 1 3 (pR)
def yM (scr:Aq):MS:=(aH (bX (mB (m2 iA (aA 1) (aF (f1 (iQ scr)) (aB (aA 0) aC)))) (aN (m2 (gY scr) (aA 0) (aA 1))) cO) (aN (mC (.int 0))))
def F_qe (scr:Aq):Av:=aW 2 2 (yM scr)
def yN (scr:Aq):MS:=(aH (aJ (aF (F_qe scr) (aB (aA 0) (aB (aA 1) aC))) (aD 2)) (aH (bX (mB (m2 xV (aA 2) (m2 tY (mC (.int 10)) (mC (.int 18))))) (aN (aV (aB (m2 hO (aA 2) (m2 tY (mC (.int 10)) (mC (.int 18)))) (aB (mC (.bl true)) aC)))) cO) (aN (aV (aB (m2 lX (aA 2) (mC (.int 2147483647))) (aB (mC (.bl false)) aC))))))
def F_ql (scr:Aq):Av:=aW 2 3 (yN scr)
def DU:MS:=(aH (bX (cB (m2 aR (aA 0) (mC (.int 1)))) (aH (aJ (m2 lX (m2 aR (aA 0) (mC (.int 0))) (aA 1)) (aD 2)) (aH (tQ (aA 0) (mC (.int 0)) (m2 uD (m2 aR (aA 0) (mC (.int 0))) (aA 1))) (aN (aA 2)))) cO) (aH (tQ (aA 0) (mC (.int 0)) (m2 lX (m2 bF (m2 pJ (m2 aR (aA 0) (mC (.int 0))) (mC (.int 48271))) (mC (.int 29))) (mC (.int 2147483647)))) (aH (aJ (m2 lX (m2 bF (m2 bF (m2 pJ (m2 aR (aA 0) (mC (.int 0))) (m2 aR (aA 0) (mC (.int 0)))) (m2 pJ (mC (.int 39373)) (m2 aR (aA 0) (mC (.int 0))))) (mC (.int 7))) (mC (.int 2147483629))) (aD 3)) (aH (aJ (m2 lX (m2 bF (m2 pJ (aA 3) (aA 3)) (m2 pJ (mC (.int 16807)) (aA 3))) (mC (.int 2147483587))) (aD 3)) (aN (m2 lX (m2 uD (aA 3) (mC (.int 8))) (aA 1)))))))
def F_qu:Av:=aW 2 4 (DU)
def DV:MS:=(aH (aJ (aF (f1 kY) (aB (aA 1) aC)) (aD 2)) (aH (aJ (aV aC) (aD 3)) (aH (jE (mB (m2 dG (aA 2) (aV aC))) (cT (eO (aA 3) (tV (aA 2) (aF F_qu (aB (aA 0) (aB (aF (f1 eW) (aB (aA 2) aC)) aC)))))) 40) (aN (aA 3)))))
def F_qc:Av:=aW 2 4 (DV)
def jL:MS:=(aH (aJ (aF (f1 mF) (aB (aA 0) aC)) (aD 1)) (jE (cB (mC (.bl true))) (aH (aJ (aF (f1 kY) (aB (aA 1) aC)) (aD 2)) (aH (cX (aX bG (aA 1)) (cM 2 (bA (aD 3) (bA (aD 4) cP))) (cT (pI (aA 2) (bC (aX bG (aA 1)) [none,none,some 3,some 4] (cM 2 (bA (aD 0) (bA (aD 1) cP))) (mB (m2 cA (aA 3) (aA 0))) (aY (aL (aB (aA 2) (aB (aA 1) aC)))))))) (aH (aJ (aF (f1 mF) (aB (aA 2) aC)) (aD 2)) (aH (bX (mB (m2 cA (aA 2) (aA 1))) (aN (aA 1)) cO) (aJ (aA 2) (aD 1)))))) 40))
def F_qg:Av:=aW 1 5 (jL)
def jM:MS:=(aH (aJ (m2 hO (aA 1) (m2 aR (aV (aB (mC (.int 0)) (aB (mC (.int 0)) (aB (mC (.int 1)) (aB (mC (.int 2)) (aB (mC (.int 0)) (aB (mC (.int 3)) (aB (mC (.int 1)) (aB (mC (.int 4)) aC))))))))) (aF F_qu (aB (aA 0) (aB (mC (.int 8)) aC))))) (aD 2)) (aH (aJ (aF nA (aB (mC (.int 1)) (aB (aA 2) aC))) (aD 2)) (aH (aJ (aF F_qc (aB (aA 0) (aB (aF (f1 rS) (aB (aA 2) aC)) aC))) (aD 3)) (aH (aJ (aF F_qu (aB (aA 0) (aB (mC (.int 5)) aC))) (aD 4)) (aH (aJ (aV aC) (aD 5)) (aH (aJ (aZ (bC (aX bG (aA 3)) [none,some 0] (aD 0) bT (aY (aF F_qu (aB (aA 1) (aB (mC (.int 3)) aC)))))) (aD 6)) (aH (cX (aO bY (aB (aA 2) aC)) (aD 7) (cX (aO gM (aB (m2 bF (aA 7) (mC (.int 1))) (aB (aA 2) aC))) (aD 8) (aH (aJ (aV (aB (m2 cA (aF F_qu (aB (aA 0) (aB (mC (.int 6)) aC))) (mC (.int 0))) (aB (m2 cA (aF F_qu (aB (aA 0) (aB (mC (.int 2)) aC))) (mC (.int 0))) (aB (m2 kE (aF F_qu (aB (aA 0) (aB (mC (.int 4)) aC))) (mC (.int 0))) aC)))) (aD 9)) (aH (aJ (m2 bF (aA 9) (aV (aB (m2 iA (m2 aR (aA 6) (aA 7)) (m2 aR (aA 6) (aA 8))) (aB (m2 cA (m2 aR (aA 6) (aA 7)) (m2 aR (aA 6) (aA 8))) aC)))) (aD 9)) (bX (cB (m2 aR (aA 9) (aA 4))) (cT (eO (aA 5) (aL (aB (m2 aR (aA 3) (aA 7)) (aB (m2 aR (aA 3) (aA 8)) aC))))) cO))))) (aH (bX (mB (m2 cA (aA 4) (mC (.int 3)))) (aH (aJ (aV aC) (aD 5)) (cX (aO bY (aB (aA 2) aC)) (aD 7) (aJ (m2 bF (aA 5) (aZ (bC (aO bY (aB (aA 2) aC)) [none,some 7,some 6] (aD 0) (mB (m2 iA (m2 aR (aA 2) (aA 1)) (m2 aR (aA 2) (aA 0)))) (aY (aL (aB (aA 1) (aB (aA 0) aC))))))) (aD 5)))) cO) (aN (aL (aB (aA 2) (aB (aF (f1 nB) (aB (aF F_qg (aB (aA 5) aC)) aC)) aC))))))))))))
def F_qk:Av:=aW 2 10 (jM)
def jN:MS:=(aH (aJ (aV (aB (mC .non) (aB (mC (.int 0)) (aB (aL aC) (aB (aL (aB (mC (.int 0)) (aB (aL aC) aC))) (aB (aL (aB (mC (.int 7)) (aB (aL aC) aC))) (aB (aL (aB (mC (.bl true)) (aB (aL aC) aC))) (aB (aL (aB (mC (.int 2)) (aB (aV aC) aC))) (aB (aV (aB (mC (.int 2)) (aB (aL aC) aC))) (aB (aL (aB (mC (.int 2)) (aB (aL (aB (aL (aB (mC (.int 0)) (aB (mC (.int 1)) aC))) (aB (aL (aB (mC (.int 0)) (aB (mC (.int 1)) aC))) aC))) aC))) (aB (aL (aB (mC (.int 2)) (aB (aL (aB (aL (aB (mC (.int 1)) (aB (mC (.int 0)) aC))) (aB (aL (aB (mC (.int 0)) (aB (mC (.int 1)) aC))) aC))) aC))) aC))))))))))) (aD 1)) (aH (aJ (m2 bF (aA 1) (aV (aB (aL (aB (mC (.int 3)) (aB (aL (aB (aL (aB (mC (.int 0)) (aB (mC (.int 1)) aC))) (aB (aL (aB (mC (.int 1)) (aB (mC (.int 2)) aC))) aC))) aC))) (aB (aL (aB (mC (.int 2)) (aB (aL (aB (aL (aB (mC (.int 0)) (aB (mC (.int 0)) aC))) aC)) aC))) (aB (aL (aB (mC (.int 2)) (aB (aL (aB (aL (aB (mC (.int 0)) (aB (mC (.int 2)) aC))) aC)) aC))) (aB (aL (aB (mC (.int 2)) (aB (aL (aB (aL (aB (mC (.int 0)) (aB (mC (.bl true)) aC))) aC)) aC))) (aB (aL (aB (mC (.int 2)) (aB (aL (aB (aL (aB (mC (.int 0)) (aB (mC (.int 1)) (aB (mC (.int 1)) aC)))) aC)) aC))) (aB (mC .edc) aC)))))))) (aD 1)) (aH (aJ (m2 bF (aA 1) (aV (aB (mC (.str "2:")) (aB (aL (aB (mC (.int 2)) (aB (aL (aB (mC (.int 0)) (aB (mC (.int 1)) aC))) aC))) (aB (aL (aB (mC (.int 3)) (aB (aL (aB (aL (aB (mC (.int 0)) (aB (mC (.int 2)) aC))) (aB (aL (aB (mC (.int 0)) (aB (mC (.int 1)) aC))) aC))) aC))) (aB (aL (aB (mC (.int 2)) (aB (mC .non) aC))) (aB (aL (aB (mC (.int 2)) (aB (aL aC) (aB (aL aC) aC)))) (aB (aL (aB (mC (.int 2)) aC)) (aB (aL (aB (mC (.int 2)) (aB (aL (aB (aV (aB (mC (.int 0)) (aB (mC (.int 1)) aC))) aC)) aC))) (aB (aL (aB (mC (.int 2)) (aB (aL (aB (mC .non) aC)) aC))) aC)))))))))) (aD 1)) (aN (m2 aR (aA 1) (aF F_qu (aB (aA 0) (aB (mC (.int 24)) aC))))))))
def F_qb:Av:=aW 1 2 (jN)
end L2.Mr.Com
namespace L2.Mr
open PySem PySem.Spec PyProof.Rows
structure Lm where
 Nl:Au
 par:km
 bod:bo
 scp:gh
 caps:As
 me:M Dv
def Dn (G:Cf0) (env:Env) (L:Lm) (H:Hp) (a:ah):Prop:=∃c' pm ctv oc,H a=some (.frz (kz "<lambda>" G.lq L.par L.bod L.scp (dO env L.scp.names []) pm c' ctv) (.own 0))/\H c'=some (.frz oc (.own 0))/\xA G.lq oc
theorem Dn.keep {G:Cf0}{env:Env}{L:Lm}{H H':Hp}{a:ah}(h:Dn G env L H a) (k:∀a o,wZ o->H a=some o->H' a=some o):Dn G env L H' a:=by obtain⟨c',pm,ctv,oc,h1,h2,h3⟩:=h;exact⟨c',pm,ctv,oc,k _ _ trivial h1,k _ _ trivial h2,h3⟩
def iW (k t:Nat):M Dv:=λ_ h=>if t<=h.length then .ok (.ref h.length) (h++[.clo k t])else .bad
section
variable{X:Cx}{G:Cfg}{E:XK}{c P:ah}{lpos:Pos}{k t:Nat}
theorem u0 (L:Lm) (Fc:defaultsOf L.par X.env=([],[])) (hq:X.env.qual ++ "<lambda>" = G.lq) (hP:G.tab=some P) (Dx:X.env.code=.ref c) (hC:md X.base c P) (hB:lV X.mg X.base)
  (LS:Br L.Nl L.scp) (Dw:∀y∈L.Nl,X.env.scope.names.lookup y=some .cell) (hG:∀μ n H a,Dn G X.env L H a->G.clo μ n H k t a):
  aK X G E (.Lambda L.par L.bod L.scp lpos) (iW k t):=λhK=>by
 have hfree:∀y,(y,cb)∈L.scp.names->X.env.kindOf y=some .cell∨X.env.kindOf y=some .free:=λy hy=>.inl (Dw y (LS.all _ hy rfl));refine PE.imp (X1 (G:=G) (lpos:=lpos) (body:=L.bod) Fc hq hP Dx hC hB hfree) λσ H Q ⟨μ,ρ,h,rs,sm,o⟩=>⟨sm.tab,λf c' pm ctv oc H1 hf st tb e1 e2 e3=>?_⟩
 unfold iW at o
 split at o
 ·rename_i ht;have hl:(h++[Ob.clo k t]).length=h.length+1:=by simp
  have hne:=sm.not hf;have x:Ext μ h.length H (λi=>if i=h.length then f else μ i) (h++[Ob.clo k t]).length H1:=⟨by omega,λi hi=>if_neg (az hi),λa u im z=>st a u (λps w=>by subst w;exact im) z⟩
  refine o _ H1 (.ref f) x ⟨λi j hi hj e=>?_,λi ob q=>?_,tb⟩ ⟨by omega,by show V.ref f=V.ref (if h.length=h.length then f else μ h.length);rw[if_pos rfl]⟩
  ·rw[hl]at hi hj
   by_cases h1:i=h.length <;> by_cases h2:j=h.length
   ·omega
   ·rw[if_pos h1,if_neg h2]at e;exact absurd e.symm (hne j (by omega))
   ·rw[if_neg h1,if_pos h2]at e;exact absurd e (hne i (by omega))
   ·rw[if_neg h1,if_neg h2]at e;exact sm.inj i j (by omega) (by omega) e
  ·by_cases h1:i<h.length
   ·rw[ff h1]at q;have r1:=sm.ob i ob q;rw[if_neg (az h1)]
    cases ob with
    |lst xs=>obtain⟨ws,z1,z2⟩:=r1;exact⟨ws,st _ _ (λ_ w=>by cases w) z1,RelDL.mono x _ _ z2⟩
    |clo k t=>exact r1.clo x
   ·rw[fv (by omega)]at q;have h2:i=h.length:=by have:=(ax.mp q).1;simp at this;omega
    subst h2;simp at q;subst q;rw[if_pos rfl];exact⟨by omega,⟨_,_,e1⟩,hG _ _ _ _ ⟨c',pm,ctv,oc,e1,e2,e3⟩⟩
 ·exact o.elim
end
def Cfg.wf (G:Cfg) (env:Env) (t0:Nat) (ls:Nat->Option Lm):Cfg:=
 { G with
  clo:=λμ n H k t a=>G.clo μ n H k t a/\∀L,ls k=some L->t=t0->Dn G env L H a
  cloM:=λx ⟨h1,h2⟩=>⟨G.cloM x h1,λL e1 e2=>(h2 L e1 e2).keep x.im⟩ }
section
variable{G:Cfg}{env:Env}{t0:Nat}{ls:Nat->Option Lm}{μ:Nat->ah}{h:Hs}{H:Hp}
theorem Bk.wf (s:Bk G μ h H):Bk (G.wf env h.length ls) μ h H:=⟨s.inj,λi o q=>by
 have r:=s.ob i o q
 cases o with
 |lst xs=>exact r
 |clo k t=>obtain⟨h1,h2,h3⟩:=r;exact⟨h1,h2,h3,λL _ e=>absurd e (az h1)⟩,s.tab⟩
theorem Bk.unwf (s:Bk (G.wf env t0 ls) μ h H):Bk G μ h H:=⟨s.inj,λi o q=>by
 have r:=s.ob i o q
 cases o with
 |lst xs=>exact r
 |clo k t=>obtain⟨h1,h2,h3,_⟩:=r;exact⟨h1,h2,h3⟩,s.tab⟩
end
def uQ (p n:Nat) (mb:Nat->MS):Av:=λds h=>if ds.length=p then bH (mb h.length (bV n ds) h)else .bad
section
variable{P:bj}{w:cq}{K:ao}{mg:Str->Option af}{base:cx}{N:Au}{f:ah}{G:Cfg}{k:Nat}{ls:Nat->Option Lm}
theorem u5 {x qual:Str}{st:gz}{fd:bq}{ps:Au}{mb:Nat->MS}(Fn:B' K x qual st f fd) (S:Bb N ps (aU st)) (hK:K=G.K)
  (Bw:∀(cdv:af) (A:cm) (outer:List Env) (s:ag) (H:Hp) (E₀ E:XK) (t:Nat),fd.code=cdv->Good (fR (bI P w base) P w K mg base N qual (aU st) f cdv A outer s H E₀) (G.wf (fR (bI P w base) P w K mg base N qual (aU st) f cdv A outer s H E₀).env t ls) E k->
   jQ (fR (bI P w base) P w K mg base N qual (aU st) f cdv A outer s H E₀) (G.wf (fR (bI P w base) P w K mg base N qual (aU st) f cdv A outer s H E₀).env t ls) E (iG st) (mb t)):
  Bg P w K mg base (bI P w base) (k+1) f fd ps (cR G (uQ ps.length N.length mb)):=by
 obtain⟨oc,od,kV,doc,pm,an,cdv,ct,osl,rfl,lk,hcd⟩:=Fn.ex;have hlen:∀vs H Q E,cR G (uQ ps.length N.length mb) vs H Q E->vs.length=ps.length:=λvs H Q E ⟨μ,h,ds,r,sm,o⟩=>by
  rw[r.length];unfold uQ at o
  by_cases hd:ds.length=ps.length
  ·exact hd
  ·rw[if_neg hd]at o;exact o.elim
 refine BA lk hcd S hlen λA outer s H vs Q E hr hsp=>?_;have hl:=hlen _ _ _ _ hsp;obtain⟨μ,h,ds,r,sm,o⟩:=hsp;have o':Out G E μ h.length H (bH (mb h.length (bV N.length ds) h)) (Bc G) Q:=by unfold uQ at o;rw[if_pos (by rw[<-r.length];exact hl)]at o;exact o
 generalize hX:(fR (bI P w base) P w K mg base N qual (aU st) f cdv A outer s H E).env=env;have hb:=Bw cdv A outer s H E (EB (G.wf env h.length ls) μ h.length H (mb h.length (bV N.length ds) h)) h.length rfl;rw[hX]at hb;refine⟨_,hb (CF hr hK (λu H' ⟨c,h',μ',er,x,s',fl⟩=>?_) CH) hK, ?_⟩
 ·rw[er]at o';exact o' μ' H' u x s'.unwf fl
 ·refine⟨μ,bV N.length ds,h,⟨(CG (G:=G) r N).len,(CG (G:=G) r N).at_⟩,sm.wf, ?_⟩
  cases q:mb h.length (bV N.length ds) h with
  |bad=>rw[q]at o';exact o'.elim
  |bk ρ h'=>rw[q]at o';exact o'.elim
  |ct ρ h'=>rw[q]at o';exact o'.elim
  |rt d h'=>rw[q]at o';exact λμ' H' v x' s' r'=>o' μ' H' v x' s'.unwf r'
  |nx ρ h'=>rw[q]at o';exact λμ' H' σ' x' s' rs'=>o' μ' H' .non x' s'.unwf rfl
  |ex c h'=>exact λμ' H' u x' s' fl=>⟨c,h',μ',rfl,x',s',fl⟩
end
def gI (h:Hs) (j:Nat):Option (Nat×Nat):=match h[j]? with
 |some (.clo k t)=>some (k,t)
 |_=>none
def lF (lc:Nat->Option (As×M Dv)) (t n ncl:Nat) (mb:MS) (ρ:Ev):M Dv:=λρb h=>match (ρb[0]?:Option Ax )with
 |some (some (Dv.ref j))=>(match gI h j with
  |some (k,t')=>if t'=t then(match lc k with
   |some (caps,me)=>(match oF caps ρ with
    |some ds=>tT n ncl mb (me (ds.map some) h)
    |none=>.bad)
   |none=>.bad)else .bad
  |none=>.bad)
 |_=>.bad
def pS (mi:M Src) (lc:Nat->Option (As×M Dv)) (t n ncl:Nat) (mb:MS):M Aw :=λρ h=>bC mi [none] (aD 0) bT (aY (lF lc t n ncl mb ρ)) ρ h
def DW (G:Cfg) (ρ:Ev) (σ:St) (me:M Dv):TE:=λσb H Q=>∃μ ρb h,Bf G μ h.length H ρ σ/\Bf G μ h.length H ρb σb/\Bk G μ h H/\Out G L2.E0 μ h.length H (me ρb h) (Bc G) Q
section
variable{G:Cfg}
theorem u6 {src:Src}{st:dQ}{me:M Dv}{ti:TC}{J:It}{μ1:Nat->ah}{h1:Hs}{H1:Hp}{ρ:Ev}{σ:St}{ρb ρ':Ev}{σb:St}{xs xs':Aw}{vs:List V}{h':Hs}{K:St->Hp->List V->Prop}
  (hti:∀σb H vs K,wU (DW G ρ σ me) σb H vs K->ti σb H vs K)
  (ok:Ce G μ1 h1.length H1 src J) (ro:Bf G μ1 h1.length H1 ρ σ) (rs:Bf G μ1 h1.length H1 ρb σb) (s1:Bk G μ1 h1 H1) (r:RelDL G μ1 h1.length H1 xs vs) (e:eV src st bT (aY me) src.n 0 ρb h1 xs=.ok (ρ',xs') h')
  (k:∀μ' H' σ' Cc,Ext μ1 h1.length H1 μ' h'.length H'->Bk G μ' h' H'->Bf G μ' h'.length H' ρ' σ'->RelDL G μ' h'.length H' xs' Cc->K σ' H' Cc):
  qQ J (rB G st) IP ti K σb H1 vs:=by
 refine⟨λi m σ H vs=>∃μ2 ρ2 h2 xs2,Ext μ1 h1.length H1 μ2 h2.length H/\Bf G μ2 h2.length H ρ2 σ/\Bk G μ2 h2 H/\RelDL G μ2 h2.length H xs2 vs/\i+m=src.n/\eV src st bT (aY me) m i ρ2 h2 xs2=.ok (ρ',xs') h',⟨src.n,μ1,ρb,h1,xs,Ext.refl,rs,s1,r,zm _,e⟩, ?_⟩
 rintro i m σ2 H2 Ex ⟨μ2,ρ2,h2,xs2,x2,Cw,s2,r2,him,e2⟩
 cases m with
 |zero=>
  unfold eV at e2
  split at e2
  ·rename_i hf;cases e2;exact .inl ⟨(ok i μ2 _ H2 x2 s2).2 (by omega) hf,k μ2 H2 σ2 Ex x2 s2 Cw r2⟩
  ·cases e2
 |succ m=>
  unfold eV at e2
  cases q:src.get i h2 with
  |none=>rw[q]at e2;cases e2
  |some d=>
   rw[q]at e2;dsimp only at e2
   cases q2:st d ρ2 with
   |none=>rw[q2]at e2;cases e2
   |some ρ3=>
    rw[q2]at e2;dsimp only[bT]at e2;obtain⟨go,yl⟩:=(ok i μ2 h2 H2 x2 s2).1 (by omega) d q;refine .inr ⟨go,λσ' H' Cc=>∃μ3 ρ4 h4 xs4,Ext μ1 h1.length H1 μ3 h4.length H'/\Bf G μ3 h4.length H' ρ4 σ'/\Bk G μ3 h4 H'/\RelDL G μ3 h4.length H' xs4 Cc/\(i+1)+m=src.n/\eV src st bT (aY me) m (i+1) ρ4 h4 xs4=.ok (ρ',xs') h',
     λσ' H' Cc z=>⟨m,jm m,z⟩,λx H' hy=>?_⟩
    obtain⟨sm,rx⟩:=yl x H' hy;have xsm:Ext μ2 h2.length H2 μ2 h2.length H':=Ext.same sm;refine⟨μ2,ρ2,h2.length,d,ρ3,Cw.mono xsm,rx,q2,λσ3 rs3=>?_⟩;show ti σ3 H' Ex _;refine hti _ _ _ _ ⟨μ2,ρ3,h2,ro.mono (x2.trans xsm),rs3,s2.same sm, ?_⟩;unfold aY at e2
    cases q4:me ρ3 h2 with
    |bad=>rw[q4]at e2;cases e2
    |ex c h5=>rw[q4]at e2;cases e2
    |ok d' h5=>
     rw[q4]at e2;dsimp only at e2
     by_cases hl:xs2.length<1000000
     ·rw[if_pos hl]at e2;intro μ6 H6 v x6 s6 r6;refine⟨by rw[r2.length];exact av hl (by decide),μ6,ρ3,h5,xs2++[d'],(x2.trans xsm).trans x6,rs3.mono x6,s6,(RelDL.mono (xsm.trans x6) _ _ r2).append (RelDL.cons r6 RelDL.nil),by omega,e2⟩
     ·rw[if_neg hl]at e2;cases e2
end
section
variable{X:Cx}{G:Cfg}{E:XK}{k:Nat}{q x y:Str}{p p2 py pos ps:Pos}{fr:ah}{fdr:bq}{n ncl j t:Nat}{mb:MS}{ls:Nat->Option Lm}{lc:Nat->Option (As×M Dv)}{sc:gh}{iter:bo}{mi:M Src}
theorem u7 {pins0:List (ah×Obj)}{s0:ag}{σ:St}{H0:Hp}{ex:List ah}{ρ:Ev}(g:Good X G E k) (hj:j<=k) (hfn:∀y,X.fn y=true)
  (F:∀k L,ls k=some L->∀base,X.K.In base->base.Ns dj X.mg->Bg X.prog X.w X.K X.mg base (bI X.prog X.w base) j fr fdr [x] (lU G base L.Nl L.par L.bod L.scp L.me n ncl mb))
  (hg:Gl (bZ X sc [y] s0 H0 ex) q) (hv:mV (bZ X sc [y] s0 H0 ex).env.scope y) (hm:X.mg q=some (.ref fr)) (hk:ki X.K (.ref fr)=true) (hb:Binds X.K fdr [x] [])
  (hL:∀k L,ls k=some L->Br L.Nl L.scp/\(∀z∈L.Nl,X.env.scope.names.lookup z=some .cell)/\L.caps.length=L.Nl.length/\∀(i j:Nat) (z:Str),L.caps[i]?=some j->L.Nl[i]?=some z->X.N[j]?=some z)
  (hG:∀μ n H k L a,ls k=some L->G.clo μ n H k t a->Dn G X.env L H a) (hlc:∀k c m,lc k=some (c,m)->∃L,ls k=some L/\L.caps=c/\L.me=m)
  (hd1:(y==("__debug__" : Str))=false) (hd2:(y==("__classdict__" : Str))=false) (Dq:(q==("__debug__" : Str))=false)
  (I0:Inv X pins0 σ H0 s0) (hex:∀b∈ex,dN X pins0 H0 b/\b<s0.heap.objs.size):
  PE (bZ X sc [y] s0 H0 ex) (.Call (.Name q p) [.Name y p2] [] pos) (DW G ρ σ (lF lc t n ncl mb ρ)):=by
 intro pins s σb H Q I ⟨μ,ρb,h,ro,rs,sm,o⟩;unfold lF at o
 split at o
 rotate_left
 ·exact o.elim
 rename_i i hρ
 split at o
 rotate_left
 ·exact o.elim
 rename_i kk t' hca
 split at o
 rotate_left
 ·exact o.elim
 rename_i ht;subst ht
 split at o
 rotate_left
 ·exact o.elim
 rename_i caps me hlk;obtain⟨L,hls,rfl,rfl⟩:=hlc _ _ _ hlk
 split at o
 rotate_left
 ·exact o.elim
 rename_i ds hcd;obtain⟨hdl,hdg⟩:=K1 hcd;obtain⟨LS,Dw,hcl,hcap⟩:=hL kk L hls;have hob:h[i]?=some (.clo kk t'):=by
  unfold gI at hca
  split at hca
  ·rename_i k2 t2 e;cases hca;exact e
  ·cases hca
 obtain⟨v0,hv0,hi,hv0'⟩:=rs.at_ 0 (.ref i) hρ;subst hv0';obtain⟨_,_,hclo⟩:=sm.ob i _ hob;obtain⟨c',pm,ctv,oc,e1,e2,e3⟩:=hG _ _ _ kk L _ hls hclo;have hfree:∀y,(y,cb)∈L.scp.names->X.env.kindOf y=some .cell∨X.env.kindOf y=some .free:=λy hy=>.inl (Dw y (LS.all _ hy rfl));have hfc:∀y,(y,cb)∈L.scp.names->∃c,X.env.cells.lookup y=some c:=λy hy=>I0.ok.has y (hfree y hy);generalize hcs:dO X.env L.scp.names []=cl at *;have kb:∀b u,X.base.get? b=some u->(jD X.base s0.heap (cl.map (·.2))).get? b=some u:=λb u e=>CK (I0.bk _ _ e) (.inl ⟨u,e⟩);have memc:∀b,b∈cl.map (·.2)->∃y,X.env.cells.lookup y=some b:=λb hb=>by
  obtain⟨⟨y,cc⟩,hm1,rfl⟩:=cg.mp hb;have:∀(l:List (Str×lj)) (acc:List (Str×ah)),(∀y cc,(y,cc)∈acc->X.env.cells.lookup y=some cc)->(∀y,(y,cb)∈l->∃c,X.env.cells.lookup y=some c)->∀y cc,(y,cc)∈dO X.env l acc->X.env.cells.lookup y=some cc:=by
   intro l
   induction l with
   |nil=>exact λacc h1 _=>h1
   |cons a l ih=>
    obtain⟨y0,k0⟩:=a;intro acc h1 h2;rw[dO];refine ih _ (λy cc hm2=>?_) λy hy=>h2 y (au _ hy)
    cases hk0:k0==cb with
    |true=>
     rw[hk0,if_pos rfl]at hm2
     rcases bh.mp hm2 with z|z
     ·cases z;have ek:k0=.free:=by cases k0 <;> first|rfl|cases hk0
      subst ek;obtain⟨c3,h3⟩:=h2 y0 (bg ..);rw[h3];rfl
     ·exact h1 _ _ z
    |false=>rw[hk0,if_neg (by simp)]at hm2;exact h1 _ _ hm2
  exact⟨y,this L.scp.names [] (λ_ _ z=>by cases z) hfc y cc (by rw[hcs];exact hm1)⟩
 have M0:=I0.ok.mod;have nsk:∀{a:ah}{m:Str->Option af},X.base.Ns a m->(jD X.base s0.heap (cl.map (·.2))).Ns a m:=λhn=>hn.keeps kb;have hM:Mod X.K X.mg (jD X.base s0.heap (cl.map (·.2))):=⟨M0.kin.keeps kb,nsk M0.glob,(let ⟨mb,a,b⟩:=M0.blt;⟨mb,nsk a,b⟩),M0.nolimit.keeps kb⟩
 have hbs:∀b u,(jD X.base s0.heap (cl.map (·.2))).get? b=some u->s0.heap.get? b=some u/\H0 b=none:=λb u e=>by
  obtain⟨g1,g2⟩:=CL e;refine⟨g1, ?_⟩
  rcases g2 with⟨u',g2⟩|g2
  ·exact(I0.bs _ _ g2).2
  ·obtain⟨y,hy⟩:=memc b g2;exact I0.freeC y b hy
 have nbf:∀b∈dZ X.stack,(jD X.base s0.heap (cl.map (·.2))).get? b=none:=λb hb=>by
  cases qq:(jD X.base s0.heap (cl.map (·.2))).get? b with
  |none=>rfl
  |some u=>
   exfalso
   obtain⟨g1,g2⟩:=CL qq
   rcases g2 with⟨u',g2⟩|g2
   ·have:=(I0.stack.mem hb).1;rw[this]at g2;cases g2
   ·obtain⟨y,hy⟩:=memc b g2
    rcases bh.mp (I0.stkSub b hb)with z|z
    ·exact I0.cne y b hy z
    ·have fm:∀z∈X.fs,z<X.s₀.heap.objs.size:=λz hz=>by obtain⟨_,o2,h2,_⟩:=I0.ok.funs.mem hz;exact aq h2
     exact absurd (av (fm b z) (I0.ok.cab y b (hfn y) hy)) (ij _)
 have hfun:s0.heap.FunFrames (jD X.base s0.heap (cl.map (·.2))) X.stack:=by
  have all:∀(l:List Env),(∀b∈dZ l,b∈dZ X.stack)->s0.heap.FunFrames X.base l->s0.heap.FunFrames (jD X.base s0.heap (cl.map (·.2))) l:=by
   intro l
   induction l with
   |nil=>intro _ _;trivial
   |cons env r ih=>
    intro hs hl;obtain⟨Ct,⟨L,o',hf',hn',Es,Cy⟩,hr'⟩:=hl;have hL:L∈dZ (env::r):=by unfold dZ;rw[br,hf'];exact bg
    exact⟨Ct,⟨L,o',hf',nbf L (hs L hL),Es,Cy⟩,ih (λb hb=>hs b (by unfold dZ;rw[br,hf'];exact au _ hb)) hr'⟩
  exact all X.stack (λ_ hb=>hb) I0.stack
 have ok:=I.ok;have ok':({ bZ X sc [y] s0 H0 ex with base:=jD X.base s0.heap (cl.map (·.2)) }:Cx).Ok:=
  ⟨hM,ok.kind,ok.glob,ok.blt,ok.above,ok.inj,ok.has,ok.cab,ok.hd,ok.frames,ok.stk,ok.exf,hbs,qr (yv _ _),λb u e hb=>by
   obtain⟨g1,g2⟩:=CL e
   rcases g2 with⟨u',g2⟩|g2
   ·exact ok.noex b u' g2 hb
   ·obtain⟨y,hy⟩:=memc b g2;exact(hex b hb).1.2.2.2.2.1 y b hy rfl,ok.exfs,hfun,ok.frf⟩
 have I':Inv { bZ X sc [y] s0 H0 ex with base:=jD X.base s0.heap (cl.map (·.2)) } pins σb H s:=⟨ok',I.os,I.bare,I.base,I.loc,I.cell,I.free,I.freeC,I.pin,I.hok,I.len⟩
 have look:∀y cc,cl.lookup y=some cc->(y,cb)∈L.scp.names/\X.env.cells.lookup y=some cc:=λy cc e=>X2 hfc (by rw[hcs];exact e);have memL:∀y cc,cl.lookup y=some cc->cc∈cl.map (·.2):=λy cc e=>cg.mpr ⟨(y,cc),fq e,rfl⟩;have LA:Ep G (jD X.base s0.heap (cl.map (·.2))) H μ h.length L.Nl L.par L.bod L.scp (μ i) c' cl ds:=by
  refine⟨⟨pm,ctv,e1⟩,⟨oc,e2,e3⟩,λy z cc a b=>I0.ok.inj y z cc (look y cc a).2 (look z cc b).2,hdl.trans hcl,λi y hy=>?_,λy cc e=>?_,λi y cc d hy hd e=>?_⟩
  ·have hf1:=LS.fr y (cu hy);have:=sU (env:=X.env) (x:=y) L.scp.names [] (.inl (fq hf1));rw[hcs]at this;exact⟨_,this⟩
  ·obtain⟨v0,ob,ho1,hd1⟩:=I0.cell y cc (look y cc e).2;exact⟨ob,v0,CK ho1 (.inr (memL y cc e)),hd1⟩
  ·obtain⟨jj,hjj,hρ⟩:=hdg i d hd;obtain⟨v,hv,rd⟩:=ro.at_ jj d hρ;have hNj:=hcap i jj y hjj hy;have hyk:=Dw y (cu hy);obtain⟨m,hn,hl⟩:=I0.loc;obtain⟨u,ru,lk⟩:=hl jj y v hNj hv (.inr (.inl hyk))
   rcases lk with⟨kl,_⟩|⟨_,c4,ec4,ob,ho1,hd1⟩
   ·have kl':X.env.scope.names.lookup y=some .local:=kl;rw[hyk]at kl';cases kl'
   ·rw[(look y cc e).2]at ec4;cases ec4;exact⟨ob,u,v,CK ho1 (.inr (memL y cc e)),hd1,ru,rd⟩
 have Cb:∀y cc,cl.lookup y=some cc->y∈L.Nl:=λy cc e=>LS.all _ (look y cc e).1 rfl;refine ku (HF (X:={ bZ X sc [y] s0 H0 ex with base:=jD X.base s0.heap (cl.map (·.2)) }) (E:=L2.E0) (F kk L hls _ hM.kin hM.glob) (g.room.mono hj) hg hm hk hb .nil (λ_ _ _ _ _ _ _ ⟨_,_,_,_,_,_,_,_,_,z⟩=>z)
  (iE (wB (i:=0) (pos:=p2) rfl hv hd1 hd2) jH rfl) Dq rfl rfl pins s σb H Q I' ⟨.ref (μ i),hv0, ?_⟩) (λu s' ⟨v,H',J,rv,qq⟩=>⟨v,H',⟨ok,J.os,J.bare,J.base,J.loc,J.cell,J.free,J.freeC,J.pin,J.hok,J.len⟩,rv,qq⟩) λ_ _ z=>z
 exact⟨μ i,c',cl,ds,μ,h,rfl,LA,Cb,sm,o⟩
theorem u9 (g:Good X G E k) (hj:j<=k) (hfn:∀y,X.fn y=true) (C:Bu X sc [y] [none]) (hi:jJ X G E (.Name y py) iter mi) (hgt:∀s H ex,jR (bZ X sc [y] s H ex) G (.Name y py) (aD 0))
  (F:∀k L,ls k=some L->∀base,X.K.In base->base.Ns dj X.mg->Bg X.prog X.w X.K X.mg base (bI X.prog X.w base) j fr fdr [x] (lU G base L.Nl L.par L.bod L.scp L.me n ncl mb))
  (hg:∀s H ex,Gl (bZ X sc [y] s H ex) q) (hv:∀s H ex,mV (bZ X sc [y] s H ex).env.scope y) (hm:X.mg q=some (.ref fr)) (hk:ki X.K (.ref fr)=true) (hb:Binds X.K fdr [x] [])
  (hL:∀k L,ls k=some L->Br L.Nl L.scp/\(∀z∈L.Nl,X.env.scope.names.lookup z=some .cell)/\L.caps.length=L.Nl.length/\∀(i j:Nat) (z:Str),L.caps[i]?=some j->L.Nl[i]?=some z->X.N[j]?=some z)
  (hG:∀μ n H k L a,ls k=some L->G.clo μ n H k t a->Dn G X.env L H a) (hlc:∀k c m,lc k=some (c,m)->∃L,ls k=some L/\L.caps=c/\L.me=m)
  (hd1:(y==("__debug__" : Str))=false:=by decide) (hd2:(y==("__classdict__" : Str))=false:=by decide) (Dq:(q==("__debug__" : Str))=false:=by decide) (hs:∀x,foldedSetIterable iter X.env x=pure x:=by intro _;rfl):
  nE X G E (.ListComp (.Call (.Name q p) [.Name y p2] [] pos) [⟨.Name y py,iter,[],0⟩] sc ps) (pS mi lc t n ncl mb):=λhK=>
 PE.imp (VJ (ti:=λσ σb H vs K=>∃ρ,wU (DW G ρ σ (lF lc t n ncl mb ρ)) σb H vs K) g.calm C rfl (λit D env=>IT _ _ iter [] sc ps (.ref it) D env) (hi hK) (λs H ex=>hgt s H ex hK) (λs H ex=>IQ)
  (λpins s σ H ex D I hex=>λpins' s' σ' H' xs K I' a f ⟨ρ,h⟩=>wV (u7 (ρ:=ρ) g hj hfn F (hg s H ex) (hv s H ex) hm hk hb hL hG hlc hd1 hd2 Dq I hex) pins' s' σ' H' xs K I' a f h) hs) λσ H Q ⟨μ,ρ,h,rs,s,o⟩=>by
  unfold pS bC at o;refine⟨μ,ρ,h,rs,s,(o.bind (R1:=Ce G)).mono λJ H1 ⟨μ1,src,h1,x1,s1,ok,o1⟩=>?_⟩
  cases q:eV src (aD 0) bT (aY (lF lc t n ncl mb ρ)) src.n 0 (iI [none] ρ) h1 []with
  |bad=>rw[q]at o1;exact o1.elim
  |ex c h2=>rw[q]at o1;exact o1.elim
  |ok r h2=>rw[q]at o1;obtain⟨ρ',xs'⟩:=r;refine u6 (λ_ _ _ _ z=>⟨ρ,z⟩) ok (rs.mono x1) (J0 (rs.mono x1) [none]) s1 RelDL.nil q λμ2 H2 σ2 Ex x2 s2 Cw r2 p hp=>?_;exact o1 μ2 _ _ (x2.trans (Ext.same (cZ hp))) (s2.same (cZ hp)) ⟨p,Ex,rfl,dF,s2.not hp,RelDL.mono (Ext.same (cZ hp)) _ _ r2⟩
end
def DX (K:ao) (t u:ah):It:=
 ⟨λi H=>∃vs ws v w,Bs K H t vs/\Bs K H u ws/\vs[i]?=some v/\ws[i]?=some w,
  λi H x H'=>∃p v w,x=.ref p/\H p=none/\H'=aT H p (.tup [v,w])/\(∀vs,Bs K H t vs->vs[i]?=some v)/\∀ws,Bs K H u ws->ws[i]?=some w,
  λi H=>∃vs ws,Bs K H t vs/\Bs K H u ws/\(vs.length<=i∨ws.length<=i)⟩
structure ZipAtL (z TI TO i j t u:ah) (n:Nat) (h:cx):Prop where
 zp:xq h z TI TO .none
 ti:mw h TI (.ref i) (.ref j)
 to:∃a b,mw h TO a b
 i1:h.IsListIter i t n
 i2:h.IsListIter j u n
theorem v5 {P:bj}{w:cq}{K:ao}{elts:List bo}{kk:Nat}{tp:Pos}{z TI TO i j t u:ah}(F4:ZipApart z TI TO i j t u):
  Turn P w K (.Tuple elts kk tp) (DX K t u) [z,TI,TO,i,j] z (ZipAtL z TI TO i j t u) where
 mem:=by simp
 obj:=λn h st b hb=>by
  obtain⟨zp,ti,⟨a,b',to⟩,⟨o1,e1,_,d1⟩,⟨o2,e2,_,d2⟩⟩:=st;simp at hb
  rcases hb with rfl|rfl|rfl|rfl|rfl
  ·exact⟨_,zp,λv q=>by cases q⟩
  ·exact⟨_,ti,λv q=>by cases q⟩
  ·exact⟨_,to,λv q=>by cases q⟩
  ·exact⟨_,e1,λv q=>by rw[d1]at q;cases q⟩
  ·exact⟨_,e2,λv q=>by rw[d2]at q;cases q⟩
 keep:=λn h h' st k=>by obtain⟨zp,ti,⟨a,b',to⟩,⟨o1,e1,r1⟩,⟨o2,e2,r2⟩⟩:=st;exact⟨k _ (by simp) _ zp,k _ (by simp) _ ti,⟨a,b',k _ (by simp) _ to⟩,⟨o1,k _ (by simp) _ e1,r1⟩,⟨o2,k _ (by simp) _ e2,r2⟩⟩
 item:=by
  intro X hP hw hK hc n pins s σ H E I hf st hg;subst hP hw hK;obtain⟨vs,ws,v,w',hq,hr,hv,hw'⟩:=hg;obtain⟨its,rv,p1,z1⟩:=I.list hq;obtain⟨jts,rw',p2,z2⟩:=I.list hr;obtain⟨x,hx,rx⟩:=rv.get hv;obtain⟨y,hy,ry⟩:=rw'.get hw';obtain⟨zp,ti,⟨a,b,to⟩,i1,i2⟩:=st;refine wpAny_pyNext_zip_item F4 zp ti to i1 i2 p1.isList p2.isList (x:=x) (y:=y) (by simpa using hx) (by simpa using hy) λh' a1 a3 a4 a5 a6 Cf bt=>⟨_,rfl, ?_⟩
  have a2:mw h' TI (.ref i) (.ref j):=bt _ _ F4.TIz F4.TITO F4.TIi1 F4.TIi2 ti;refine Ab a1 λh2 z2' sb=>?_;have kp:∀b o,b∉[z,TI,TO,i,j]->s.heap.get? b=some o->h2.get? b=some o:=λb o hb q=>by simp at hb;obtain⟨n1,n2,n3,n4,n5⟩:=hb;exact sb.extBut _ _ n1 (bt b o n1 n3 n4 n5 q)
  have Tz:s.heap.objs.size≠z:=jn (aq zp);have T2:mw h2 s.heap.objs.size x y:=sb.extBut _ _ Tz a6;have th:∀b∈[z,TI,TO,i,j],∃o,h2.get? b=some o:=λb hb=>by
   obtain⟨o1,e1,_⟩:=a4;obtain⟨o2,e2,_⟩:=a5;simp at hb
   rcases hb with rfl|rfl|rfl|rfl|rfl
   ·exact⟨_,z2'⟩
   ·exact⟨_,sb.extBut _ _ F4.TIz a2⟩
   ·exact⟨_,sb.extBut _ _ F4.TOz a3⟩
   ·exact⟨_,sb.extBut _ _ F4.i1z e1⟩
   ·exact⟨_,sb.extBut _ _ F4.i2z e2⟩
  have I2:=Inv.turns (T:=s.heap.objs.size) (vs:=[v,w']) (its:=[x,y]) I hf kp th (aj _) (.cons rx (.cons ry .nil)) (by show 2<=cf;decide) ⟨_,T2,rfl,rfl,_,rfl⟩;have nT:H s.heap.objs.size=none:=I.hok.fresh (aj _);refine⟨.ref s.heap.objs.size,_,I2,rfl,⟨s.heap.objs.size,v,w',rfl,nT,rfl,λCc h'=>by rw[I.list_inj h' hq];exact hv,λws' h'=>by rw[I.list_inj h' hr];exact hw'⟩, ?_,λb hb=>?_⟩
  ·exact⟨z2',sb.extBut _ _ F4.TIz a2,⟨_,_,sb.extBut _ _ F4.TOz a3⟩,a4.at λo e=>sb.extBut _ _ F4.i1z e,a5.at λo e=>sb.extBut _ _ F4.i2z e⟩
  ·obtain⟨o,q,_⟩:∃o,s.heap.get? b=some o/\True:=by
    obtain⟨o1,e1,_⟩:=i1;obtain⟨o2,e2,_⟩:=i2;simp at hb
    rcases hb with rfl|rfl|rfl|rfl|rfl
    ·exact⟨_,zp,trivial⟩
    ·exact⟨_,ti,trivial⟩
    ·exact⟨_,to,trivial⟩
    ·exact⟨_,e1,trivial⟩
    ·exact⟨_,e2,trivial⟩
   rw[bW (az (aq q))];exact(hf b hb).1
 done:=by
  intro X hP hw hK hc n pins s σ H E I hf st hg;subst hP hw hK;obtain⟨vs,ws,hq,hr,hend⟩:=hg;obtain⟨its,rv,p1,z1⟩:=I.list hq;obtain⟨jts,rw',p2,z2⟩:=I.list hr;have l1:=rv.length;have l2:=rw'.length;obtain⟨zp,ti,⟨a,b,to⟩,i1,i2⟩:=st;refine wpAny_pyNext_zip_end (I.ok.hd hc) F4 zp ti to i1 i2 p1.isList p2.isList (by
    rcases hend with q|q
    ·exact .inl (by simp;omega)
    ·exact .inr (by simp;omega)) λh' bt=>⟨rfl, ?_⟩
  refine Inv.turns0 I hf λb o hb q=>?_;simp at hb;exact bt b o hb.1 hb.2.2.1 hb.2.2.2.1 hb.2.2.2.2 q
 self:=λ_ _ _ _ _ st h=>qj st.zp h
section
variable{X:Cx}{G:Cfg}{E:XK}{a b:bo}{elts:List bo}{kk:Nat}{tp p pos:Pos}{ta:TA}{ms:M Aw }
def v7 (K:ao) (ta:TA):TI:=λσ H R=>ta σ H λvs H1=>∃t u,vs=[.ref t,.ref u]/\((∃xs ys,Bp K H1 t xs/\Bp K H1 u ys/\R (xQ K t u) H1)∨∃xs ys,Bs K H1 t xs/\Bs K H1 u ys/\R (DX K t u) H1)
theorem v8 (n t u:Nat) (lt:t<n) (lu:u<n):ZipApart (n+4) (n+2) (n+3) n (n+1) t u:=by
 have ne:∀{a b:Nat},(a<b∨b<a)->a≠b:=λh=>by omega
 exact⟨ne (by omega),ne (by omega),ne (by omega),ne (by omega),ne (by omega),ne (by omega),ne (by omega),ne (by omega),ne (by omega),ne (by omega),ne (by omega),ne (by omega),ne (by omega),ne (by omega),ne (by omega),ne (by omega),ne (by omega),ne (by omega)⟩
theorem v9 (hg:Gl X "zip") (hm:X.mg "zip" = none) (ha:PA X [a,b] ta) (hs:ar [a,b] X.env=[(false,eval a X.env),(false,eval b X.env)]:=by rfl) (hs2:ar [b] X.env=[(false,eval b X.env)]:=by rfl):
  PI X (.Tuple elts kk tp) (.Call (.Name "zip" p) [a,b] [] pos) (v7 X.K ta):=by
 intro pins s σ H R I h;refine Call_ (nW I hg hm KU (jr (bD (ha pos pins s σ H _ I h) λus s1 ⟨vs,H1,I1,r1,q1⟩=>?_) (by rw[hs,hs2]) (by rw[hs2];rfl)));obtain⟨t,u,e,q⟩:=q1;subst e;obtain⟨u1,u2,rfl,e1,e2⟩:=qO r1;cases e1;cases e2
 rcases q with⟨xs,ys,hq,hr,q⟩|⟨xs,ys,hq,hr,q⟩
 ·obtain⟨its,rv,p1,_⟩:=I1.tuple hq;obtain⟨jts,rw',p2,_⟩:=I1.tuple hr;refine callType_new F.called_zip (by decide) (F.typeCall_zip_2 _ _) (F.newCall_zip_2 _ _) (λobj=>F.args_object_init_3 obj _ _) F.entry_zip_new (KS its.toArray jts.toArray) ⟨p1,p2,λh' z nz=>?_⟩;obtain⟨TI,TO,i,j,za,f4,fresh,kp⟩:=nz;refine⟨⟨_,za.zp,rfl⟩, ?_⟩;have I2:Inv X pins σ H1 { s1 with heap:=h' }:=I1.kept (t':=s1.toks) kp;refine qj za.zp ⟨z,[z,TI,TO,i,j],_,_,H1,rfl,I2,KQ f4 f4.u3 f4.v4,za,λb hb=>I1.fpOk (fresh b hb) (I1.hok.fresh (fresh b hb)),q⟩
 ·obtain⟨its,rv,p1,_⟩:=I1.list hq;obtain⟨jts,rw',p2,_⟩:=I1.list hr;refine call_zip_2 p1.isList p2.isList λh' hz hTI hTO h1 h2 Cf kp=>?_;have I2:Inv X pins σ H1 { s1 with heap:=h' }:=I1.kept (t':=s1.toks) kp;have lt:t<s1.heap.objs.size:=by obtain⟨o,e,_⟩:=p1.isList;exact aq e
  have lu:u<s1.heap.objs.size:=by obtain⟨o,e,_⟩:=p2.isList;exact aq e
  have fresh:∀b∈[s1.heap.objs.size+4,s1.heap.objs.size+2,s1.heap.objs.size+3,s1.heap.objs.size,s1.heap.objs.size+1],s1.heap.objs.size<=b:=λb hb=>by
   simp at hb
   rcases hb with rfl|rfl|rfl|rfl|rfl <;> first|exact pq _ _|exact aj _
  exact qj hz ⟨_,_,_,_,H1,rfl,I2,v5 (v8 _ t u lt lu),⟨hz,hTI,⟨_,_,hTO⟩,h1,h2⟩,λb hb=>I1.fpOk (fresh b hb) (I1.hok.fresh (fresh b hb)),q⟩
def mG (i j n m:Nat) (h:Hs):Option (List (Dv×Dv)):=match getL h i,getL h j with
 |some xs,some ys=>if xs.length=n/\ys.length=m then some (xs.zip ys)else none
 |_,_=>none
def pT (i j n m:Nat):Src:=⟨min n m,λk h=>match mG i j n m h with
 |some zs=>(zs[k]?).map λq=>.tup [q.1,q.2]
 |none=>none,λh=>(mG i j n m h).isSome⟩
def pU:Aw->Hs->Rs Src
 | [.tup xs,.tup ys],h=>.ok (lT xs ys) h
 | [.ref i,.ref j],h=>match getL h i,getL h j with
  |some xs,some ys=>.ok (pT i j xs.length ys.length) h
  |_,_=>.bad
 |_,_=>.bad
theorem NP {i j n m:Nat}{h:Hs}{zs:List (Dv×Dv)}(e:mG i j n m h=some zs):∃xs ys,getL h i=some xs/\getL h j=some ys/\xs.length=n/\ys.length=m/\zs=xs.zip ys:=by
 unfold mG at e
 split at e
 ·rename_i xs ys e1 e2
  split at e
  ·rename_i hl;cases e;exact⟨xs,ys,e1,e2,hl.1,hl.2,rfl⟩
  ·cases e
 ·cases e
theorem Ce.zipL {μ:Nat->ah}{nn:Nat}{H:Hp}{i j n m:Nat}{K:ao}(hi:i<nn) (hj:j<nn):Ce G μ nn H (pT i j n m) (DX K (μ i) (μ j)):=by
 intro k μ2 h2 H2 x2 s2;have ei:=x2.mu i hi;have ej:=x2.mu j hj;constructor
 ·intro hk d hd;have Cy:(match mG i j n m h2 with|some zs=>(zs[k]?).map λq=>Dv.tup [q.1,q.2]|none=>none)=some d:=hd
  cases qz:mG i j n m h2 with
  |none=>rw[qz]at Cy;cases Cy
  |some zs=>
   rw[qz]at Cy;obtain⟨xs,ys,g1,g2,l1,l2,rfl⟩:=NP qz;obtain⟨vs,f,g⟩:=s2.ob i _ (cU g1);obtain⟨ws,f',g'⟩:=s2.ob j _ (cU g2);rw[ei]at f;rw[ej]at f'
   cases q:(xs.zip ys)[k]? with
   |none=>dsimp only at Cy;rw[q]at Cy;cases Cy
   |some xy=>
    dsimp only at Cy;rw[q]at Cy;cases Cy;obtain⟨qx,qy⟩:=ni.mp q;obtain⟨v,ev,rv⟩:=g.get qx;obtain⟨w',ew,rw'⟩:=g'.get qy;refine⟨⟨vs,ws,v,w',Bs.of f,Bs.of f',ev,ew⟩,λx H' hy=>?_⟩;obtain⟨pp,v1,w1,rfl,np,rfl,a1,a2⟩:=hy;have b1:=a1 vs (Bs.of f);have b2:=a2 ws (Bs.of f');rw[ev]at b1;rw[ew]at b2
    cases b1;cases b2
    have sm:Cn H2 (aT H2 pp (.tup [v,w'])):=cZ np;exact⟨sm,pp,_,rfl,dF,RelDL.cons (Bc.mono (Ext.same sm) _ _ rv) (RelDL.cons (Bc.mono (Ext.same sm) _ _ rw') RelDL.nil)⟩
 ·intro hk hf;have hf':(mG i j n m h2).isSome=true:=hf
  cases qz:mG i j n m h2 with
  |none=>rw[qz]at hf';cases hf'
  |some zs=>obtain⟨xs,ys,g1,g2,l1,l2,rfl⟩:=NP qz;obtain⟨vs,f,g⟩:=s2.ob i _ (cU g1);obtain⟨ws,f',g'⟩:=s2.ob j _ (cU g2);rw[ei]at f;rw[ej]at f';refine⟨vs,ws,Bs.of f,Bs.of f', ?_⟩;have Ct:k=min n m:=hk;rw[g.length,g'.length];omega
theorem y8 (hg:Gl X "zip") (hm:X.mg "zip" = none) (ha:eF X G E [a,b] ms) (hs:ar [a,b] X.env=[(false,eval a X.env),(false,eval b X.env)]:=by rfl) (hs2:ar [b] X.env=[(false,eval b X.env)]:=by rfl):
  jJ X G E (.Tuple elts kk tp) (.Call (.Name "zip" p) [a,b] [] pos) (aO pU ms):=λhK=>
 PI.imp (v9 hg hm (ha hK) hs hs2) λσ H R ⟨μ,ρ,h,rs,s,o⟩=>kR rs s o λμ1 ds h1 vs H1 x1 Bo s1 r1 o1=>by
  unfold pU at o1
  split at o1
  ·rename_i xs ys;obtain⟨v,v',rfl,rv,rv'⟩:=tI r1;obtain⟨t,us,rfl,e,r⟩:=rv;obtain⟨u,ws,rfl,e',r'⟩:=rv';exact⟨t,u,rfl,.inl ⟨us,ws,Bp.of e,Bp.of e',o1.val s1 (Ce.zip e e' r r')⟩⟩
  ·rename_i i j;obtain⟨v,v',rfl,rv,rv'⟩:=tI r1;obtain⟨hi,rfl⟩:=rv;obtain⟨hj,rfl⟩:=rv'
   split at o1
   ·rename_i xs ys g1 g2;obtain⟨us,f,_⟩:=s1.ob i _ (cU g1);obtain⟨ws,f',_⟩:=s1.ob j _ (cU g2);exact⟨_,_,rfl,.inr ⟨us,ws,Bs.of f,Bs.of f',o1.val s1 (Ce.zipL hi hj)⟩⟩
   ·exact o1.elim
  ·exact o1.elim
end
open PySem.Calls
section
variable{X:Cx}{G:Cfg}{E:XK}{o e i:bo}{mo me mi:M Dv}{ml:M Aw }{pos apos cpos:Pos}
theorem y9 {a b:bo}{sp:Pos}(ho:aK X G E (.Subscript a b sp) mo) (he:aK X G E e me) (hs:ar [e] X.env=[(false,eval e X.env)]:=by rfl) (hl:(apos.endLine==cpos.line)=true:=by rfl):aK X G E (.Call (.Attribute (.Subscript a b sp) "append" apos) [e] [] cpos) (eO mo me):=λhK=>
 PE.imp (sT kj xl xm ID (ho hK) (iE (he hK) jH hs) rfl (by rw[hs];rfl) hl hs rfl) λσ H Q ⟨μ,ρ,h,rs,s,oo⟩=>eG rs s oo λμ1 x h1 vx H1 x1 Bo s1 r1 o1=>by
  split at o1
  ·rename_i hl;refine⟨tP s1 r1 hl,eG Bo s1 o1 λμ2 d h2 vd H2 x2 Cw s2 r2 o2=>?_⟩
   cases x with
   |ref j=>
    dsimp only[lS]at o2
    cases q:getL h2 j with
    |none=>rw[q]at o2;exact o2.elim
    |some xs=>
     rw[q]at o2;dsimp only at o2
     split at o2
     ·rename_i hz;obtain⟨vs,ea,ra⟩:=s2.ob j _ (cU q);obtain⟨_,rfl⟩:=Bc.mono x2 _ _ r1;obtain⟨x3,s3⟩:=s2.write (cU q) (ra.append (RelDL.cons r2 RelDL.nil));exact⟨_,vs,vd,rfl,rfl,ea,by rw[ra.length];exact av hz (by decide),o2 μ2 _ _ x3 s3 rfl⟩
     ·exact o2.elim
   |_=>exact o2.elim
  ·exact o1.elim
end
def z9:bo:=.Constant .none 0 ⟨0,0,0,0⟩
def stE:gz->bo
 | .Assign _ v _=>v
 | .Expr v _=>v
 | .If t _ _ _=>t
 | .Return (some v) _=>v
 |_=>z9
def yO:gz->List gz
 | .For _ _ b _ _=>b
 | .If _ b _ _=>b
 | .While _ b _ _=>b
 |_=>[]
def yP (st:gz):bo:=match stE st with
 | .List (l::_) _=>l
 | .Call _ (l::_) _ _=>l
 |e=>e
def yQ:bo->km
 | .Lambda p _ _ _=>p
 |_=>⟨[],[],none,[],[],none,[]⟩
def yR:bo->bo
 | .Lambda _ b _ _=>b
 |e=>e
def yS (d:gh):bo->gh
 | .Lambda _ _ s _=>s
 |_=>d
structure Ff (os:gh) (oN:Au) (L:Lm):Prop where
 ls:Br L.Nl L.scp
 kind:∀z∈L.Nl,os.names.lookup z=some .cell
 len:L.caps.length=L.Nl.length
 cap:∀z∈L.caps.zip L.Nl,oN[z.1]?=some z.2
section
variable{X:Cx}{G:Cfg}{E:XK}{c P:ah}{lpos:Pos}{k t:Nat}{ls:Nat->Option Lm}{os:gh}{oN:Au}
theorem yT (L:Lm) (hls:ls k=some L) (hT:∀μ n H k t a,G.clo μ n H k t a) (hq:X.env.qual ++ "<lambda>" = G.lq) (hP:G.tab=some P) (Dx:X.env.code=.ref c) (hC:md X.base c P) (hB:lV X.mg X.base) (O:Ff os oN L)
  (hs:X.env.scope.names=os.names:=by rfl) (Fc:defaultsOf L.par X.env=([],[]):=by rfl):aK X (G.wf X.env t ls) E (.Lambda L.par L.bod L.scp lpos) (iW k t):=
 u0 (G:=G.wf X.env t ls) L Fc hq hP Dx hC hB O.ls (λy hy=>by rw[hs];exact O.kind y hy) λμ n H a h=>⟨hT μ n H k t a,λL' e _=>by rw[hls]at e;cases e;exact h⟩
variable{q x y:Str}{p p2 py pos ps:Pos}{fr:ah}{fdr:bq}{n ncl j:Nat}{mb:MS}{lc:Nat->Option (As×M Dv)}{sc:gh}{iter:bo}{mi:M Src}
theorem z00 (g:Good X (G.wf X.env t ls) E k) (hj:j<=k) (hfn:∀y,X.fn y=true) (C:Bu X sc [y] [none]) (hi:jJ X (G.wf X.env t ls) E (.Name y py) iter mi) (hgt:∀s H ex,jR (bZ X sc [y] s H ex) (G.wf X.env t ls) (.Name y py) (aD 0))
  (F:∀k L,ls k=some L->∀base,X.K.In base->base.Ns dj X.mg->Bg X.prog X.w X.K X.mg base (bI X.prog X.w base) j fr fdr [x] (lU (G.wf X.env t ls) base L.Nl L.par L.bod L.scp L.me n ncl mb))
  (hm:X.mg q=some (.ref fr)) (hk:ki X.K (.ref fr)=true) (hb:Binds X.K fdr [x] []) (O:∀k L,ls k=some L->Ff os oN L) (hlc:∀k c m,lc k=some (c,m)->∃L,ls k=some L/\L.caps=c/\L.me=m)
  (hs:X.env.scope.names=os.names:=by rfl) (hN:X.N=oN:=by rfl) (hg:∀s H ex,Gl (bZ X sc [y] s H ex) q:=by intro _ _ _;rfl) (hv:∀s H ex,mV (bZ X sc [y] s H ex).env.scope y:=by intro _ _ _;exact Or.inl rfl)
  (hd1:(y==("__debug__" : Str))=false:=by decide) (hd2:(y==("__classdict__" : Str))=false:=by decide) (Dq:(q==("__debug__" : Str))=false:=by decide) (hf:∀x,foldedSetIterable iter X.env x=pure x:=by intro _;rfl):
  nE X (G.wf X.env t ls) E (.ListComp (.Call (.Name q p) [.Name y p2] [] pos) [⟨.Name y py,iter,[],0⟩] sc ps) (pS mi lc t n ncl mb):=
 u9 (ls:=ls) g hj hfn C hi hgt F hg hv hm hk hb (λk L e=>⟨(O k L e).ls,λz hz=>by rw[hs];exact(O k L e).kind z hz,(O k L e).len,λi j z e1 e2=>by rw[hN];exact(O k L e).cap (j,z) (cu (i:=i) (ni.mpr ⟨e1,e2⟩))⟩) (λ_ _ _ _ L _ e h=>h.2 L e rfl) hlc hd1 hd2 Dq hf
end
end L2.Mr
namespace L2.Mr.Sam
open PySem PySem.Spec PyProof.Rows L2 L2.Mr
open L2.Mr.Com
def iB (Fs:Av):MS:=(aH (bX (cB (m1 (bB pN) (aA 1))) (aH (bX (gX (mB (m2 dG (m1 (bB hV) (aA 0)) (m1 (bB hV) (aA 1)))) (mB (m2 dG (m1 (bB nG) (aA 0)) (m1 (bB nG) (aA 1))))) (aN (mC (.bl false))) cO) (aH (bX (mB (m2 dG (aF (f1 eW) (aB (aA 0) aC)) (aF (f1 eW) (aB (aA 1) aC)))) (aN (mC (.bl false))) cO) (aN (mL kB (bC (aO pU (aB (aA 0) (aB (aA 1) aC))) [none,none] (cM 2 (bA (aD 0) (bA (aD 1) cP))) bT (aY (aF Fs (aB (aA 0) (aB (aA 1) aC))))))))) cO) (aN (dX (m2 cA (aA 0) (aA 1)) (m2 cA (m1 (bB nF) (aA 0)) (m1 (bB nF) (aA 1))))))
def F_qs:Nat->Av
 |0=>λ_ _=>.bad
 |n+1=>aW 2 2 (iB (F_qs n))
end L2.Mr.Sam
namespace L2.Mr
open PySem PySem.Spec PyProof.Rows L2
section
variable{X:Cx}{G:Cfg}{E:XK}{pos:Pos}
end
def oJ:M Dv:=λ_ _=>.bad
def yU (f:bo->M Dv):List bo->M Aw 
 | []=>aC
 |e::es=>aB (f e) (yU f es)
def nM (lk:Str->Option Nat):Nat->bo->M Dv
 |0,_=>oJ
 |n+1,e=>match e with
  | .Constant c _ _=>match c with
   | .int i=>mC (.int i)
   | .bool b=>mC (.bl b)
   | .none=>mC .non
   | .str x=>mC (.str x)
   |_=>oJ
  | .Tuple es _ _=>aL (yU (nM lk n) es)
  | .List es _=>aV (yU (nM lk n) es)
  | .Dict [] [] _=>mC .edc
  | .Name x _=>match lk x with
   |some i=>aA i
   |none=>oJ
  | .UnaryOp .USub a _=>m1 CM (nM lk n a)
  |_=>oJ
def NQ (e:bo):Prop:=∀es env,ar (e::es) env=(false,eval e env)::ar es env
section
variable{X:Cx}{G:Cfg}{E:XK}{lk:Str->Option Nat}
theorem yV {e:bo}:aK X G E e oJ:=λ_ pins s σ H Q _ ⟨_,_,_,_,_,o⟩=>o.elim
theorem z01 {e:bo}{es:List bo}{ms:M Aw }:eF X G E (e::es) (aB oJ ms):=λ_ pos pins s σ H Q _ ⟨_,_,_,_,_,o⟩=>o.elim
theorem DY {f:bo->M Dv}(hf:∀e,aK X G E e (f e)/\(NQ e∨f e=oJ)):∀es,eF X G E es (yU f es)
 | []=>aQ
 |e::es=>by
  obtain⟨a,b|b⟩:=hf e
  ·exact aI a (DY hf es) (b es X.env)
  ·show eF X G E (e::es) (aB (f e) _);rw[b];exact z01
theorem yW (hv:∀x i pos,lk x=some i->aK X G E (.Name x pos) (aA i)):∀n e,aK X G E e (nM lk n e)/\(NQ e∨nM lk n e=oJ)
 |0,_=>⟨yV,.inr rfl⟩
 |n+1,e=>by
  unfold nM
  split
  ·split
   ·exact⟨bN,.inl λ_ _=>rfl⟩
   ·exact⟨jO,.inl λ_ _=>rfl⟩
   ·exact⟨JE,.inl λ_ _=>rfl⟩
   ·exact⟨JF,.inl λ_ _=>rfl⟩
   ·exact⟨yV,.inr rfl⟩
  ·exact⟨iZ (DY (yW hv n) _),.inl λ_ _=>rfl⟩
  ·exact⟨gL (DY (yW hv n) _),.inl λ_ _=>rfl⟩
  ·exact⟨X9,.inl λ_ _=>rfl⟩
  ·rename_i x pos
   split
   ·rename_i i q;exact⟨hv x i pos q,.inl λ_ _=>rfl⟩
   ·exact⟨yV,.inr rfl⟩
  ·exact⟨YF (yW hv n _).1,.inl λ_ _=>rfl⟩
  ·exact⟨yV,.inr rfl⟩
theorem pV (n:Nat) {e:bo}{m:M Dv}(h:nM (λ_=>none) n e=m:=by rfl):aK X G E e m:=h▸(yW (λ_ _ _ h=>by cases h) n e).1
end
structure SW (X:Cx) (G:Cfg) (E:XK) (st:gz) (m:MS):Prop where
 ok:jI X G E st m
structure SWs (X:Cx) (G:Cfg) (E:XK) (st:List gz) (m:MS):Prop where
 ok:jQ X G E st m
section
variable{X:Cx}{G:Cfg}{E:XK}{st:gz}{rest:List gz}{m u:MS}{pos:Pos}
theorem DZ (a:SW X G E st m) (b:SWs X G E rest u):SWs X G E (st::rest) (aH m u):=⟨bE a.ok b.ok⟩
theorem z02 (a:SW X G E st m):SWs X G E [st] m:=⟨bO a.ok⟩
theorem z03 (n:Nat) {i:Nat}{x:Str}{pos':Pos}{e:bo}{me:M Dv}(hN:X.N.Nodup) (hi:X.N[i]?=some x) (hx:lL X.env.scope x) (h:nM (λ_=>none) n e=me:=by rfl) (hs:swapsWith e (some (.Name x pos')) pos.line X.env=pure false:=by rfl) (hf:X.fn x=true∨X.env.scope.names.lookup x=some .local:=by first|exact .inl rfl|exact .inr rfl|assumption):
  SW X G E (.Assign [.Name x pos'] e pos) (aJ me (aD i)):=⟨BV hN hi hx (pV n h) hs hf⟩
theorem NR (n:Nat) {i:Nat}{x:Str}{pos' p2 p3:Pos}{e:bo}{me:M Dv}(hN:X.N.Nodup) (hi:X.N[i]?=some x) (hx:lL X.env.scope x) (hv:aK X G E (.Name x p2) (aA i)) (h:nM (λ_=>none) n e=me:=by rfl) (hs:swapsWith (.BinOp (.Name x p2) .Add e p3) (some (.Name x pos')) pos.line X.env=pure false:=by rfl) (hf:X.fn x=true∨X.env.scope.names.lookup x=some .local:=by first|exact .inl rfl|exact .inr rfl|assumption):
  SW X G E (.Assign [.Name x pos'] (.BinOp (.Name x p2) .Add e p3) pos) (aJ (m2 bF (aA i) me) (aD i)):=⟨BV hN hi hx (gQ hv (pV n h)) hs hf⟩
end
section
variable{P:bj}{w:cq}{K:ao}{mg:Str->Option af}{base:cx}{G:Cfg}{N:Au}{f:ah}{k:Nat}
theorem z04 {x qual:Str}{st:gz}{fd:bq}{ps:Au}{mb:MS}(Fn:B' K x qual st f fd) (S:Bb N ps (aU st)) (hK:K=G.K)
  (Bw:∀(cdv:af) (A:cm) (outer:List Env) (s:ag) (H:Hp) (E₀ E:XK),Good (fR (bI P w base) P w K mg base N qual (aU st) f cdv A outer s H E₀) G E k->SWs (fR (bI P w base) P w K mg base N qual (aU st) f cdv A outer s H E₀) G E (iG st) mb):
  Bg P w K mg base (bI P w base) (k+1) f fd ps (cR G (aW ps.length N.length mb)):=dR Fn S hK λcdv A outer s H E₀ E g=>(Bw cdv A outer s H E₀ E g).ok
end
open SR
section
variable{prog:bj}{w:cq}{A:cm}{E:af->ag->Prop}{s:ag}
end
section
variable{X:Cx}{G:Cfg}{E:XK}{k:Nat}{e:bo}{aO:M Aw }{p p2 pos Di:Pos}
end
section
variable{prog:bj}{w:cq}{A:cm}{E:af->ag->Prop}{s:ag}{z TI TO i j u v T:ah}{xs ys:List af}{st su:Nat->cx->Prop}{f1:Bool}
end
section
variable{X:Cx}{pins:List (ah×Obj)}{σ:St}{H:Hp}{s:ag}{B:cm}{z TI TO i j t u:ah}{vs ws:List V}{n:Nat}
end
abbrev EA (acc:List af) (c:Nat):Obj:={ cls:=.type "list",dict:=none,data:=.seq acc.toArray c,slots:=#[] }
section
variable{X:Cx}{pins:List (ah×Obj)}{σ:St}{B:cm}{z TI TO i j t u S:ah}{vs ws:List V}{H0:Hp}
end
section
variable{X:Cx}{G:Cfg}{E:XK}{a b:bo}{ta:TA}{ms:M Aw }{p p2 pos Di:Pos}
end
open PySem.SeqAt PySem.MeetsSeq PySem.MeetsSeq2 PySem.MeetsSeq3
section
variable{prog:bj}{w:cq}{A:cm}{Ee:af->ag->Prop}{s:ag}
end
section
variable{X:Cx}{G:Cfg}{E:XK}{k:Nat}{e:bo}{aO:M Aw }{p p2 pos Di:Pos}
end
theorem z05 (a d:af):argsOk "max" ⟨[a],[("default",d)]⟩:=by unfold argsOk;kernel_rfl
section
variable{prog:bj}{w:cq}{A:cm}{I S:ah}{fp wr:List ah}{n:Nat}{P:Nat->af->Prop}{St:Nat->cx->Prop}{R:yh->ag->Prop}{ky:Nat->Int}{d:af}
abbrev nO:Int->Int->Bool:=λa b=>decide (a>b)
def NS (P:Nat->af->Prop) (ky:Nat->Int) (k:Nat) (acc:List af):Prop:=match k with
 |0=>acc=[]
 |k+1=>∃i v,P i v/\ky i=fS nO ky k/\acc=[v,v]
theorem z06 (W:Walks prog w A.in1 I fp wr n P St) (hc:CmpOf prog w A.in1 .Gt P (λi j=>nO (ky i) (ky j))) (hS:S∉fp):
  ∀(m k:Nat) (s:ag) (acc:List af) (c:Nat),k+m=n->St k s.heap->s.heap.get? S=some (EA acc c)->NS P ky k acc->
   (∀v h' tk,(n=0/\v=d∨∃i p,P i v/\n=p+1/\ky i=fS nO ky p)->(∀b o,b∉wr->b≠S->s.heap.get? b=some o->h'.get? b=some o)->R (.ok (.ret v)) { s with heap:=h',toks:=tk })->
   codeAny (model prog w) A (.builtin "max.loop" ⟨[.ref I,.none,.ref S],[("default",d)]⟩) R s:=by
 have hw:S∉wr:=λh=>hS (W.sub _ h);have nm:(toString "max" ++ toString ".loop" : String) = "max.loop" := by decide
 have oth:∀(h:cx) (f:Array af->Array af) b o,b≠S->h.get? b=some o->(h.update S (nu f)).get? b=some o:=λh f b o hb q=>(lh _ _ (dh hb)).trans q;intro m
 induction m with
 |zero=>
  intro k s acc c e st eS b fin;obtain rfl:k=n:=by omega
  refine mq F.entry_max_loop ?_;rw[kd F.plain_max_loop _];refine ae (m:=seqItems? (.ref S)) (jd eS rfl (ae (zw (W.done s _ _ st λh' tk kk=>?_))))
  cases k with
  |zero=>obtain rfl:acc=[]:=b;exact ae (tj (ai (fin d h' tk (.inl ⟨rfl,rfl⟩) λb o hb _ q=>kk b o hb q)))
  |succ k=>obtain⟨i,v,pv,ev,rfl⟩:=b;have eS':=kk S _ hw eS;refine ae (m:=updateSeq S λ_=>#[]) (yx eS' rfl (ae (qu (ai ?_))) (by show 2<=cf;decide) (by show 0<=cf+1;omega));exact fin v _ tk (.inr ⟨i,k,pv,rfl,ev⟩) λb o hb hs q=>oth _ _ b o hs (kk b o hb q)
 |succ m ih=>
  intro k s acc c e st eS b fin;refine mq F.entry_max_loop ?_;rw[kd F.plain_max_loop _];refine ae (m:=seqItems? (.ref S)) (jd eS rfl (ae (zw (W.item k s _ _ (by omega) st λx h' tk px Dp kk=>?_))));have eS':=kk S _ hw eS;have go:∀(g:cx) (t:Nat) (C':List af) (c':Nat),g.get? S=some (EA C' c')->NS P ky (k+1) C'->(∀b o,b≠S->h'.get? b=some o->g.get? b=some o)->
    wpAny (model prog w) A.in1 (again (.builtin (toString "max" ++ toString ".loop") ⟨[.ref I,.none,.ref S],[("default",d)]⟩)) (λf s'=>match f with | .done f=>R (.ok f) s' | .again c'=>c'.quiet=true/\codeAny (model prog w) A c' R s') (λe s'=>R (.error e) s') { s with heap:=g,toks:=t }:=λg t C' c' eg b' og=>by
   rw[nm];refine ai ⟨wy F.plain_max_loop _,ih (k+1) _ C' c' (by omega) (W.frame _ _ _ Dp λb hb o q=>og b o (λz=>hS (z▸hb)) q) eg b' λv h'' tk'' hv k''=>?_⟩;exact fin v h'' tk'' hv λb o hb hs q=>k'' b o hb hs (og b o hs (kk b o hb q))
  cases k with
  |zero=>obtain rfl:acc=[]:=b;refine ae (m:=updateSeq S λ_=>#[x,x]) (yx eS' rfl ?_ (by show 0<=cf;omega) (by show 2<=cf+1;decide));exact go _ _ [x,x] _ (ka _ eS' rfl) ⟨0,x,px,rfl,rfl⟩ λb o hb q=>oth _ _ b o hb q
  |succ k=>
   obtain⟨i,v,pv,ev,rfl⟩:=b;refine ae (ai (ae (zw (gw (ae (hc (k+1) i x v _ _ _ px pv (ae (gw (kn (ae (qu (ai ?_))))))))))));have best:fS nO ky (k+1)=if nO (ky (k+1)) (ky i)=true then ky (k+1)else ky i:=by rw[fS,<-ev]
   cases hb:nO (ky (k+1)) (ky i)with
   |true=>rw[hb,if_pos rfl]at best;rw[if_pos (show(λi j=>nO (ky i) (ky j)) (k+1) i=true from hb)];refine ae (m:=updateSeq S λ_=>#[x,x]) (yx eS' rfl (ae (qu ?_)) (by show 2<=cf;decide) (by show 2<=cf+1;decide));exact go _ _ [x,x] _ (ka _ eS' rfl) ⟨k+1,x,px,best.symm,rfl⟩ λb o hb q=>oth _ _ b o hb q
   |false=>rw[hb,if_neg (by decide)]at best;rw[if_neg (show ¬ (λi j=>nO (ky i) (ky j)) (k+1) i=true from by rw[show(λi j=>nO (ky i) (ky j)) (k+1) i=false from hb];decide)];refine ae (qu ?_);exact go _ _ [v,v] _ eS' ⟨i,v,pv,best.symm,rfl⟩ λb o _ q=>q
end
section
variable{X:Cx}{G:Cfg}{E:XK}{e:bo}{ml:M Aw }{p pos kpos:Pos}
theorem z07 (hc:X.calm=true) {pins:List (ah×Obj)}{s:ag}{σ:St}{H:Hp}{Q:VK}{q:ah}{ns:Aq}{dv:Int}{t0:Tok}(I:Inv X pins σ H s) (hp:H q=some (.lst (ns.map V.int))) (k:Q (.int (if ns=[]then dv else cV ns)) H):
  wpAny (model X.prog X.w) X.A (call (.builtin "max") [.ref q] [("default",.int dv t0)]) (EP X pins σ Q) X.xe s:=by
 obtain⟨its,rits,pl,hz⟩:=I.list (Bs.of hp);have hn:its.toArray.size=ns.length:=by have:=rits.length;simp at this ⊢;omega
 have lp:=I.hok.lt hp;have nm:(toString "max" ++ toString ".loop" : String) = "max.loop" := by decide
 have hh:X.A.in1.handled=none:=I.ok.hd hc;refine zi (qt F.plain_max F.entry_max ?_);have ck:checkBuiltinCall "max" ⟨[.ref q],[("default",.int dv t0)]⟩=pure ():=by
  have a:=z05 (.ref q) (.int dv t0);unfold argsOk at a;unfold checkBuiltinCall;rw[F.kind_max]
  revert a
  cases Manifest.signature? "max" with
  |none=>intro _;rfl
  |some sg=>intro a;exact a
 refine uf ck ?_;have bp:ux "max" ["key","default"] 0 ⟨[],[("default",.int dv t0)]⟩=pure [none,some (.int dv t0)]:=by kernel_rfl
 refine ae (m:=ux "max" ["key","default"] 0 ⟨[],[("default",.int dv t0)]⟩) (uf bp (ae (ai (ae (kq pl.isList (ae (fz ?_)))))));rw[nm];have ne1:q≠s.heap.objs.size:=az lp;have W:=uc (prog:=X.prog) (w:=X.w) (A:=X.A.in1) hh s.heap.objs.size q ne1 its.toArray;rw[hn]at W;generalize hit:({ cls:=.type "list_iterator",data:=.fields #[.ref q,.int 0 0] }:Obj)=it;have e1:(s.heap.push it).get? s.heap.objs.size=some it:=bc _ (by rw[<-hit];rfl);have s1:(s.heap.push it).objs.size=s.heap.objs.size+1:=zt _ _;have eS:((s.heap.push it).push { cls:=.type "list",dict:=none,data:=.seq ([]:List af).toArray }).get? (s.heap.objs.size+1)=some (EA [] 0):=by rw[<-s1];exact bc _ rfl
 have l1:((s.heap.push it).push { cls:=.type "list",dict:=none,data:=.seq ([]:List af).toArray }).IsList q its.toArray:=(pl.isList.push _).push _;have st:((s.heap.push it).push { cls:=.type "list",dict:=none,data:=.seq ([]:List af).toArray }).get? s.heap.objs.size=some it:=ak _ e1;have kp:∀b o,s.heap.get? b=some o->((s.heap.push it).push { cls:=.type "list",dict:=none,data:=.seq ([]:List af).toArray }).get? b=some o:=λb o e=>ak _ (ak _ e);rw[s1];generalize ((s.heap.push it).push { cls:=.type "list",dict:=none,data:=.seq ([]:List af).toArray })=g at eS l1 st kp;refine ai ⟨wy F.plain_max_loop _,z06 (ky:=λi=>ns.getD i 0) W (CmpOf.ints_gt (λi=>ns.getD i 0) (λi v ev=>rM rits ev)) ?_ ns.length 0 { s with heap:=g } [] 0 (by omega) ⟨⟨it,st,by rw[<-hit],by rw[<-hit];rfl⟩,l1⟩ eS rfl λv h' tk hv kk=>?_⟩
 ·intro m
  rcases bh.mp m with z|z
  ·exact pz _ z
  ·exact jn (jb lp) (bz.mp z)
 ·have I':Inv X pins σ H { s with heap:=h',toks:=tk }:=I.kept (t':=tk) λb o e=>by have lt:=aq e;exact kk b o (λm=>az lt (bz.mp m)) (az (jb lt)) (kp b o e)
  rcases hv with⟨h0,rfl⟩|⟨i,p,pv,hp1,hb⟩
  ·have:ns=[]:=ua.mp h0;rw[if_pos this]at k;exact⟨.int dv,H,I',⟨t0,rfl⟩,k⟩
  ·have hne:ns≠[]:=λz=>by rw[z]at hp1;cases hp1
   rw[if_neg hne]at k;obtain⟨t',rfl⟩:=rM rits pv;refine⟨.int (cV ns),H,I',⟨t', ?_⟩,k⟩;rw[hb,cV,hp1];rfl
def rV (dv:Int) (x:Dv) (h:Hs):Rs Dv:=match x with
 | .ref i=>match getL h i with
  |some xs=>match bU gH xs with
   |some ns=>.ok (.int (if ns=[]then dv else cV ns)) h
   |none=>.bad
  |none=>.bad
 |_=>.bad
theorem z08 {me:M Dv}{dv:Int}{cj:Nat}{cpos:Pos}(hc:X.calm=true) (hg:Gl X "max") (hm:X.mg "max" = none) (he:aK X G E e me)
  (h1:backTo pos (ar [e] X.env)=(false,eval e X.env)::backTo pos (ar [] X.env):=by rfl) (h2:(backTo pos (ar [e] X.env)).any (·.1)=false:=by rfl):
  aK X G E (.Call (.Name "max" p) [e] [⟨some "default",.Constant (.int dv) cj cpos,kpos⟩] pos) (m1 (rV dv) me):=λhK pins s σ H Q I ⟨μ,ρ,h,rs,sm,o⟩=>by
 refine ou (nW I hg hm BS (callWith_kw ?_ h1 h2));rw[h1];refine Calls.spliced_cons (bD (he hK pins s σ H _ I ⟨μ,ρ,h,rs,sm,Out.bind (R1:=Bc G) o⟩) λu s1 ⟨v,H1,I1,r1,μ1,x,h1',x1,sm1,rx,o1⟩=>Calls.spliced_nil (kws_cons (bD (GQ pins s1 σ H1 (λv H=>v=.int dv/\H=H1) I1 ⟨rfl,rfl⟩) λu2 s2 ⟨v2,H2,I2,r2,e2,e3⟩=>kws_nil ?_)));subst e2 e3;obtain⟨t0,rfl⟩:=r2
 cases x with
 |ref i=>
  dsimp only[rV]at o1
  cases q1:getL h1' i with
  |none=>rw[q1]at o1;exact o1.elim
  |some xs=>
   rw[q1]at o1;dsimp only at o1
   cases q2:bU gH xs with
   |none=>rw[q2]at o1;exact o1.elim
   |some ns=>rw[q2]at o1;obtain⟨vs,ea,ra⟩:=sm1.ob i _ (cU q1);obtain⟨_,rfl⟩:=rx;cases r1;exact z07 hc I2 (by rw[ea,oH ra q2]) (o1.val sm1 rfl)
 |_=>exact o1.elim
end
section
variable{X:Cx}{G:Cfg}{E:XK}{o i o' i' e:bo}{me mo mi mo' mi':M Dv}{pos spos spos' tpos:Pos}{kt:Nat}
end
section
variable{X:Cx}{G:Cfg}{E:XK}{e:bo}{aO:M Aw }{p pos:Pos}
end
section
variable{X:Cx}{G:Cfg}{E:XK}{a b e o:bo}{ma mb me mo:M Dv}{pos p cpos apos:Pos}
end
section
variable{X:Cx}{G:Cfg}{E:XK}{a b c e o:bo}{ma mb me mo:M Dv}{mt:M Bool}{pos p2:Pos}
end
section
variable{X:Cx}{G:Cfg}{E:XK}{e o:bo}{me mo:M Dv}{cpos apos:Pos}
end
section
variable{X:Cx}{G:Cfg}{E:XK}{e:bo}{es:List bo}{aO:M Aw }{p pos:Pos}
end
open L2.Mr
section
variable{X:Cx}{G:Cfg}{E:XK}{pos:Pos}
end
section
variable{X:Cx}{G:Cfg}{E:XK}{e:bo}{mo me:M Dv}{apos cpos np:Pos}{y:Str}
theorem NT {eq:af->Bool}{k:Int}(he:∀m t,eq (.int m t)=(m==k)):∀{vs:List af}{ns:Aq},lg vs ns->vs.countP eq=ns.count k
 |_,_,.nil=>rfl
 |_,_,.cons m t h=>by rw[pg,List.count_cons,NT he h,he]
theorem z09:wK X "list.count" (λx xs H Q=>∃(a:ah) (ns:Aq) (k:Int),x=.ref a/\xs=[.int k]/\H a=some (.lst (ns.map V.int))/\Q (.int (ns.count k)) H):=by
 intro pins s σ H x xs v us Q I rx rv ⟨a,ns,k,e1,e2,ha,q⟩;subst e1;subst e2;cases rx;obtain⟨u,rfl,ru⟩:=iX rv;obtain⟨t,rfl⟩:=ru;obtain⟨z,its,n,r,hl,e⟩:=I.lstM ha;have hi:=CU r
 let eq:af->Bool:=λy=>match y with
  | .int m _=>m==k
  |_=>false
 have hn:its.length=ns.length:=by have:=r.length;simp at this;omega
 have hc:its.toArray.toList.countP eq=ns.count k:=by rw[List.toList_toArray];exact NT (λ_ _=>rfl) hi
 refine sy ye ⟨_,e,rfl⟩ PySem.F.entry_list_count (PySem.F.args_list_count_2 _ _) (MeetsSeq.list_count a its.toArray n (.int k t) eq (λy hy=>?_)) ⟨e, ?_⟩
 ·obtain⟨m,hm,rfl⟩:=Array.getElem_of_mem hy;have Eb:m<ns.length:=by rw[aw,hn]at hm;exact hm
  obtain⟨tt,e1⟩:=CZ hi (ay Eb);obtain⟨hx,e2⟩:=ax.mp e1;have e3:its.toArray[m]=.int ns[m] tt:=by simpa using e2
  rw[e3];exact MeetsSeq.EqGives.int ns[m] k tt t
 ·rw[hc];exact⟨.int (ns.count k),H,I.tok _,⟨_,rfl⟩,q⟩
def EC (x i:Dv) (h:Hs):Rs Dv:=match x,i with
 | .ref j,.int k=>match getL h j with
  |some xs=>match bU gH xs with
   |some ns=>.ok (.int (ns.count k)) h
   |none=>.bad
  |none=>.bad
 |_,_=>.bad
def uR (mo me:M Dv):M Dv:=λρ h=>(mo ρ h).bind λx h1=>if iJ x h1=true then(me ρ h1).bind λd h2=>EC x d h2 else .bad
theorem NU (ho:aK X G E (.Name y np) mo) (he:aK X G E e me) (hs:ar [e] X.env=[(false,eval e X.env)]:=by rfl) (hl:(apos.endLine==cpos.line)=true:=by rfl):aK X G E (.Call (.Attribute (.Name y np) "count" apos) [e] [] cpos) (uR mo me):=λhK=>
 PE.imp (sT kj ye PySem.F.type_list_count z09 (ho hK) (iE (he hK) jH hs) rfl (by rw[hs];rfl) hl hs rfl) λσ H Q ⟨μ,ρ,h,rs,s,oo⟩=>eG rs s oo λμ1 x h1 vx H1 x1 Bo s1 r1 o1=>by
  split at o1
  ·rename_i hl;refine⟨tP s1 r1 hl,eG Bo s1 o1 λμ2 d h2 vd H2 x2 Cw s2 r2 o2=>?_⟩;unfold EC at o2
   split at o2
   ·rename_i j k
    cases q:getL h2 j with
    |none=>rw[q]at o2;exact o2.elim
    |some xs=>
     rw[q]at o2;dsimp only at o2
     cases q2:bU gH xs with
     |none=>rw[q2]at o2;exact o2.elim
     |some ns=>rw[q2]at o2;obtain⟨vs,ea,ra⟩:=s2.ob j _ (cU q);obtain⟨_,rfl⟩:=Bc.mono x2 _ _ r1;rw[Bc]at r2;subst r2;exact⟨_,ns,k,rfl,rfl,by rw[ea,oH ra q2],o2.val s2 rfl⟩
   ·exact o2.elim
  ·exact o1.elim
end
end L2.Mr
namespace L2.Mr.K06
open PySem PySem.Spec PyProof.Rows L2 L2.Mr
open L2.Mr.Com
open L2.Mr.Sam
def tblV:List (Nat×Bool):=[(0,true)]
def tbl0:List (Nat×Bool):=[(0,true)]
def tbl1:List (Nat×Bool):=[(0,false)]
def tbl2:List (Nat×Bool):=[(0,false)]
def tbl3:List (Nat×Bool):=[(0,false)]
def tbl4:List (Nat×Bool):=[(0,false)]
def tbl5:List (Nat×Bool):=[(0,false)]
def tbl6:List (Nat×Bool):=[(0,false)]
def tbl7:List (Nat×Bool):=[(0,false)]
def tbl8:List (Nat×Bool):=[(0,false)]
def tbl9:List (Nat×Bool):=[(0,false)]
def Eh:List (Nat×Bool):=[(0,false)]
def mb_qq:MS:=(bX (eJ (cB (aF F_q1 (aB (aA 0) aC)))) (tM 0 (aB (mC (.str "this is no order")) aC)) cO)
def F_qq:Av:=aW 1 1 (mb_qq)
def oK:MS:=(aH (aJ (m2 aR (aA 0) (mC (.int 1))) (aD 3)) (aN (dX (m2 dG (aA 1) (aA 2)) (dX (m2 (cS true) (aL (aB (aA 1) (aB (aA 2) aC))) (aA 3)) (m2 (cS true) (aL (aB (aA 2) (aB (aA 1) aC))) (aA 3))))))
def F_qv:Av:=aW 3 4 (oK)
def rW:MS:=(aH (cT (aF F_qq (aB (aA 0) aC))) (aH (aJ (m2 aR (aA 0) (mC (.int 0))) (aD 1)) (aN (aZ (bC (aO bY (aB (aA 1) aC)) [none,none,some 0,some 1] (aD 0) bT (iH (aO gM (aB (m2 bF (aA 0) (mC (.int 1))) (aB (aA 3) aC))) (aD 1) (cB (aF F_qv (aB (aA 2) (aB (aA 0) (aB (aA 1) aC))))) (aY (aL (aB (aA 0) (aB (aA 1) aC))))))))))
def F_qi:Av:=aW 1 2 (rW)
def uS:MS:=(aH (aJ (aA 0) (cM 2 (bA (aD 2) (bA (aD 3) cP)))) (aH (aJ (aZ (bC (aX fZ (aA 3)) [none,none,some 1] (cM 2 (bA (aD 0) (bA (aD 1) cP))) (mB (m2 (cS true) (aA 0) (aA 2))) (aY (aA 1)))) (aD 4)) (aN (aZ (bC (aO bY (aB (aA 2) aC)) [none,some 1,some 4] (aD 0) (jA (mB (m2 (cS true) (aA 0) (aA 1))) (mB (m2 (cS true) (aA 0) (aA 2)))) (aY (aA 0)))))))
def F_q4:Av:=aW 2 5 (uS)
def uT:MS:=(aH (cT (aF F_qq (aB (aA 0) aC))) (aH (aJ (aV (aB (aL aC) aC)) (aD 1)) (aH (cX (aO bY (aB (m2 aR (aA 0) (mC (.int 0))) aC)) (aD 2) (aJ (aZ (bC (aX bG (aA 1)) [none,none,some 0] (aD 0) bT (iH (aX bG (aF F_q4 (aB (aA 2) (aB (aA 0) aC)))) (aD 1) bT (aY (m2 bF (aA 0) (aL (aB (aA 1) aC))))))) (aD 1))) (aN (aA 1)))))
def F_q0:Av:=aW 1 3 (uT)
def uU:MS:=(aN (aF (f1 lQ) (aB (m2 hO (eQ (aA 0) (m2 aR (aA 1) (mC (.int 0)))) (eQ (aA 0) (m2 aR (aA 1) (mC (.int 1))))) aC)))
def F_q6:Av:=aW 2 2 (uU)
def uV:MS:=(aN (m1 (rV 0) (aZ (bC (aX bG (aA 1)) [none,some 0] (aD 0) bT (aY (aF F_q6 (aB (aA 1) (aB (aA 0) aC))))))))
def F_qd:Av:=aW 2 2 (uV)
def yX:MS:=(aH (aJ (aF F_qi (aB (aA 0) aC)) (aD 1)) (aN (aZ (bC (aX bG (aF F_q0 (aB (aA 0) aC))) [none,some 1] (aD 0) bT (aY (aL (aB (aA 0) (aB (aF F_qd (aB (aA 0) (aB (aA 1) aC))) aC))))))))
def F_qa:Av:=aW 1 2 (yX)
def NV:MS:=(aN (aF (f1 (fJ dU)) (aB (aZ (bC (aX bG (aF F_qa (aB (aA 0) aC))) [none,none] (cM 2 (bA (aD 0) (bA (aD 1) cP))) bT (aY (aA 1)))) aC)))
def F_qp:Av:=aW 1 1 (NV)
def NW:MS:=(aH (aJ (aZ (bC (aX bG (aF F_qa (aB (aA 0) aC))) [none,none] (cM 2 (bA (aD 0) (bA (aD 1) cP))) bT (aY (aA 1)))) (aD 1)) (aN (aZ (bC (aO bY (aB (m2 bF (aF (f1 (fJ cV)) (aB (aA 1) aC)) (mC (.int 1))) aC)) [none,some 1] (aD 0) bT (aY (uR (aA 1) (aA 0)))))))
def F_q7:Av:=aW 1 2 (NW)
def yY:MS:=(aH (aJ (aF F_qa (aB (aA 0) aC)) (aD 1)) (aH (aJ (aF (f1 (fJ dU)) (aB (aZ (bC (aX bG (aA 1)) [none,none] (cM 2 (bA (aD 0) (bA (aD 1) cP))) bT (aY (aA 1)))) aC)) (aD 2)) (aN (aZ (bC (aX bG (aA 1)) [none,none,some 2] (cM 2 (bA (aD 0) (bA (aD 1) cP))) (mB (m2 cA (aA 1) (aA 2))) (aY (aA 0)))))))
def F_qx:Av:=aW 1 3 (yY)
def NX:MS:=(aN (m2 aR (aF F_qx (aB (aA 0) aC)) (mC (.int 0))))
def F_qn:Av:=aW 1 1 (NX)
def uW:MS:=(aH (aJ (aV (aB (aL aC) aC)) (aD 1)) (aH (cX (aO bY (aB (m2 aR (aA 0) (mC (.int 0))) aC)) (aD 2) (aH (aJ (aV aC) (aD 3)) (aH (cX (aX bG (aA 1)) (aD 4) (aJ (m2 bF (aA 3) (aZ (bC (aO bY (aB (m2 aR (aA 0) (mC (.int 0))) aC)) [none,some 4] (aD 0) (mB (m2 (cS true) (aA 0) (aA 1))) (aY (m2 bF (aA 1) (aL (aB (aA 0) aC))))))) (aD 3))) (aJ (aA 3) (aD 1))))) (aN (aZ (bC (aX bG (aA 1)) [none,some 0] (aD 0) (mB (m2 cA (aZ (bC (aX fZ (m2 aR (aA 1) (mC (.int 1)))) [none,none,some 0] (cM 2 (bA (aD 0) (bA (aD 1) cP))) (mB (m2 kE (eQ (aA 2) (aA 0)) (eQ (aA 2) (aA 1)))) (aY (mC (.int 1))))) (aV aC))) (aY (aA 0)))))))
def F_qr:Av:=aW 1 5 (uW)
def pW:MS:=(aH (aJ (aV aC) (aD 1)) (aH (cX (aO bY (aB (m2 aR (aA 0) (mC (.int 0))) aC)) (aD 2) (cX (aO gM (aB (m2 bF (aA 2) (mC (.int 1))) (aB (m2 aR (aA 0) (mC (.int 0))) aC))) (aD 3) (bX (jA (mB (m2 (cS true) (aL (aB (aA 2) (aB (aA 3) aC))) (m2 aR (aA 0) (mC (.int 1))))) (mB (m2 (cS true) (aL (aB (aA 3) (aB (aA 2) aC))) (m2 aR (aA 0) (mC (.int 1)))))) (cT (eO (aA 1) (aL (aB (aA 2) (aB (aA 3) aC))))) cO))) (aN (aA 1))))
def F_qj:Av:=aW 1 4 (pW)
def uX:MS:=(aN (aF (f1 (fJ cV)) (aB (m2 bF (aV (aB (mC (.int 0)) aC)) (aZ (bC (aX bG (aF F_qj (aB (aA 0) aC))) [none,none,some 1] (cM 2 (bA (aD 0) (bA (aD 1) cP))) bT (aY (aF (f1 lQ) (aB (m2 hO (eQ (aA 2) (aA 0)) (eQ (aA 2) (aA 1))) aC)))))) aC)))
def F_qt:Av:=aW 2 2 (uX)
def gD:MS:=(aH (aJ (aV (aB (m1 (bB (cY none tbl0)) (aA 1)) (aB (m1 (bB (cY none tbl1)) (aA 1)) (aB (m1 (bB (cY none tbl2)) (aA 1)) aC)))) (aD 3)) (aH (aJ (m2 bF (aA 3) (aV (aB (m1 (bB (cY none tbl3)) (aA 1)) (aB (m1 (bB (cY none tbl4)) (aA 1)) (aB (m1 (bB (cY none tbl5)) (aA 1)) aC))))) (aD 3)) (aH (aJ (m2 bF (aA 3) (aV (aB (m1 (bB (cY none tbl6)) (aA 1)) (aB (m1 (bB (cY none tbl7)) (aA 1)) (aB (m1 (bB (cY none tbl8)) (aA 1)) aC))))) (aD 3)) (aH (aJ (m2 bF (aA 3) (aV (aB (m1 (bB (cY none tbl9)) (aA 1)) (aB (m1 (bB (cY none Eh)) (aA 1)) aC)))) (aD 3)) (aH (bX (eJ (cB (m1 (bB (cY none tblV)) (aA 1)))) (aN (mC .non)) cO) (aN (aZ (bC (aO bY (aB (mC (.int 11)) aC)) [none,some 3] (aD 0) (cB (m2 aR (aA 1) (aA 0))) (aY (aA 0))))))))))
def NY:M Dv:=(aF F_qp (aB (aA 0) aC))
def NZ:M Dv:=(aF F_q7 (aB (aA 0) aC))
def N0:M Dv:=(aF F_qx (aB (aA 0) aC))
def N1:M Dv:=(aF F_qn (aB (aA 0) aC))
def yZ:Nat->Option (As×M Dv)
 |0=>some ([10],NY)
 |1=>some ([10],NZ)
 |2=>some ([10],N0)
 |3=>some ([10],N1)
 |_=>none
def zA (scr:Aq) (tt:Nat):MS:=(aH (aJ (aF (F_ql scr) (aB (aA 0) (aB (aA 1) aC))) (aD 2)) (aH (aJ (aF F_qk (aB (aA 2) (aB (mC (.int 6)) aC))) (aD 3)) (aH (aJ (aF F_qr (aB (aA 3) aC)) (aD 4)) (aH (aJ (aZ (bC (aX bG (aA 4)) [none,some 3] (aD 0) bT (aY (aF F_qt (aB (aA 1) (aB (aA 0) aC)))))) (aD 5)) (aH (aJ (aF (f1 (fJ dU)) (aB (aA 5) aC)) (aD 6)) (aH (aJ (aV (aB (aZ (bC (aO bY (aB (m2 bF (aF (f1 (fJ cV)) (aB (aA 5) aC)) (mC (.int 1))) aC)) [none,some 5] (aD 0) bT (aY (uR (aA 1) (aA 0))))) aC)) (aD 7)) (aH (cT (eO (aA 7) (aZ (bC (aO bY (aB (aF (f1 eW) (aB (aA 4) aC)) aC)) [none,some 4,some 6,some 5] (aD 0) (mB (m2 cA (m2 aR (aA 3) (aA 0)) (aA 2))) (aY (m2 aR (aA 1) (aA 0))))))) (aH (bX (gX (eJ (cB (aF (F_qs 6) (aB (aF F_qp (aB (aA 3) aC)) (aB (aA 6) aC))))) (eJ (cB (aF (F_qs 6) (aB (aF F_qn (aB (aA 3) aC)) (aB (m2 aR (m2 aR (aA 7) (mC (.int 1))) (mC (.int 0))) aC)))))) (aN (mC (.bl false))) cO) (aH (cX (aO bY (aB (mC (.int 2)) aC)) (aD 8) (aH (aJ (aV (aB (aF F_q7 (aB (aA 3) aC)) (aB (aF F_qx (aB (aA 3) aC)) aC))) (aD 9)) (aH (bX (eJ (cB (aF (F_qs 6) (aB (aA 9) (aB (aA 7) aC))))) (aN (mC (.bl false))) cO) (cT (eO (m2 aR (aA 9) (aA 8)) (mC (.int 0))))))) (aH (aJ (aF F_qb (aB (aA 2) aC)) (aD 10)) (aH (aJ (aV (aB (iW 0 tt) aC)) (aD 11)) (aH (cT (eO (aA 11) (iW 1 tt))) (aH (cT (eO (aA 11) (iW 2 tt))) (aH (cT (eO (aA 11) (iW 3 tt))) (bX (mB (m2 dG (aZ (pS (aX bG (aA 11)) yZ tt 4 11 gD)) (m2 pO (aV (aB (aV (aB (mC (.int 0)) aC)) aC)) (mC (.int 4))))) (aN (mC (.bl false))) cO)))))))))))))))
def N2 (scr:Aq) (tt:Nat):MS:=(cX (aO bY (aB (aF nA (aB (mC (.int 1)) (aB (aF qZ (aB (aF (f1 (iQ scr)) (aB (aA 0) aC)) (aB (mC (.int 3)) aC))) aC))) aC)) (aD 1) (zA scr tt))
def ml1:MS:=(aN (mC (.bl true)))
def zB (scr:Aq) (tt:Nat):MS:=(aH (N2 scr tt) (ml1))
def F_q8 (scr:Aq):Av:=uQ 1 12 (zB scr)
end L2.Mr.K06
namespace L2.Mr
open PySem PySem.Spec PyProof.Rows L2
section
variable{X:Cx}{G:Cfg}{E:XK}{e:bo}{me:M Dv}{pos pos':Pos}{i:Nat}{x:Str}
theorem bS (hN:X.N.Nodup) (hi:X.N[i]?=some x:=by rfl) (hx:lL X.env.scope x:=by first|exact .inl rfl|exact .inr rfl) (hf:X.fn x=true∨X.env.scope.names.lookup x=some .local:=by first|exact .inl rfl|exact .inr rfl|assumption):jR X G (.Name x pos) (aD i):=WB hN hi hx hf
theorem cN (hN:X.N.Nodup) (he:aK X G E e me) (hi:X.N[i]?=some x:=by rfl) (hx:lL X.env.scope x:=by first|exact .inl rfl|exact .inr rfl) (hs:swapsWith e (some (.Name x pos')) pos.line X.env=pure false:=by rfl) (hf:X.fn x=true∨X.env.scope.names.lookup x=some .local:=by first|exact .inl rfl|exact .inr rfl|assumption):jI X G E (.Assign [.Name x pos'] e pos) (aJ me (aD i)):=BV hN hi hx he hs hf
theorem eE {sc os:gh}{oN N:Au}{cap:List (Option Nat)}(hs:X.env.scope.names=os.names:=by rfl) (hN:X.N=oN:=by rfl) (h1:sc.kind=.function:=by rfl) (h2:∀p∈sc.names,p.2=.local->sc.names.lookup p.1=some .local:=by decide +kernel) (h3:cap.length=N.length:=by rfl)
  (h4:∀p∈sc.names,p.2=.free->os.names.lookup p.1=some .cell∨os.names.lookup p.1=some .free:=by decide +kernel) (h5:∀p∈sc.names,p.2=.free->(p.1,dz)∉sc.names:=by decide +kernel) (h6:∀q∈cap.zip N,∀j∈q.1,oN[j]?=some q.2/\sc.names.lookup q.2=some .free:=by decide +kernel):Bu X sc N cap:=YE hs hN h1 h2 h3 h4 h5 h6
end
theorem dI {N P:Au}{sc:gh}(h1:sc.kind=.function:=by rfl) (h2:sc.isCoroutine=false:=by rfl) (h3:sc.isGenerator=false:=by rfl) (h4:N.Nodup:=by decide +kernel) (h5:N.take P.length=P:=by rfl) (h6:∀x∈P,sc.names.lookup x=some .local∨sc.names.lookup x=some .cell:=by decide +kernel) (h7:∀y∈sc.names,y.2≠.free:=by decide +kernel):Bb N P sc:=⟨h1,h2,h3,h4,h5,h6,h7⟩
theorem cF {k:Nat}{f:ah}{X:Cx}{G:Cfg}{E:XK}{F:Av}{ps:Au}{fd:bq}{x:Str}{p pos:Pos}{e:bo}{es:List bo}{ms:M Aw }{j:Nat}(g:Good X G E k) (Fn:Bg X.prog X.w X.K X.mg X.base (bI X.prog X.w X.base) j f fd ps (cR G F))
  (hm:X.mg x=some (.ref f)) (hk:ki X.K (.ref f)=true) (hb:Binds X.K fd ps []) (ha:eF X G E (e::es) ms) (hj:j<=k:=by decide) (hg:Gl X x:=by exact rfl)
  (Dq:(x==("__debug__" : Str))=false:=by decide) (he:ar (e::es) X.env=(false,eval e X.env)::ar es X.env:=by rfl) (Cj:(backTo pos (ar es X.env)).any (·.1)=false:=by rfl):
  aK X G E (.Call (.Name x p) (e::es) [] pos) (aF F ms):=KC g Fn hj hg hm hk hb ha Dq he Cj
open PySem.W in
theorem dJ {F:List (Frag->Bool)}{K:Frag}{l m:List (Option bq)}(hf:l=m) (hc:F.all (λf=>f K)=true) (f:ah) (st:gz) (n:Str) (c:ah) (ps:Au) (i j k:Nat)
  (hb:∀(kV doc pm:af) (an:Option ah) (cdv ct:af) (us:List af),us.length=ps.length->bindArgs (fnOf n n (nY st) (iG st) (aU st) .none kV doc pm an cdv ct) ⟨us,[]⟩=pure (ps.zip us))
  (h1:l[i]?=some (cW K f):=by rfl) (h2:m[i]?=some (some (fnOf n n (nY st) (iG st) (aU st) .none .none .none .none none (.ref c) .none)):=by rfl) (h3:F[j]?=some (codeIn · (.ref c) n):=by rfl) (h4:F[k]?=some (keepIn · (.ref f)):=by rfl):
  ∃fd:bq,B' K n n st f fd/\Binds K fd ps []/\fd.code=.ref c/\∀us:List af,us.length=ps.length->bindArgs fd ⟨us,[]⟩=pure (ps.zip us):=YD (QJ hf i h1 h2) (qK hc j h3) (qK hc k h4) hb
end L2.Mr
namespace L2.Mr.K06
open PySem PySem.Spec PyProof.Rows L2 L2.Mr
open L2.Mr.Com
open L2.Mr.Sam
def dM (i:Nat):gz:=aa.main.body.getD i (.Pass ⟨0,0,0,0⟩)
abbrev ED:gz:=dM 14
abbrev EE:gz:=dM 15
abbrev zC:gz:=dM 16
abbrev EF:gz:=dM 19
abbrev zD:gz:=dM 20
abbrev EG:gz:=dM 21
abbrev zE:gz:=dM 22
abbrev zF:gz:=dM 23
abbrev zG:gz:=dM 24
abbrev EH:gz:=dM 25
abbrev EI:gz:=dM 26
abbrev EJ:gz:=dM 27
abbrev zH:gz:=dM 28
abbrev uY:gz:=dM 30
abbrev zI:gz:=dM 31
abbrev EK:gz:=dM 32
abbrev zJ:gz:=dM 33
abbrev zK:gz:=dM 35
abbrev zL:gz:=dM 36
abbrev uZ:gz:=dM 37
abbrev vA:gz:=dM 38
abbrev EL:gz:=dM 39
abbrev EM:gz:=dM 41
abbrev EN:gz:=dM 42
abbrev EO:gz:=dM 43
abbrev ER:gz:=dM 44
abbrev zM:gz:=dM 45
abbrev vB:gz:=dM 46
abbrev vC:gz:=dM 47
abbrev ES:gz:=dM 48
abbrev zN:gz:=dM 49
abbrev ET:gz:=dM 50
abbrev zO:gz:=dM 51
abbrev pX:gz:=dM 52
abbrev fH:gz:=dM 53
set_option genInjectivity false in
structure Ad where
 f_q3:ah
 fd_q3:bq
 f_qo:ah
 fd_qo:bq
 f_qz:ah
 fd_qz:bq
 f_q2:ah
 fd_q2:bq
 f_qm:ah
 fd_qm:bq
 f_q5:ah
 fd_q5:bq
 f_qw:ah
 fd_qw:bq
 f_qy:ah
 fd_qy:bq
 f_qh:ah
 fd_qh:bq
 f_q1:ah
 fd_q1:bq
 f_qq:ah
 fd_qq:bq
 f_qv:ah
 fd_qv:bq
 f_qi:ah
 fd_qi:bq
 f_q4:ah
 fd_q4:bq
 f_q0:ah
 fd_q0:bq
 f_q6:ah
 fd_q6:bq
 f_qd:ah
 fd_qd:bq
 f_qa:ah
 fd_qa:bq
 f_qp:ah
 fd_qp:bq
 f_q7:ah
 fd_q7:bq
 f_qx:ah
 fd_qx:bq
 f_qn:ah
 fd_qn:bq
 f_qe:ah
 fd_qe:bq
 f_ql:ah
 fd_ql:bq
 f_qu:ah
 fd_qu:bq
 f_qc:ah
 fd_qc:bq
 f_qg:ah
 fd_qg:bq
 f_qk:ah
 fd_qk:bq
 f_qr:ah
 fd_qr:bq
 f_qj:ah
 fd_qj:bq
 f_qt:ah
 fd_qt:bq
 f_qb:ah
 fd_qb:bq
 f_qs:ah
 fd_qs:bq
 f_qf:ah
 fd_qf:bq
 f_q8:ah
 fd_q8:bq
 c_NoOrder:ah
 c_NoNumber:ah
 c_NoPairs:ah
 c_Round:ah
 c_NoThing:ah
 c_NoRow:ah
 c_TooMany:ah
 c_TooFew:ah
 c_NoText:ah
 c_NoLine:ah
 c_NoDeed:ah
 t_MOST_THINGS:Tok
 NE:ah
 cc:ah
 P:ah
structure Tx (K:ao) (mg:Str->Option af) (G:Cf0) (A:Ad):Prop where
 hK:K=G.K
 F_q3:B' K "is_whole" "is_whole" ED A.f_q3 A.fd_q3
 B_q3:Binds K A.fd_q3 ["thing"] []
 m_q3:mg "is_whole" = some (.ref A.f_q3)
 F_qo:B' K "is_between" "is_between" EE A.f_qo A.fd_qo
 B_qo:Binds K A.fd_qo ["thing","low","high"] []
 m_qo:mg "is_between" = some (.ref A.f_qo)
 F_qz:B' K "is_rising" "is_rising" zC A.f_qz A.fd_qz
 B_qz:Binds K A.fd_qz ["parts"] []
 m_qz:mg "is_rising" = some (.ref A.f_qz)
 F_q2:B' K "is_thing" "is_thing" EF A.f_q2 A.fd_q2
 B_q2:Binds K A.fd_q2 ["many","thing"] []
 m_q2:mg "is_thing" = some (.ref A.f_q2)
 F_qm:B' K "are_things" "are_things" zD A.f_qm A.fd_qm
 B_qm:Binds K A.fd_qm ["many","thing"] []
 m_qm:mg "are_things" = some (.ref A.f_qm)
 F_q5:B' K "is_pair" "is_pair" EG A.f_q5 A.fd_q5
 B_q5:Binds K A.fd_q5 ["many","thing"] []
 m_q5:mg "is_pair" = some (.ref A.f_q5)
 F_qw:B' K "are_pairs" "are_pairs" zE A.f_qw A.fd_qw
 B_qw:Binds K A.fd_qw ["many","things"] []
 m_qw:mg "are_pairs" = some (.ref A.f_qw)
 F_qy:B' K "has_alike" "has_alike" zF A.f_qy A.fd_qy
 B_qy:Binds K A.fd_qy ["pairs"] []
 m_qy:mg "has_alike" = some (.ref A.f_qy)
 F_qh:B' K "is_complete" "is_complete" zG A.f_qh A.fd_qh
 B_qh:Binds K A.fd_qh ["pairs"] []
 m_qh:mg "is_complete" = some (.ref A.f_qh)
 F_q1:B' K "is_order" "is_order" EH A.f_q1 A.fd_q1
 B_q1:Binds K A.fd_q1 ["thing"] []
 m_q1:mg "is_order" = some (.ref A.f_q1)
 F_qq:B' K "need_order" "need_order" EI A.f_qq A.fd_qq
 B_qq:Binds K A.fd_qq ["order"] []
 m_qq:mg "need_order" = some (.ref A.f_qq)
 F_qv:B' K "are_loose" "are_loose" EJ A.f_qv A.fd_qv
 B_qv:Binds K A.fd_qv ["order","one","other"] []
 m_qv:mg "are_loose" = some (.ref A.f_qv)
 F_qi:B' K "loose_pairs" "loose_pairs" zH A.f_qi A.fd_qi
 B_qi:Binds K A.fd_qi ["order"] []
 m_qi:mg "loose_pairs" = some (.ref A.f_qi)
 F_q4:B' K "may_come" "may_come" uY A.f_q4 A.fd_q4
 B_q4:Binds K A.fd_q4 ["order","begun"] []
 m_q4:mg "may_come" = some (.ref A.f_q4)
 F_q0:B' K "all_rows" "all_rows" zI A.f_q0 A.fd_q0
 B_q0:Binds K A.fd_q0 ["order"] []
 m_q0:mg "all_rows" = some (.ref A.f_q0)
 F_q6:B' K "apart" "apart" EK A.f_q6 A.fd_q6
 B_q6:Binds K A.fd_q6 ["row","pair"] []
 m_q6:mg "apart" = some (.ref A.f_q6)
 F_qd:B' K "greatest_apart" "greatest_apart" zJ A.f_qd A.fd_qd
 B_qd:Binds K A.fd_qd ["row","pairs"] []
 m_qd:mg "greatest_apart" = some (.ref A.f_qd)
 F_qa:B' K "rows_with_spans" "rows_with_spans" zK A.f_qa A.fd_qa
 B_qa:Binds K A.fd_qa ["order"] []
 m_qa:mg "rows_with_spans" = some (.ref A.f_qa)
 F_qp:B' K "least_span" "least_span" zL A.f_qp A.fd_qp
 B_qp:Binds K A.fd_qp ["order"] []
 m_qp:mg "least_span" = some (.ref A.f_qp)
 F_q7:B' K "spans" "spans" uZ A.f_q7 A.fd_q7
 B_q7:Binds K A.fd_q7 ["order"] []
 m_q7:mg "spans" = some (.ref A.f_q7)
 F_qx:B' K "best_rows" "best_rows" vA A.f_qx A.fd_qx
 B_qx:Binds K A.fd_qx ["order"] []
 m_qx:mg "best_rows" = some (.ref A.f_qx)
 F_qn:B' K "first_best" "first_best" EL A.f_qn A.fd_qn
 B_qn:Binds K A.fd_qn ["order"] []
 m_qn:mg "first_best" = some (.ref A.f_qn)
 F_qe:B' K "_law_cell_at" "_law_cell_at" EM A.f_qe A.fd_qe
 B_qe:Binds K A.fd_qe ["_law_script","_law_k"] []
 m_qe:mg "_law_cell_at" = some (.ref A.f_qe)
 F_ql:B' K "_law_state" "_law_state" EN A.f_ql A.fd_ql
 B_ql:Binds K A.fd_ql ["_law_script","_law_k"] []
 m_ql:mg "_law_state" = some (.ref A.f_ql)
 F_qu:B' K "_law_take" "_law_take" EO A.f_qu A.fd_qu
 B_qu:Binds K A.fd_qu ["_law_state_here","_law_many"] []
 m_qu:mg "_law_take" = some (.ref A.f_qu)
 F_qc:B' K "_law_mixed_row" "_law_mixed_row" ER A.f_qc A.fd_qc
 B_qc:Binds K A.fd_qc ["_law_state_here","_law_things"] []
 m_qc:mg "_law_mixed_row" = some (.ref A.f_qc)
 F_qg:B' K "_law_closed" "_law_closed" zM A.f_qg A.fd_qg
 B_qg:Binds K A.fd_qg ["_law_pairs"] []
 m_qg:mg "_law_closed" = some (.ref A.f_qg)
 F_qk:B' K "_law_order" "_law_order" vB A.f_qk A.fd_qk
 B_qk:Binds K A.fd_qk ["_law_state_here","_law_most"] []
 m_qk:mg "_law_order" = some (.ref A.f_qk)
 F_qr:B' K "_law_rows" "_law_rows" vC A.f_qr A.fd_qr
 B_qr:Binds K A.fd_qr ["_law_order_here"] []
 m_qr:mg "_law_rows" = some (.ref A.f_qr)
 F_qj:B' K "_law_loose" "_law_loose" ES A.f_qj A.fd_qj
 B_qj:Binds K A.fd_qj ["_law_order_here"] []
 m_qj:mg "_law_loose" = some (.ref A.f_qj)
 F_qt:B' K "_law_span" "_law_span" zN A.f_qt A.fd_qt
 B_qt:Binds K A.fd_qt ["_law_order_here","_law_row"] []
 m_qt:mg "_law_span" = some (.ref A.f_qt)
 F_qb:B' K "_law_bad_order" "_law_bad_order" ET A.f_qb A.fd_qb
 B_qb:Binds K A.fd_qb ["_law_state_here"] []
 m_qb:mg "_law_bad_order" = some (.ref A.f_qb)
 F_qs:B' K "_law_same" "_law_same" zO A.f_qs A.fd_qs
 B_qs:Binds K A.fd_qs ["_law_found","_law_due"] []
 m_qs:mg "_law_same" = some (.ref A.f_qs)
 F_qf:B' K "_law_refused" "_law_refused" pX A.f_qf A.fd_qf
 B_qf:Binds K A.fd_qf ["_law_call"] []
 m_qf:mg "_law_refused" = some (.ref A.f_qf)
 F_q8:B' K "law" "law" fH A.f_q8 A.fd_q8
 B_q8:Binds K A.fd_q8 ["_law_script"] []
 m_q8:mg "law" = some (.ref A.f_q8)
 z_ValueError:mg "ValueError" = none
 z_abs:mg "abs" = none
 z_all:mg "all" = none
 z_any:mg "any" = none
 z_bool:mg "bool" = none
 z_int:mg "int" = none
 z_isinstance:mg "isinstance" = none
 z_len:mg "len" = none
 z_list:mg "list" = none
 z_max:mg "max" = none
 z_min:mg "min" = none
 z_range:mg "range" = none
 z_set:mg "set" = none
 z_sorted:mg "sorted" = none
 z_tuple:mg "tuple" = none
 z_zip:mg "zip" = none
 c_MOST_THINGS:mg "MOST_THINGS" = some (.int 6 A.t_MOST_THINGS)
 n_NoOrder:mg "NoOrder" = some (.ref A.c_NoOrder)
 n_NoNumber:mg "NoNumber" = some (.ref A.c_NoNumber)
 n_NoPairs:mg "NoPairs" = some (.ref A.c_NoPairs)
 n_Round:mg "Round" = some (.ref A.c_Round)
 n_NoThing:mg "NoThing" = some (.ref A.c_NoThing)
 n_NoRow:mg "NoRow" = some (.ref A.c_NoRow)
 n_TooMany:mg "TooMany" = some (.ref A.c_TooMany)
 n_TooFew:mg "TooFew" = some (.ref A.c_TooFew)
 n_NoText:mg "NoText" = some (.ref A.c_NoText)
 n_NoLine:mg "NoLine" = some (.ref A.c_NoLine)
 n_NoDeed:mg "NoDeed" = some (.ref A.c_NoDeed)
 ns_NoOrder:ym K dj "NoOrder" = some (some (.ref A.c_NoOrder))
 x_NoOrder:xk K A.c_NoOrder CI "ValueError.__new__" = true
 ce_NoOrder:A.c_NoOrder=G.cl 0
 ktV:∀c b,tblV.lookup c=some b->di G.K (.ref (G.cl c)) (.type "ValueError")=some b/\Dg G.K (G.cl c)
 kt0:∀c b,tbl0.lookup c=some b->di G.K (.ref (G.cl c)) (.ref A.c_NoOrder)=some b/\Dg G.K (G.cl c)
 kt1:∀c b,tbl1.lookup c=some b->di G.K (.ref (G.cl c)) (.ref A.c_NoNumber)=some b/\Dg G.K (G.cl c)
 kt2:∀c b,tbl2.lookup c=some b->di G.K (.ref (G.cl c)) (.ref A.c_NoPairs)=some b/\Dg G.K (G.cl c)
 kt3:∀c b,tbl3.lookup c=some b->di G.K (.ref (G.cl c)) (.ref A.c_Round)=some b/\Dg G.K (G.cl c)
 kt4:∀c b,tbl4.lookup c=some b->di G.K (.ref (G.cl c)) (.ref A.c_NoThing)=some b/\Dg G.K (G.cl c)
 kt5:∀c b,tbl5.lookup c=some b->di G.K (.ref (G.cl c)) (.ref A.c_NoRow)=some b/\Dg G.K (G.cl c)
 kt6:∀c b,tbl6.lookup c=some b->di G.K (.ref (G.cl c)) (.ref A.c_TooMany)=some b/\Dg G.K (G.cl c)
 kt7:∀c b,tbl7.lookup c=some b->di G.K (.ref (G.cl c)) (.ref A.c_TooFew)=some b/\Dg G.K (G.cl c)
 kt8:∀c b,tbl8.lookup c=some b->di G.K (.ref (G.cl c)) (.ref A.c_NoText)=some b/\Dg G.K (G.cl c)
 kt9:∀c b,tbl9.lookup c=some b->di G.K (.ref (G.cl c)) (.ref A.c_NoLine)=some b/\Dg G.K (G.cl c)
 kt10:∀c b,Eh.lookup c=some b->di G.K (.ref (G.cl c)) (.ref A.c_NoDeed)=some b/\Dg G.K (G.cl c)
 n_NearError:mg "NearError" = some (.ref A.NE)
 e1:kg K (.ref A.NE) (.type "BaseException")=some true
 e2:kg K (.type "type") (.type "tuple")=some false
 e3:xf K (.ref A.NE) (.ref A.NE)=some true
 e4:∀c,c<11->kg K (.ref (G.cl c)) (.ref A.NE)=some true
 lq:(("law" : Str) ++ ".<locals>.") ++ "<lambda>" = G.lq
 tab:G.tab=some A.P
 code:A.fd_q8.code=.ref A.cc
theorem N3:(["one","other"]:Au).Nodup:=by decide +kernel
theorem nd5:(["part","many"]:Au).Nodup:=by decide +kernel
theorem nd7:(["thing","many"]:Au).Nodup:=by decide +kernel
theorem N4:(["a","b"]:Au).Nodup:=by decide +kernel
theorem zP:(["a","b","middle","c","pairs"]:Au).Nodup:=by decide +kernel
theorem N5:(["thing","many","pairs"]:Au).Nodup:=by decide +kernel
theorem z0a:(["order","one","other","pairs"]:Au).Nodup:=by decide +kernel
theorem z0b:(["order","many"]:Au).Nodup:=by decide +kernel
theorem N6:(["a","b","order","many"]:Au).Nodup:=by decide +kernel
theorem EU:(["order","begun","many","pairs","waiting"]:Au).Nodup:=by decide +kernel
theorem N7:(["a","b","begun"]:Au).Nodup:=by decide +kernel
theorem z0c:(["thing","begun","waiting"]:Au).Nodup:=by decide +kernel
theorem EV:(["order","rows","place"]:Au).Nodup:=by decide +kernel
theorem N8:(["begun","thing","order"]:Au).Nodup:=by decide +kernel
theorem z0d:(["row","pairs"]:Au).Nodup:=by decide +kernel
theorem z0e:(["pair","row"]:Au).Nodup:=by decide +kernel
theorem z0f:(["order","pairs"]:Au).Nodup:=by decide +kernel
theorem rX:(["row","span"]:Au).Nodup:=by decide +kernel
theorem z0g:(["order","found"]:Au).Nodup:=by decide +kernel
theorem z0h:(["k","found"]:Au).Nodup:=by decide +kernel
theorem N9:(["order","found","least"]:Au).Nodup:=by decide +kernel
theorem OA:(["row","span","least"]:Au).Nodup:=by decide +kernel
theorem z0i:(["_law_script","_law_k","_law_cell"]:Au).Nodup:=by decide +kernel
theorem EW:(["_law_state_here","_law_many","_law_found","_law_stirred"]:Au).Nodup:=by decide +kernel
theorem OB:(["_law_state_here","_law_things","_law_left","_law_found"]:Au).Nodup:=by decide +kernel
abbrev Ba:List PySem.Str:=["_law_pairs","_law_found","_law_later","_law_a","_law_b"]
theorem rY:(Ba:Au).Nodup:=by decide +kernel
theorem OC:(["_law_c","_law_d","_law_a","_law_b"]:Au).Nodup:=by decide +kernel
abbrev Az:List PySem.Str:=["_law_state_here","_law_most","_law_many","_law_row","_law_way","_law_pairs","_law_marks","_law_i","_law_j","_law_near"]
theorem jU:(Az:Au).Nodup:=by decide +kernel
theorem z0j:(["_law_thing","_law_state_here"]:Au).Nodup:=by decide +kernel
theorem z0k:(["_law_j","_law_i","_law_marks"]:Au).Nodup:=by decide +kernel
abbrev A':List PySem.Str:=["_law_order_here","_law_found","_law_turn","_law_longer","_law_row"]
theorem rZ:(A':Au).Nodup:=by decide +kernel
theorem z0l:(["_law_thing","_law_row"]:Au).Nodup:=by decide +kernel
theorem OD:(["_law_row","_law_order_here"]:Au).Nodup:=by decide +kernel
theorem zQ:(["_law_a","_law_b","_law_row"]:Au).Nodup:=by decide +kernel
theorem EX:(["_law_order_here","_law_found","_law_a","_law_b"]:Au).Nodup:=by decide +kernel
theorem EY:(["_law_state_here","_law_some"]:Au).Nodup:=by decide +kernel
theorem OE:(["_law_one","_law_other"]:Au).Nodup:=by decide +kernel
theorem zR:(["_law_call","_law_error","e","_law_marks"]:Au).Nodup:=by decide +kernel
theorem z0m:(["_law_k","_law_marks"]:Au).Nodup:=by decide +kernel
abbrev Ay:List PySem.Str:=["_law_script","_law_k","_law_state_here","_law_order_here","_law_rows_here","_law_some","_law_least","_law_due","_law_turn","_law_found","_law_bad","_law_calls"]
theorem lG:(Ay:Au).Nodup:=by decide +kernel
theorem z0n:(["_law_span_here","_law_some"]:Au).Nodup:=by decide +kernel
theorem z0o:(["_law_at","_law_rows_here","_law_least","_law_some"]:Au).Nodup:=by decide +kernel
theorem z0p:(["_law_call"]:Au).Nodup:=by decide +kernel
section
variable{P:bj}{w:cq}{K:ao}{mg:Str->Option af}{base:cx}{G:Cfg}{A:Ad}
theorem z0q:Bb ["thing"] ["thing"] (aU ED):=dI
theorem z0r (T:Tx K mg G A):Bg P w K mg base (bI P w base) 1 A.f_q3 A.fd_q3 ["thing"] (cR G F_q3):=dR (k:=0) T.F_q3 z0q T.hK λ_ _ _ _ _ _ _ g=>(bO (cI (nZ (YU rfl T.z_isinstance rfl T.z_int (aE 0)) (oZ (JI (CO rfl T.z_isinstance rfl T.z_bool (aE 0)))))))
theorem z0s:Bb ["thing","low","high"] ["thing","low","high"] (aU EE):=dI
theorem OF (T:Tx K mg G A):Bg P w K mg base (bI P w base) 2 A.f_qo A.fd_qo ["thing","low","high"] (cR G F_qo):=dR (k:=1) T.F_qo z0s T.hK λ_ _ _ _ _ _ _ g=>(bO (cI (nZ (cF g (z0r T) T.m_q3 T.F_q3.kp T.B_q3 (aI (aE 0) aQ)) (oZ (YK (aE 1) (aE 0) (aE 2))))))
theorem z0t:Bb ["parts"] ["parts"] (aU zC):=dI
theorem z0u (T:Tx K mg G A):Bg P w K mg base (bI P w base) 1 A.f_qz A.fd_qz ["parts"] (cR G F_qz):=dR (k:=0) T.F_qz z0t T.hK λ_ _ _ _ _ _ _ g=>(bO (cI (tO g.calm rfl T.z_all (fF g.calm (eE (N:=["one","other"]) (cap:=[none,none]) (os:=(aU zC)) (oN:=["parts"])) (XN rfl T.z_zip (aI (aE 0) (aI (p8 (aE 0) (X8 bN) X7) aQ))) (λ_ _ _=>(iS (dD g).calm (dS (bS (i:=0) N3) (dS (bS (i:=1) N3) iR)))) (λ_ _ _=>gN) (λ_ _ _=>(NH (dD g) (aE 0) (aE 1)))))))
theorem z0v:Bb ["many","thing"] ["many","thing"] (aU EF):=dI
theorem z0w (T:Tx K mg G A):Bg P w K mg base (bI P w base) 3 A.f_q2 A.fd_q2 ["many","thing"] (cR G F_q2):=dR (k:=2) T.F_q2 z0v T.hK λ_ _ _ _ _ _ _ g=>(bO (cI (cF g (OF T) T.m_qo T.F_qo.kp T.B_qo (aI (aE 1) (aI bN (aI (tZ (aE 0) bN) aQ))))))
theorem z0x:Bb ["many","thing"] ["many","thing"] (aU zD):=dI
theorem z0y (T:Tx K mg G A):Bg P w K mg base (bI P w base) 4 A.f_qm A.fd_qm ["many","thing"] (cR G F_qm):=dR (k:=3) T.F_qm z0x T.hK λ_ _ _ _ _ _ _ g=>(bO (cI (nZ (uB rfl T.z_isinstance rfl T.z_tuple (aE 1)) (oZ (tO g.calm rfl T.z_all (fF g.calm (eE (N:=["part","many"]) (cap:=[none,some 0]) (os:=(aU zD)) (oN:=["many","thing"])) (pE (aE 1)) (λ_ _ _=>(bS (i:=0) nd5)) (λ_ _ _=>gN) (λ_ _ _=>(cF (dD g) (z0w T) T.m_q2 T.F_q2.kp T.B_q2 (aI (aE 1) (aI (aE 0) aQ))))))))))
theorem z0z:Bb ["many","thing"] ["many","thing"] (aU EG):=dI
theorem z10 (T:Tx K mg G A):Bg P w K mg base (bI P w base) 5 A.f_q5 A.fd_q5 ["many","thing"] (cR G F_q5):=dR (k:=4) T.F_q5 z0z T.hK λ_ _ _ _ _ _ _ g=>(bO (cI (nZ (cF g (z0y T) T.m_qm T.F_qm.kp T.B_qm (aI (aE 0) (aI (aE 1) aQ))) (oZ (pK g (rK rfl T.z_len (aI (aE 1) aQ)) bN)))))
theorem z11:Bb ["many","things"] ["many","things"] (aU zE):=dI
theorem z12 (T:Tx K mg G A):Bg P w K mg base (bI P w base) 6 A.f_qw A.fd_qw ["many","things"] (cR G F_qw):=dR (k:=5) T.F_qw z11 T.hK λ_ _ _ _ _ _ _ g=>(bO (cI (tO g.calm rfl T.z_all (fF g.calm (eE (N:=["thing","many"]) (cap:=[none,some 0]) (os:=(aU zE)) (oN:=["many","things"])) (pE (aE 1)) (λ_ _ _=>(bS (i:=0) nd7)) (λ_ _ _=>gN) (λ_ _ _=>(cF (dD g) (z10 T) T.m_q5 T.F_q5.kp T.B_q5 (aI (aE 1) (aI (aE 0) aQ))))))))
theorem z13:Bb ["pairs"] ["pairs"] (aU zF):=dI
theorem z14 (T:Tx K mg G A):Bg P w K mg base (bI P w base) 1 A.f_qy A.fd_qy ["pairs"] (cR G F_qy):=dR (k:=0) T.F_qy z13 T.hK λ_ _ _ _ _ _ _ g=>(bO (cI (W9 g.calm rfl T.z_any (fF g.calm (eE (N:=["a","b"]) (cap:=[none,none]) (os:=(aU zF)) (oN:=["pairs"])) (pE (aE 0)) (λ_ _ _=>(iS (dD g).calm (dS (bS (i:=0) N4) (dS (bS (i:=1) N4) iR)))) (λ_ _ _=>gN) (λ_ _ _=>(pK (dD g) (aE 0) (aE 1)))))))
theorem z15:Bb ["pairs"] ["pairs"] (aU zG):=dI
theorem z16 (T:Tx K mg G A):Bg P w K mg base (bI P w base) 1 A.f_qh A.fd_qh ["pairs"] (cR G F_qh):=dR (k:=0) T.F_qh z15 T.hK λ_ _ _ _ _ _ _ g=>(bO (cI (tO g.calm rfl T.z_all (J4 g.calm (eE (N:=["a","b","middle","c","pairs"]) (cap:=[none,none,none,none,some 0]) (os:=(aU zG)) (oN:=["pairs"])) (pE (aE 0)) (λ_ _ _=>(iS (dD g).calm (dS (bS (i:=0) zP) (dS (bS (i:=1) zP) iR)))) (λ_ _ _=>gN) (λ_ _ _=>(pE (aE 4))) (λ_ _ _=>(iS (dD g).calm (dS (bS (i:=2) zP) (dS (bS (i:=3) zP) iR)))) (λ_ _ _=>(kA (pM (dD g) (aE 1) (aE 2)))) (λ_ _ _=>(ZJ (dD g) (iZ (aI (aE 0) (aI (aE 3) aQ))) (aE 4)))))))
theorem z17:Bb ["thing","many","pairs"] ["thing"] (aU EH):=dI
theorem z18 (T:Tx K mg G A):Bg P w K mg base (bI P w base) 7 A.f_q1 A.fd_q1 ["thing"] (cR G F_q1):=dR (k:=6) T.F_q1 z17 T.hK λ_ _ _ _ _ _ _ g=>(bE (hJ (Cs.t (tE (lN (iP (uB rfl T.z_isinstance rfl T.z_tuple (aE 0)))) (tD (rH g (rK rfl T.z_len (aI (aE 0) aQ)) bN)))) (bO (cI jO)) gZ) (bE (JZ (aE 0) (iS g.calm (dS (bS (i:=1) N5) (dS (bS (i:=2) N5) iR)))) (bE (hJ (Cs.t (tE (lN (iP (cF g (OF T) T.m_qo T.F_qo.kp T.B_qo (aI (aE 1) (aI bN (aI (YA rfl T.c_MOST_THINGS) aQ)))))) (tD (lN (iP (uB rfl T.z_isinstance rfl T.z_tuple (aE 2))))))) (bO (cI jO)) gZ) (bE (hJ (Cs.t (tE (lN (iP (cF g (z12 T) T.m_qw T.F_qw.kp T.B_qw (aI (aE 1) (aI (aE 2) aQ))))) (tD (lN (iP (cF g (z0u T) T.m_qz T.F_qz.kp T.B_qz (aI (aE 2) aQ))))))) (bO (cI jO)) gZ) (bO (cI (nZ (JI (cF g (z14 T) T.m_qy T.F_qy.kp T.B_qy (aI (aE 2) aQ))) (oZ (cF g (z16 T) T.m_qh T.F_qh.kp T.B_qh (aI (aE 2) aQ))))))))))
theorem z19:Bb ["order"] ["order"] (aU EI):=dI
theorem OG (T:Tx K mg G A):Bg P w K mg base (bI P w base) 8 A.f_qq A.fd_qq ["order"] (cR G F_qq):=dR (k:=7) T.F_qq z19 T.hK λ_ _ _ _ _ _ _ g=>(bO (hJ (lN (iP (cF g (z18 T) T.m_q1 T.F_q1.kp T.B_q1 (aI (aE 0) aQ)))) (bO (WQ g rfl T.n_NoOrder T.ns_NoOrder T.x_NoOrder T.ce_NoOrder (aI JF aQ))) gZ))
theorem z1a:Bb ["order","one","other","pairs"] ["order","one","other"] (aU EJ):=dI
theorem z1b (T:Tx K mg G A):Bg P w K mg base (bI P w base) 1 A.f_qv A.fd_qv ["order","one","other"] (cR G F_qv):=dR (k:=0) T.F_qv z1a T.hK λ_ _ _ _ _ _ _ g=>(bE (cN (i:=3) z0a (dE (aE 0) bN)) (bO (cI (nZ (YH g (aE 1) (aE 2)) (nZ (LL g (iZ (aI (aE 1) (aI (aE 2) aQ))) (aE 3)) (oZ (LL g (iZ (aI (aE 2) (aI (aE 1) aQ))) (aE 3))))))))
theorem z1c:Bb ["order","many"] ["order"] (aU zH):=dI
theorem z1d (T:Tx K mg G A):Bg P w K mg base (bI P w base) 9 A.f_qi A.fd_qi ["order"] (cR G F_qi):=dR (k:=8) T.F_qi z1c T.hK λ_ _ _ _ _ _ _ g=>(bE (kT (cF g (OG T) T.m_qq T.F_qq.kp T.B_qq (aI (aE 0) aQ))) (bE (cN (i:=1) z0b (dE (aE 0) bN)) (bO (cI (gB (J4 g.calm (eE (N:=["a","b","order","many"]) (cap:=[none,none,some 0,some 1]) (os:=(aU zH)) (oN:=["order","many"])) (jC rfl T.z_range (aI (aE 1) aQ)) (λ_ _ _=>(bS (i:=0) N6)) (λ_ _ _=>gN) (λ_ _ _=>(BX rfl T.z_range (aI (gQ (aE 0) bN) (aI (aE 3) aQ)))) (λ_ _ _=>(bS (i:=1) N6)) (λ_ _ _=>(kA (iP (cF (dD g) (z1b T) T.m_qv T.F_qv.kp T.B_qv (aI (aE 2) (aI (aE 0) (aI (aE 1) aQ))))))) (λ_ _ _=>(iZ (aI (aE 0) (aI (aE 1) aQ))))))))))
theorem z1e:Bb ["order","begun","many","pairs","waiting"] ["order","begun"] (aU uY):=dI
theorem z1f (T:Tx K mg G A):Bg P w K mg base (bI P w base) 1 A.f_q4 A.fd_q4 ["order","begun"] (cR G F_q4):=dR (k:=0) T.F_q4 z1e T.hK λ_ _ _ _ _ _ _ g=>(bE (JZ (aE 0) (iS g.calm (dS (bS (i:=2) EU) (dS (bS (i:=3) EU) iR)))) (bE (cN (i:=4) EU (gB (fF g.calm (eE (N:=["a","b","begun"]) (cap:=[none,none,some 1]) (os:=(aU uY)) (oN:=["order","begun","many","pairs","waiting"])) (pE (aE 3)) (λ_ _ _=>(iS (dD g).calm (dS (bS (i:=0) N7) (dS (bS (i:=1) N7) iR)))) (λ_ _ _=>(kA (rO (dD g) (aE 0) (aE 2)))) (λ_ _ _=>(aE 1))))) (bO (cI (gB (fF g.calm (eE (N:=["thing","begun","waiting"]) (cap:=[none,some 1,some 4]) (os:=(aU uY)) (oN:=["order","begun","many","pairs","waiting"])) (jC rfl T.z_range (aI (aE 2) aQ)) (λ_ _ _=>(bS (i:=0) z0c)) (λ_ _ _=>(kA (Cs.t (JH (rO (dD g) (aE 0) (aE 1)) (JG (rO (dD g) (aE 0) (aE 2))))))) (λ_ _ _=>(aE 0))))))))
theorem z1g:Bb ["order","rows","place"] ["order"] (aU zI):=dI
theorem z1h (T:Tx K mg G A):Bg P w K mg base (bI P w base) 9 A.f_q0 A.fd_q0 ["order"] (cR G F_q0):=dR (k:=8) T.F_q0 z1g T.hK λ_ _ _ _ _ _ _ g=>(bE (kT (cF g (OG T) T.m_qq T.F_qq.kp T.B_qq (aI (aE 0) aQ))) (bE (cN (i:=1) EV (pV 3)) (bE (kU g.own g.calm (jC rfl T.z_range (aI (dE (aE 0) bN) aQ)) (bS (i:=2) EV) (bO (ZK (i:=1) EV rfl g.calm (eE (N:=["begun","thing","order"]) (cap:=[none,none,some 0]) (os:=(aU zI)) (oN:=["order","rows","place"])) (iT (aE 1)) (λ_ _ _=>(bS (i:=0) N8)) (λ_ _ _=>gN) (λ_ _ _=>(iT (cF (dD g) (z1f T) T.m_q4 T.F_q4.kp T.B_q4 (aI (aE 2) (aI (aE 0) aQ))))) (λ_ _ _=>(bS (i:=1) N8)) (λ_ _ _=>gN) (λ_ _ _=>(gQ (aE 0) (iZ (aI (aE 1) aQ))))))) (bO (cI (aE 1))))))
theorem z1i:Bb ["row","pair"] ["row","pair"] (aU EK):=dI
theorem z1j (T:Tx K mg G A):Bg P w K mg base (bI P w base) 1 A.f_q6 A.fd_q6 ["row","pair"] (cR G F_q6):=dR (k:=0) T.F_q6 z1i T.hK λ_ _ _ _ _ _ _ g=>(bO (cI (JV rfl T.z_abs (aI (tZ (rN (aE 0) (dE (aE 1) bN)) (rN (aE 0) (dE (aE 1) bN))) aQ))))
theorem z1k:Bb ["row","pairs"] ["row","pairs"] (aU zJ):=dI
theorem z1l (T:Tx K mg G A):Bg P w K mg base (bI P w base) 2 A.f_qd A.fd_qd ["row","pairs"] (cR G F_qd):=dR (k:=1) T.F_qd z1k T.hK λ_ _ _ _ _ _ _ g=>(bO (cI (z08 g.calm rfl T.z_max (gB (fF g.calm (eE (N:=["pair","row"]) (cap:=[none,some 0]) (os:=(aU zJ)) (oN:=["row","pairs"])) (iT (aE 1)) (λ_ _ _=>(bS (i:=0) z0e)) (λ_ _ _=>gN) (λ_ _ _=>(cF (dD g) (z1j T) T.m_q6 T.F_q6.kp T.B_q6 (aI (aE 1) (aI (aE 0) aQ)))))))))
theorem z1m:Bb ["order","pairs"] ["order"] (aU zK):=dI
theorem EZ (T:Tx K mg G A):Bg P w K mg base (bI P w base) 10 A.f_qa A.fd_qa ["order"] (cR G F_qa):=dR (k:=9) T.F_qa z1m T.hK λ_ _ _ _ _ _ _ g=>(bE (cN (i:=1) z0f (cF g (z1d T) T.m_qi T.F_qi.kp T.B_qi (aI (aE 0) aQ))) (bO (cI (gB (fF g.calm (eE (N:=["row","pairs"]) (cap:=[none,some 1]) (os:=(aU zK)) (oN:=["order","pairs"])) (iT (cF g (z1h T) T.m_q0 T.F_q0.kp T.B_q0 (aI (aE 0) aQ))) (λ_ _ _=>(bS (i:=0) z0d)) (λ_ _ _=>gN) (λ_ _ _=>(iZ (aI (aE 0) (aI (cF (dD g) (z1l T) T.m_qd T.F_qd.kp T.B_qd (aI (aE 0) (aI (aE 1) aQ))) aQ)))))))))
theorem z1n:Bb ["order"] ["order"] (aU zL):=dI
theorem OH (T:Tx K mg G A):Bg P w K mg base (bI P w base) 11 A.f_qp A.fd_qp ["order"] (cR G F_qp):=dR (k:=10) T.F_qp z1n T.hK λ_ _ _ _ _ _ _ g=>(bO (cI (CW g.calm rfl T.z_min (aI (gB (fF g.calm (eE (N:=["row","span"]) (cap:=[none,none]) (os:=(aU zL)) (oN:=["order"])) (iT (cF g (EZ T) T.m_qa T.F_qa.kp T.B_qa (aI (aE 0) aQ))) (λ_ _ _=>(iS (dD g).calm (dS (bS (i:=0) rX) (dS (bS (i:=1) rX) iR)))) (λ_ _ _=>gN) (λ_ _ _=>(aE 1)))) aQ))))
theorem z1o:Bb ["order","found"] ["order"] (aU uZ):=dI
theorem OI (T:Tx K mg G A):Bg P w K mg base (bI P w base) 11 A.f_q7 A.fd_q7 ["order"] (cR G F_q7):=dR (k:=10) T.F_q7 z1o T.hK λ_ _ _ _ _ _ _ g=>(bE (cN (i:=1) z0g (gB (fF g.calm (eE (N:=["row","span"]) (cap:=[none,none]) (os:=(aU uZ)) (oN:=["order","found"])) (iT (cF g (EZ T) T.m_qa T.F_qa.kp T.B_qa (aI (aE 0) aQ))) (λ_ _ _=>(iS (dD g).calm (dS (bS (i:=0) rX) (dS (bS (i:=1) rX) iR)))) (λ_ _ _=>gN) (λ_ _ _=>(aE 1))))) (bO (cI (gB (fF g.calm (eE (N:=["k","found"]) (cap:=[none,some 1]) (os:=(aU uZ)) (oN:=["order","found"])) (jC rfl T.z_range (aI (gQ (CV g.calm rfl T.z_max (aI (aE 1) aQ)) bN) aQ)) (λ_ _ _=>(bS (i:=0) z0h)) (λ_ _ _=>gN) (λ_ _ _=>(NU (aE 1) (aE 0))))))))
theorem z1p:Bb ["order","found","least"] ["order"] (aU vA):=dI
theorem E1 (T:Tx K mg G A):Bg P w K mg base (bI P w base) 11 A.f_qx A.fd_qx ["order"] (cR G F_qx):=dR (k:=10) T.F_qx z1p T.hK λ_ _ _ _ _ _ _ g=>(bE (cN (i:=1) N9 (cF g (EZ T) T.m_qa T.F_qa.kp T.B_qa (aI (aE 0) aQ))) (bE (cN (i:=2) N9 (CW g.calm rfl T.z_min (aI (gB (fF g.calm (eE (N:=["row","span"]) (cap:=[none,none]) (os:=(aU vA)) (oN:=["order","found","least"])) (iT (aE 1)) (λ_ _ _=>(iS (dD g).calm (dS (bS (i:=0) rX) (dS (bS (i:=1) rX) iR)))) (λ_ _ _=>gN) (λ_ _ _=>(aE 1)))) aQ))) (bO (cI (gB (fF g.calm (eE (N:=["row","span","least"]) (cap:=[none,none,some 2]) (os:=(aU vA)) (oN:=["order","found","least"])) (iT (aE 1)) (λ_ _ _=>(iS (dD g).calm (dS (bS (i:=0) OA) (dS (bS (i:=1) OA) iR)))) (λ_ _ _=>(kA (pM (dD g) (aE 1) (aE 2)))) (λ_ _ _=>(aE 0))))))))
theorem z1q:Bb ["order"] ["order"] (aU EL):=dI
theorem OJ (T:Tx K mg G A):Bg P w K mg base (bI P w base) 12 A.f_qn A.fd_qn ["order"] (cR G F_qn):=dR (k:=11) T.F_qn z1q T.hK λ_ _ _ _ _ _ _ g=>(bO (cI (dE (cF g (E1 T) T.m_qx T.F_qx.kp T.B_qx (aI (aE 0) aQ)) bN)))
theorem z1r:Bb ["_law_script","_law_k"] ["_law_script","_law_k"] (aU EM):=dI
theorem z1s (T:Tx K mg G A):Bg P w K mg base (bI P w base) 1 A.f_qe A.fd_qe ["_law_script","_law_k"] (cR G (F_qe G.scr)):=dR (k:=0) (N:=["_law_script","_law_k"]) (mb:=(yM G.scr)) T.F_qe z1r T.hK λ_ _ _ _ _ _ _ g=>(bE (hJ (NI g (aE 1) (JU rfl T.z_len (aI (aE 0) aQ))) (bO (cI (V1 (aE 0) (aE 1)))) gZ) (bO (cI bN)))
theorem z1t:Bb ["_law_script","_law_k","_law_cell"] ["_law_script","_law_k"] (aU EN):=dI
theorem z1u (T:Tx K mg G A):Bg P w K mg base (bI P w base) 2 A.f_ql A.fd_ql ["_law_script","_law_k"] (cR G (F_ql G.scr)):=dR (k:=1) (N:=["_law_script","_law_k","_law_cell"]) (mb:=(yN G.scr)) T.F_ql z1t T.hK λ_ _ _ _ _ _ _ g=>(bE (cN (i:=2) z0i (cF g (z1s T) T.m_qe T.F_qe.kp T.B_qe (aI (aE 0) (aI (aE 1) aQ)))) (bE (hJ (YJ (aE 2) (LD bN bN)) (bO (cI (gL (aI (tZ (aE 2) (LD bN bN)) (aI jO aQ))))) gZ) (bO (cI (gL (aI (rG (aE 2) bN) (aI jO aQ)))))))
theorem z1v:Bb ["_law_state_here","_law_many","_law_found","_law_stirred"] ["_law_state_here","_law_many"] (aU EO):=dI
theorem oM (T:Tx K mg G A):Bg P w K mg base (bI P w base) 1 A.f_qu A.fd_qu ["_law_state_here","_law_many"] (cR G F_qu):=dR (k:=0) T.F_qu z1v T.hK λ_ _ _ _ _ _ _ g=>(bE (hJ (iP (dE (aE 0) bN)) (bE (cN (i:=2) EW (rG (dE (aE 0) bN) (aE 1))) (bE (KO (aE 0) bN (LI (dE (aE 0) bN) (aE 1))) (bO (cI (aE 2))))) gZ) (bE (KO (aE 0) bN (rG (gQ (uA (dE (aE 0) bN) bN) bN) bN)) (bE (cN (i:=3) EW (rG (gQ (gQ (uA (dE (aE 0) bN) (dE (aE 0) bN)) (uA bN (dE (aE 0) bN))) bN) bN)) (bE (cN (i:=3) EW (rG (gQ (uA (aE 3) (aE 3)) (uA bN (aE 3))) bN)) (bO (cI (rG (LI (aE 3) bN) (aE 1))))))))
theorem z1w:Bb ["_law_state_here","_law_things","_law_left","_law_found"] ["_law_state_here","_law_things"] (aU ER):=dI
theorem z1x (T:Tx K mg G A):Bg P w K mg base (bI P w base) 2 A.f_qc A.fd_qc ["_law_state_here","_law_things"] (cR G F_qc):=dR (k:=1) T.F_qc z1w T.hK λ_ _ _ _ _ _ _ g=>(bE (cN (i:=2) OB (LG rfl T.z_list (aI (aE 1) aQ))) (bE (cN (i:=3) OB (gL aQ)) (bE (K6 40 g.own (rH g (aE 2) (gL aQ)) (bO (kT (pH (aE 3) (X5 (aE 2) (cF g (oM T) T.m_qu T.F_qu.kp T.B_qu (aI (aE 0) (aI (rK rfl T.z_len (aI (aE 2) aQ)) aQ)))))))) (bO (cI (aE 3))))))
theorem z1y:Bb Ba ["_law_pairs"] (aU zM):=dI
theorem z1z (T:Tx K mg G A):Bg P w K mg base (bI P w base) 1 A.f_qg A.fd_qg ["_law_pairs"] (cR G F_qg):=dR (k:=0) T.F_qg z1y T.hK λ_ _ _ _ _ _ _ g=>(bE (cN (i:=1) rY (NK g rfl T.z_sorted rfl T.z_set (aI (aE 0) aQ))) (bO (K6 40 g.own (iP jO) (bE (cN (i:=2) rY (LG rfl T.z_list (aI (aE 1) aQ))) (bE (kU g.own g.calm (iT (aE 1)) (iS g.calm (dS (bS (i:=3) rY) (dS (bS (i:=4) rY) iR))) (bO (kT (XB (aE 2) (fF g.calm (eE (N:=["_law_c","_law_d","_law_a","_law_b"]) (cap:=[none,none,some 3,some 4]) (os:=(aU zM)) (oN:=Ba)) (iT (aE 1)) (λ_ _ _=>(iS (dD g).calm (dS (bS (i:=0) OC) (dS (bS (i:=1) OC) iR)))) (λ_ _ _=>(kA (pM (dD g) (aE 3) (aE 0)))) (λ_ _ _=>(iZ (aI (aE 2) (aI (aE 1) aQ))))))))) (bE (cN (i:=2) rY (NK g rfl T.z_sorted rfl T.z_set (aI (aE 2) aQ))) (bE (hJ (pM g (aE 2) (aE 1)) (bO (cI (aE 1))) gZ) (bO (cN (i:=1) rY (aE 2))))))))))
theorem z20:Bb Az ["_law_state_here","_law_most"] (aU vB):=dI
theorem z21 (T:Tx K mg G A):Bg P w K mg base (bI P w base) 3 A.f_qk A.fd_qk ["_law_state_here","_law_most"] (cR G F_qk):=dR (k:=2) T.F_qk z20 T.hK λ_ _ _ _ _ _ _ g=>(bE (cN (i:=2) jU (tZ (aE 1) (dE (pV 2) (cF g (oM T) T.m_qu T.F_qu.kp T.B_qu (aI (aE 0) (aI bN aQ)))))) (bE (cN (i:=2) jU (JX g.calm rfl T.z_max (aI bN (aI (aE 2) aQ)))) (bE (cN (i:=3) jU (cF g (z1x T) T.m_qc T.F_qc.kp T.B_qc (aI (aE 0) (aI (r8 g rfl T.z_list rfl T.z_range (aI (aE 2) aQ)) aQ)))) (bE (cN (i:=4) jU (cF g (oM T) T.m_qu T.F_qu.kp T.B_qu (aI (aE 0) (aI bN aQ)))) (bE (cN (i:=5) jU (gL aQ)) (bE (cN (i:=6) jU (gB (fF g.calm (eE (N:=["_law_thing","_law_state_here"]) (cap:=[none,some 0]) (os:=(aU vB)) (oN:=Az)) (iT (aE 3)) (λ_ _ _=>(bS (i:=0) z0j)) (λ_ _ _=>gN) (λ_ _ _=>(cF (dD g) (oM T) T.m_qu T.F_qu.kp T.B_qu (aI (aE 1) (aI bN aQ))))))) (bE (kU g.own g.calm (jC rfl T.z_range (aI (aE 2) aQ)) (bS (i:=7) jU) (bO (kU g.own g.calm (BX rfl T.z_range (aI (gQ (aE 7) bN) (aI (aE 2) aQ))) (bS (i:=8) jU) (bE (cN (i:=9) jU (gL (aI (pK g (cF g (oM T) T.m_qu T.F_qu.kp T.B_qu (aI (aE 0) (aI bN aQ))) bN) (aI (pK g (cF g (oM T) T.m_qu T.F_qu.kp T.B_qu (aI (aE 0) (aI bN aQ))) bN) (aI (YG (cF g (oM T) T.m_qu T.F_qu.kp T.B_qu (aI (aE 0) (aI bN aQ))) bN) aQ))))) (bE (cN (i:=9) jU (gQ (aE 9) (gL (aI (NH g (dE (aE 6) (aE 7)) (dE (aE 6) (aE 8))) (aI (pK g (dE (aE 6) (aE 7)) (dE (aE 6) (aE 8))) aQ))))) (bO (hJ (iP (dE (aE 9) (aE 4))) (bO (kT (pH (aE 5) (iZ (aI (dE (aE 3) (aE 7)) (aI (dE (aE 3) (aE 8)) aQ)))))) gZ))))))) (bE (hJ (pM g (aE 4) bN) (bE (cN (i:=5) jU (gL aQ)) (bO (kU g.own g.calm (jC rfl T.z_range (aI (aE 2) aQ)) (bS (i:=7) jU) (bO (cN (i:=5) jU (gQ (aE 5) (gB (fF g.calm (eE (N:=["_law_j","_law_i","_law_marks"]) (cap:=[none,some 7,some 6]) (os:=(aU vB)) (oN:=Az)) (jC rfl T.z_range (aI (aE 2) aQ)) (λ_ _ _=>(bS (i:=0) z0k)) (λ_ _ _=>(kA (NI (dD g) (dE (aE 2) (aE 1)) (dE (aE 2) (aE 0))))) (λ_ _ _=>(iZ (aI (aE 1) (aI (aE 0) aQ)))))))))))) gZ) (bO (cI (iZ (aI (aE 2) (aI (V8 rfl T.z_tuple (aI (cF g (z1z T) T.m_qg T.F_qg.kp T.B_qg (aI (aE 5) aQ)) aQ)) aQ)))))))))))))
theorem z22:Bb A' ["_law_order_here"] (aU vC):=dI
theorem z23 (T:Tx K mg G A):Bg P w K mg base (bI P w base) 1 A.f_qr A.fd_qr ["_law_order_here"] (cR G F_qr):=dR (k:=0) T.F_qr z22 T.hK λ_ _ _ _ _ _ _ g=>(bE (cN (i:=1) rZ (pV 3)) (bE (kU g.own g.calm (jC rfl T.z_range (aI (dE (aE 0) bN) aQ)) (bS (i:=2) rZ) (bE (cN (i:=3) rZ (gL aQ)) (bE (kU g.own g.calm (iT (aE 1)) (bS (i:=4) rZ) (bO (cN (i:=3) rZ (gQ (aE 3) (gB (fF g.calm (eE (N:=["_law_thing","_law_row"]) (cap:=[none,some 4]) (os:=(aU vC)) (oN:=A')) (jC rfl T.z_range (aI (dE (aE 0) bN) aQ)) (λ_ _ _=>(bS (i:=0) z0l)) (λ_ _ _=>(kA (rO (dD g) (aE 0) (aE 1)))) (λ_ _ _=>(gQ (aE 1) (iZ (aI (aE 0) aQ)))))))))) (bO (cN (i:=1) rZ (aE 3)))))) (bO (cI (gB (fF g.calm (eE (N:=["_law_row","_law_order_here"]) (cap:=[none,some 0]) (os:=(aU vC)) (oN:=A')) (iT (aE 1)) (λ_ _ _=>(bS (i:=0) OD)) (λ_ _ _=>(kA (pM (dD g) (gB (fF (dD g).calm (eE (N:=["_law_a","_law_b","_law_row"]) (cap:=[none,none,some 0]) (os:={ kind:=.function,names:=[(".0",.local),("_law_row",.cell),("_law_order_here",.cell)],isGenerator:=false,isCoroutine:=false }) (oN:=["_law_row","_law_order_here"])) (pE (dE (aE 1) bN)) (λ_ _ _=>(iS (dD (dD g)).calm (dS (bS (i:=0) zQ) (dS (bS (i:=1) zQ) iR)))) (λ_ _ _=>(kA (YI (rN (aE 2) (aE 0)) (rN (aE 2) (aE 1))))) (λ_ _ _=>bN))) (gL aQ)))) (λ_ _ _=>(aE 0))))))))
theorem z24:Bb ["_law_order_here","_law_found","_law_a","_law_b"] ["_law_order_here"] (aU ES):=dI
theorem z25 (T:Tx K mg G A):Bg P w K mg base (bI P w base) 1 A.f_qj A.fd_qj ["_law_order_here"] (cR G F_qj):=dR (k:=0) T.F_qj z24 T.hK λ_ _ _ _ _ _ _ g=>(bE (cN (i:=1) EX (gL aQ)) (bE (kU g.own g.calm (jC rfl T.z_range (aI (dE (aE 0) bN) aQ)) (bS (i:=2) EX) (bO (kU g.own g.calm (BX rfl T.z_range (aI (gQ (aE 2) bN) (aI (dE (aE 0) bN) aQ))) (bS (i:=3) EX) (bO (hJ (Cs.t (JH (rO g (iZ (aI (aE 2) (aI (aE 3) aQ))) (dE (aE 0) bN)) (JG (rO g (iZ (aI (aE 3) (aI (aE 2) aQ))) (dE (aE 0) bN))))) (bO (kT (pH (aE 1) (iZ (aI (aE 2) (aI (aE 3) aQ)))))) gZ))))) (bO (cI (aE 1)))))
theorem z26:Bb ["_law_order_here","_law_row"] ["_law_order_here","_law_row"] (aU zN):=dI
theorem z27 (T:Tx K mg G A):Bg P w K mg base (bI P w base) 2 A.f_qt A.fd_qt ["_law_order_here","_law_row"] (cR G F_qt):=dR (k:=1) T.F_qt z26 T.hK λ_ _ _ _ _ _ _ g=>(bO (cI (CV g.calm rfl T.z_max (aI (gQ (pV 2) (gB (fF g.calm (eE (N:=["_law_a","_law_b","_law_row"]) (cap:=[none,none,some 1]) (os:=(aU zN)) (oN:=["_law_order_here","_law_row"])) (iT (cF g (z25 T) T.m_qj T.F_qj.kp T.B_qj (aI (aE 0) aQ))) (λ_ _ _=>(iS (dD g).calm (dS (bS (i:=0) zQ) (dS (bS (i:=1) zQ) iR)))) (λ_ _ _=>gN) (λ_ _ _=>(JV rfl T.z_abs (aI (tZ (rN (aE 2) (aE 0)) (rN (aE 2) (aE 1))) aQ)))))) aQ))))
theorem z28:Bb ["_law_state_here","_law_some"] ["_law_state_here"] (aU ET):=dI
theorem z29 (T:Tx K mg G A):Bg P w K mg base (bI P w base) 2 A.f_qb A.fd_qb ["_law_state_here"] (cR G F_qb):=z04 (k:=1) T.F_qb z28 T.hK λ_ _ _ _ _ _ _ g=>(DZ (z03 5 (i:=1) EY rfl (by first|exact .inl rfl|exact .inr rfl)) (DZ (NR 5 (i:=1) EY rfl (by first|exact .inl rfl|exact .inr rfl) (aE 1)) (DZ (NR 5 (i:=1) EY rfl (by first|exact .inl rfl|exact .inr rfl) (aE 1)) (z02 (SW.mk (cI (dE (aE 1) (cF g (oM T) T.m_qu T.F_qu.kp T.B_qu (aI (aE 0) (aI bN aQ))))))))))
theorem z2a:Bb ["_law_found","_law_due"] ["_law_found","_law_due"] (aU zO):=dI
theorem zS (T:Tx K mg G A):∀n,Bg P w K mg base (bI P w base) n A.f_qs A.fd_qs ["_law_found","_law_due"] (cR G (F_qs n))
 |0=>YY
 |n+1=>by have okS:=zS T n;exact dR (N:=["_law_found","_law_due"]) (mb:=iB (F_qs n)) T.F_qs z2a T.hK λ_ _ _ _ _ _ _ g=>(bE (hJ (iP (YW rfl T.z_isinstance rfl T.z_tuple rfl T.z_list (aE 1))) (bE (hJ (Cs.t (tE (rH g (uB rfl T.z_isinstance rfl T.z_tuple (aE 0)) (uB rfl T.z_isinstance rfl T.z_tuple (aE 1))) (tD (rH g (LF rfl T.z_isinstance rfl T.z_list (aE 0)) (LF rfl T.z_isinstance rfl T.z_list (aE 1)))))) (bO (cI jO)) gZ) (bE (hJ (rH g (rK rfl T.z_len (aI (aE 0) aQ)) (rK rfl T.z_len (aI (aE 1) aQ))) (bO (cI jO)) gZ) (bO (cI (tO g.calm rfl T.z_all (fF g.calm (eE (N:=["_law_one","_law_other"]) (cap:=[none,none]) (os:=(aU zO)) (oN:=["_law_found","_law_due"])) (y8 rfl T.z_zip (aI (aE 0) (aI (aE 1) aQ))) (λ_ _ _=>(iS (dD g).calm (dS (bS (i:=0) OE) (dS (bS (i:=1) OE) iR)))) (λ_ _ _=>gN) (λ_ _ _=>(KC (dD g) okS (aj _) rfl T.m_qs T.F_qs.kp T.B_qs (aI (aE 0) (aI (aE 1) aQ)))))))))) gZ) (bO (cI (nZ (pK g (aE 0) (aE 1)) (oZ (pK g (CO rfl T.z_isinstance rfl T.z_bool (aE 0)) (CO rfl T.z_isinstance rfl T.z_bool (aE 1))))))))
theorem z2b:Bb ["_law_call","_law_error","e","_law_marks"] ["_law_call"] (aU pX):=dI
theorem z2c {k:Nat}(T:Tx K mg G A) (cdv:af) (Ar:cm) (outer:List Env) (s:ag) (H:Hp) (E₀ E:XK) (g:Good (fR (bI P w base) P w K mg base ["_law_call","_law_error","e","_law_marks"] "_law_refused" (aU pX) A.f_qf cdv Ar outer s H E₀) G E k):jQ (fR (bI P w base) P w K mg base ["_law_call","_law_error","e","_law_marks"] "_law_refused" (aU pX) A.f_qf cdv Ar outer s H E₀) G E ((iG pX).drop 2) gD:=(bE (cN (i:=3) zR (gL (aI (kX rfl T.z_isinstance rfl T.n_NoOrder (aE 1) (λ_ h=>by cases h) T.kt0) (aI (kX rfl T.z_isinstance rfl T.n_NoNumber (aE 1) (λ_ h=>by cases h) T.kt1) (aI (kX rfl T.z_isinstance rfl T.n_NoPairs (aE 1) (λ_ h=>by cases h) T.kt2) aQ))))) (bE (cN (i:=3) zR (gQ (aE 3) (gL (aI (kX rfl T.z_isinstance rfl T.n_Round (aE 1) (λ_ h=>by cases h) T.kt3) (aI (kX rfl T.z_isinstance rfl T.n_NoThing (aE 1) (λ_ h=>by cases h) T.kt4) (aI (kX rfl T.z_isinstance rfl T.n_NoRow (aE 1) (λ_ h=>by cases h) T.kt5) aQ)))))) (bE (cN (i:=3) zR (gQ (aE 3) (gL (aI (kX rfl T.z_isinstance rfl T.n_TooMany (aE 1) (λ_ h=>by cases h) T.kt6) (aI (kX rfl T.z_isinstance rfl T.n_TooFew (aE 1) (λ_ h=>by cases h) T.kt7) (aI (kX rfl T.z_isinstance rfl T.n_NoText (aE 1) (λ_ h=>by cases h) T.kt8) aQ)))))) (bE (cN (i:=3) zR (gQ (aE 3) (gL (aI (kX rfl T.z_isinstance rfl T.n_NoLine (aE 1) (λ_ h=>by cases h) T.kt9) (aI (kX rfl T.z_isinstance rfl T.n_NoDeed (aE 1) (λ_ h=>by cases h) T.kt10) aQ))))) (bE (hJ (lN (iP (YX rfl T.z_isinstance rfl T.z_ValueError (aE 1) (λ_ h=>by cases h) T.ktV))) (bO (cI JE)) gZ) (bO (cI (gB (fF g.calm (eE (N:=["_law_k","_law_marks"]) (cap:=[none,some 3]) (os:=(aU pX)) (oN:=["_law_call","_law_error","e","_law_marks"])) (jC rfl T.z_range (aI bN aQ)) (λ_ _ _=>(bS (i:=0) z0m)) (λ_ _ _=>(kA (iP (dE (aE 1) (aE 0))))) (λ_ _ _=>(aE 0)))))))))))
theorem zT {k:Nat}{Nl:Au}{params:km}{body:bo}{scope:gh}{me:M Dv}(T:Tx K mg G A) (LS:Br Nl scope) (hb:∀(cl:List (Str×ah)) (pm cdv ct:af),bindArgs (qk "<lambda>" G.lq params body scope cl pm cdv ct) ⟨[],[]⟩=pure [])
  (Bw:∀(f:ah) (cdv:af) (cl:List (Str×ah)) (A:cm) (outer:List Env) (s:ag) (H:Hp) (E₀ E:XK),Good (jS P w K mg base Nl G.lq scope f cdv cl A outer s H E₀) G E k->aK (jS P w K mg base Nl G.lq scope f cdv cl A outer s H E₀) G E body me):
  Bg P w K mg base (bI P w base) (k+2) A.f_qf A.fd_qf ["_law_call"] (lU G base Nl params body scope me 4 11 gD):=
 XX T.F_qf z2b T.hK rfl rfl rfl rfl rfl rfl rfl (by decide) (by decide) (by decide) (by decide) (by decide) (λ_ _=>rfl) (λ_ _=>rfl) (λ_ _=>rfl) rfl T.n_NearError T.e1 T.e2 T.e3 T.e4 LS hb Bw (z2c T)
def E2:bo:=yP ((yO ((iG fH).getD 0 (.Pass ⟨0,0,0,0⟩))).getD 10 (.Pass ⟨0,0,0,0⟩))
def lm0:Lm:=⟨["_law_bad"],yQ E2,yR E2,yS (aU fH) E2,[10],NY⟩
theorem ol0:Ff (aU fH) Ay lm0:=⟨⟨rfl,rfl,rfl,by decide +kernel,by decide +kernel,by decide +kernel⟩,by decide +kernel,rfl,by decide +kernel⟩
def zU:bo:=yP ((yO ((iG fH).getD 0 (.Pass ⟨0,0,0,0⟩))).getD 11 (.Pass ⟨0,0,0,0⟩))
def lm1:Lm:=⟨["_law_bad"],yQ zU,yR zU,yS (aU fH) zU,[10],NZ⟩
theorem ol1:Ff (aU fH) Ay lm1:=⟨⟨rfl,rfl,rfl,by decide +kernel,by decide +kernel,by decide +kernel⟩,by decide +kernel,rfl,by decide +kernel⟩
def E3:bo:=yP ((yO ((iG fH).getD 0 (.Pass ⟨0,0,0,0⟩))).getD 12 (.Pass ⟨0,0,0,0⟩))
def lm2:Lm:=⟨["_law_bad"],yQ E3,yR E3,yS (aU fH) E3,[10],N0⟩
theorem ol2:Ff (aU fH) Ay lm2:=⟨⟨rfl,rfl,rfl,by decide +kernel,by decide +kernel,by decide +kernel⟩,by decide +kernel,rfl,by decide +kernel⟩
def E4:bo:=yP ((yO ((iG fH).getD 0 (.Pass ⟨0,0,0,0⟩))).getD 13 (.Pass ⟨0,0,0,0⟩))
def lm3:Lm:=⟨["_law_bad"],yQ E4,yR E4,yS (aU fH) E4,[10],N1⟩
theorem ol3:Ff (aU fH) Ay lm3:=⟨⟨rfl,rfl,rfl,by decide +kernel,by decide +kernel,by decide +kernel⟩,by decide +kernel,rfl,by decide +kernel⟩
def oO:Nat->Option Lm
 |0=>some lm0
 |1=>some lm1
 |2=>some lm2
 |3=>some lm3
 |_=>none
theorem olT:∀k L,oO k=some L->Ff (aU fH) Ay L
 |0,_,h=>by cases h;exact ol0
 |1,_,h=>by cases h;exact ol1
 |2,_,h=>by cases h;exact ol2
 |3,_,h=>by cases h;exact ol3
 |_+4,_,h=>by cases h
theorem z2d:∀k c m,yZ k=some (c,m)->∃L,oO k=some L/\L.caps=c/\L.me=m
 |0,_,_,h=>by cases h;exact⟨lm0,rfl,rfl,rfl⟩
 |1,_,_,h=>by cases h;exact⟨lm1,rfl,rfl,rfl⟩
 |2,_,_,h=>by cases h;exact⟨lm2,rfl,rfl,rfl⟩
 |3,_,_,h=>by cases h;exact⟨lm3,rfl,rfl,rfl⟩
 |_+4,_,_,h=>by cases h
theorem z2e (T:Tx K mg G A):Bg P w K mg base (bI P w base) (12+2) A.f_qf A.fd_qf ["_law_call"] (lU G base lm0.Nl lm0.par lm0.bod lm0.scp lm0.me 4 11 gD):=zT (k:=12) T ol0.ls (λ_ _ _ _=>rfl) (λ_ _ _ _ _ _ _ _ _ g=>(cF g (OH T) T.m_qp T.F_qp.kp T.B_qp (aI (aE 0) aQ)))
theorem z2f (T:Tx K mg G A):Bg P w K mg base (bI P w base) (12+2) A.f_qf A.fd_qf ["_law_call"] (lU G base lm1.Nl lm1.par lm1.bod lm1.scp lm1.me 4 11 gD):=zT (k:=12) T ol1.ls (λ_ _ _ _=>rfl) (λ_ _ _ _ _ _ _ _ _ g=>(cF g (OI T) T.m_q7 T.F_q7.kp T.B_q7 (aI (aE 0) aQ)))
theorem z2g (T:Tx K mg G A):Bg P w K mg base (bI P w base) (12+2) A.f_qf A.fd_qf ["_law_call"] (lU G base lm2.Nl lm2.par lm2.bod lm2.scp lm2.me 4 11 gD):=zT (k:=12) T ol2.ls (λ_ _ _ _=>rfl) (λ_ _ _ _ _ _ _ _ _ g=>(cF g (E1 T) T.m_qx T.F_qx.kp T.B_qx (aI (aE 0) aQ)))
theorem z2h (T:Tx K mg G A):Bg P w K mg base (bI P w base) (12+2) A.f_qf A.fd_qf ["_law_call"] (lU G base lm3.Nl lm3.par lm3.bod lm3.scp lm3.me 4 11 gD):=zT (k:=12) T ol3.ls (λ_ _ _ _=>rfl) (λ_ _ _ _ _ _ _ _ _ g=>(cF g (OJ T) T.m_qn T.F_qn.kp T.B_qn (aI (aE 0) aQ)))
theorem okL (T:Tx K mg G A):∀k L,oO k=some L->Bg P w K mg base (bI P w base) (12+2) A.f_qf A.fd_qf ["_law_call"] (lU G base L.Nl L.par L.bod L.scp L.me 4 11 gD)
 |0,_,h=>by cases h;exact z2e T
 |1,_,h=>by cases h;exact z2f T
 |2,_,h=>by cases h;exact z2g T
 |3,_,h=>by cases h;exact z2h T
 |_+4,_,h=>by cases h
theorem z2i:Bb Ay ["_law_script"] (aU fH):=dI
theorem z2j (T:Tx K mg G A) (hT:∀μ n H k t a,G.clo μ n H k t a) (hC:md base A.cc A.P) (hB:lV mg base):Bg P w K mg base (bI P w base) 16 A.f_q8 A.fd_q8 ["_law_script"] (cR G (F_q8 G.scr)):=u5 (k:=15) (N:=Ay) (ls:=oO) (mb:=zB G.scr) T.F_q8 z2i T.hK λcdv Ar outer s H E₀ E tt hcd g=>(bE (kU g.own g.calm (jC rfl T.z_range (aI (JX g.calm rfl T.z_max (aI bN (aI (WA g.calm rfl T.z_min (aI (JU rfl T.z_len (aI (aE 0) aQ)) (aI bN aQ))) aQ))) aQ)) (bS (i:=1) lG) (bE (cN (i:=2) lG (cF g (z1u T) T.m_ql T.F_ql.kp T.B_ql (aI (aE 0) (aI (aE 1) aQ)))) (bE (cN (i:=3) lG (cF g (z21 T) T.m_qk T.F_qk.kp T.B_qk (aI (aE 2) (aI bN aQ)))) (bE (cN (i:=4) lG (cF g (z23 T) T.m_qr T.F_qr.kp T.B_qr (aI (aE 3) aQ))) (bE (cN (i:=5) lG (gB (fF g.calm (eE (N:=["_law_row","_law_order_here"]) (cap:=[none,some 3]) (os:=(aU fH)) (oN:=Ay)) (iT (aE 4)) (λ_ _ _=>(bS (i:=0) OD)) (λ_ _ _=>gN) (λ_ _ _=>(cF (dD g) (z27 T) T.m_qt T.F_qt.kp T.B_qt (aI (aE 1) (aI (aE 0) aQ))))))) (bE (cN (i:=6) lG (CW g.calm rfl T.z_min (aI (aE 5) aQ))) (bE (cN (i:=7) lG (gL (aI (gB (fF g.calm (eE (N:=["_law_span_here","_law_some"]) (cap:=[none,some 5]) (os:=(aU fH)) (oN:=Ay)) (jC rfl T.z_range (aI (gQ (CV g.calm rfl T.z_max (aI (aE 5) aQ)) bN) aQ)) (λ_ _ _=>(bS (i:=0) z0n)) (λ_ _ _=>gN) (λ_ _ _=>(NU (aE 1) (aE 0))))) aQ))) (bE (kT (pH (aE 7) (gB (fF g.calm (eE (N:=["_law_at","_law_rows_here","_law_least","_law_some"]) (cap:=[none,some 4,some 6,some 5]) (os:=(aU fH)) (oN:=Ay)) (jC rfl T.z_range (aI (rK rfl T.z_len (aI (aE 4) aQ)) aQ)) (λ_ _ _=>(bS (i:=0) z0o)) (λ_ _ _=>(kA (pM (dD g) (dE (aE 3) (aE 0)) (aE 2)))) (λ_ _ _=>(dE (aE 1) (aE 0))))))) (bE (hJ (Cs.t (tE (lN (iP (cF g (zS (G:=G.wf _ tt oO) T 6) T.m_qs T.F_qs.kp T.B_qs (aI (cF g (OH T) T.m_qp T.F_qp.kp T.B_qp (aI (aE 3) aQ)) (aI (aE 6) aQ))))) (tD (lN (iP (cF g (zS (G:=G.wf _ tt oO) T 6) T.m_qs T.F_qs.kp T.B_qs (aI (cF g (OJ T) T.m_qn T.F_qn.kp T.B_qn (aI (aE 3) aQ)) (aI (dE (dE (aE 7) bN) bN) aQ)))))))) (bO (cI jO)) gZ) (bE (kU g.own g.calm (jC rfl T.z_range (aI bN aQ)) (bS (i:=8) lG) (bE (cN (i:=9) lG (gL (aI (cF g (OI T) T.m_q7 T.F_q7.kp T.B_q7 (aI (aE 3) aQ)) (aI (cF g (E1 T) T.m_qx T.F_qx.kp T.B_qx (aI (aE 3) aQ)) aQ)))) (bE (hJ (lN (iP (cF g (zS (G:=G.wf _ tt oO) T 6) T.m_qs T.F_qs.kp T.B_qs (aI (aE 9) (aI (aE 7) aQ))))) (bO (cI jO)) gZ) (bO (kT (y9 (dE (aE 9) (aE 8)) bN)))))) (bE (cN (i:=10) lG (cF g (z29 T) T.m_qb T.F_qb.kp T.B_qb (aI (aE 2) aQ))) (bE (cN (i:=11) lG (gL (aI (yT (os:=aU fH) (oN:=Ay) lm0 rfl hT T.lq T.tab (hcd.symm.trans T.code) hC hB ol0) aQ))) (bE (kT (pH (aE 11) (yT (os:=aU fH) (oN:=Ay) lm1 rfl hT T.lq T.tab (hcd.symm.trans T.code) hC hB ol1))) (bE (kT (pH (aE 11) (yT (os:=aU fH) (oN:=Ay) lm2 rfl hT T.lq T.tab (hcd.symm.trans T.code) hC hB ol2))) (bE (kT (pH (aE 11) (yT (os:=aU fH) (oN:=Ay) lm3 rfl hT T.lq T.tab (hcd.symm.trans T.code) hC hB ol3))) (bO (hJ (rH g (gB (z00 (os:=aU fH) (oN:=Ay) g (j:=12+2) (by decide) (λ_=>rfl) (eE (N:=["_law_call"]) (cap:=[none]) (os:=(aU fH)) (oN:=Ay)) (iT (aE 11)) (λ_ _ _=>(bS (i:=0) z0p)) (λk L h base _ _=>okL (G:=G.wf _ tt oO) T k L h) T.m_qf T.F_qf.kp T.B_qf olT z2d)) (Y7 (pV 3) bN)) (bO (cI jO)) gZ))))))))))))))))) (bO (cI jO)))
end
end L2.Mr.K06
namespace L2.Mr.K05
open PySem PySem.Spec PyProof.Rows L2 L2.Mr L2.Mr.Com
def mb_qq:MS:=(bX (eJ (cB (aF F_q1 (aB (aA 0) aC)))) (tM 0 (aB (mC (.str "this is no order")) aC)) cO)
def F_qq:Av:=aW 1 1 (mb_qq)
def oK:MS:=(aH (aJ (m2 aR (aA 0) (mC (.int 1))) (aD 3)) (aN (dX (m2 dG (aA 1) (aA 2)) (dX (m2 (cS true) (aL (aB (aA 1) (aB (aA 2) aC))) (aA 3)) (m2 (cS true) (aL (aB (aA 2) (aB (aA 1) aC))) (aA 3))))))
def F_qv:Av:=aW 3 4 (oK)
def rW:MS:=(aH (cT (aF F_qq (aB (aA 0) aC))) (aH (aJ (m2 aR (aA 0) (mC (.int 0))) (aD 1)) (aN (aZ (bC (aO bY (aB (aA 1) aC)) [none,none,some 0,some 1] (aD 0) bT (iH (aO gM (aB (m2 bF (aA 0) (mC (.int 1))) (aB (aA 3) aC))) (aD 1) (cB (aF F_qv (aB (aA 2) (aB (aA 0) (aB (aA 1) aC))))) (aY (aL (aB (aA 0) (aB (aA 1) aC))))))))))
def F_qi:Av:=aW 1 2 (rW)
def uU:MS:=(aN (aF (f1 lQ) (aB (m2 hO (eQ (aA 0) (m2 aR (aA 1) (mC (.int 0)))) (eQ (aA 0) (m2 aR (aA 1) (mC (.int 1))))) aC)))
def F_q6:Av:=aW 2 2 (uU)
def uV:MS:=(aN (m1 (rV 0) (aZ (bC (aX bG (aA 1)) [none,some 0] (aD 0) bT (aY (aF F_q6 (aB (aA 1) (aB (aA 0) aC))))))))
def F_qd:Av:=aW 2 2 (uV)
def pW:MS:=(aH (aJ (aV aC) (aD 1)) (aH (cX (aO bY (aB (m2 aR (aA 0) (mC (.int 0))) aC)) (aD 2) (cX (aO gM (aB (m2 bF (aA 2) (mC (.int 1))) (aB (m2 aR (aA 0) (mC (.int 0))) aC))) (aD 3) (bX (jA (mB (m2 (cS true) (aL (aB (aA 2) (aB (aA 3) aC))) (m2 aR (aA 0) (mC (.int 1))))) (mB (m2 (cS true) (aL (aB (aA 3) (aB (aA 2) aC))) (m2 aR (aA 0) (mC (.int 1)))))) (cT (eO (aA 1) (aL (aB (aA 2) (aB (aA 3) aC))))) cO))) (aN (aA 1))))
def F_qj:Av:=aW 1 4 (pW)
def uX:MS:=(aN (aF (f1 (fJ cV)) (aB (m2 bF (aV (aB (mC (.int 0)) aC)) (aZ (bC (aX bG (aF F_qj (aB (aA 0) aC))) [none,none,some 1] (cM 2 (bA (aD 0) (bA (aD 1) cP))) bT (aY (aF (f1 lQ) (aB (m2 hO (eQ (aA 2) (aA 0)) (eQ (aA 2) (aA 1))) aC)))))) aC)))
def F_qt:Av:=aW 2 2 (uX)
end L2.Mr.K05
namespace L2.Mr.K04
open PySem PySem.Spec PyProof.Rows L2 L2.Mr
open L2.Mr.Com
open L2.Mr.Sam
def tblV:List (Nat×Bool):=[(0,true)]
def tbl0:List (Nat×Bool):=[(0,true)]
def tbl1:List (Nat×Bool):=[(0,false)]
def tbl2:List (Nat×Bool):=[(0,false)]
def tbl3:List (Nat×Bool):=[(0,false)]
def tbl4:List (Nat×Bool):=[(0,false)]
def tbl5:List (Nat×Bool):=[(0,false)]
def tbl6:List (Nat×Bool):=[(0,false)]
def tbl7:List (Nat×Bool):=[(0,false)]
def tbl8:List (Nat×Bool):=[(0,false)]
def tbl9:List (Nat×Bool):=[(0,false)]
def Eh:List (Nat×Bool):=[(0,false)]
def mb_qq:MS:=L2.Mr.K05.mb_qq
def F_qq:Av:=aW 1 1 (mb_qq)
def uS:MS:=(aH (aJ (aA 0) (cM 2 (bA (aD 2) (bA (aD 3) cP)))) (aH (aJ (aZ (bC (aX fZ (aA 3)) [none,none,some 1] (cM 2 (bA (aD 0) (bA (aD 1) cP))) (mB (m2 (cS true) (aA 0) (aA 2))) (aY (aA 1)))) (aD 4)) (aN (aZ (bC (aO bY (aB (aA 2) aC)) [none,some 1,some 4] (aD 0) (jA (mB (m2 (cS true) (aA 0) (aA 1))) (mB (m2 (cS true) (aA 0) (aA 2)))) (aY (aA 0)))))))
def F_q4:Av:=aW 2 5 (uS)
def uT:MS:=(aH (cT (aF F_qq (aB (aA 0) aC))) (aH (aJ (aV (aB (aL aC) aC)) (aD 1)) (aH (cX (aO bY (aB (m2 aR (aA 0) (mC (.int 0))) aC)) (aD 2) (aJ (aZ (bC (aX bG (aA 1)) [none,none,some 0] (aD 0) bT (iH (aX bG (aF F_q4 (aB (aA 2) (aB (aA 0) aC)))) (aD 1) bT (aY (m2 bF (aA 0) (aL (aB (aA 1) aC))))))) (aD 1))) (aN (aA 1)))))
def F_q0:Av:=aW 1 3 (uT)
def uW:MS:=(aH (aJ (aV (aB (aL aC) aC)) (aD 1)) (aH (cX (aO bY (aB (m2 aR (aA 0) (mC (.int 0))) aC)) (aD 2) (aH (aJ (aV aC) (aD 3)) (aH (cX (aX bG (aA 1)) (aD 4) (aJ (m2 bF (aA 3) (aZ (bC (aO bY (aB (m2 aR (aA 0) (mC (.int 0))) aC)) [none,some 4] (aD 0) (mB (m2 (cS true) (aA 0) (aA 1))) (aY (m2 bF (aA 1) (aL (aB (aA 0) aC))))))) (aD 3))) (aJ (aA 3) (aD 1))))) (aN (aZ (bC (aX bG (aA 1)) [none,some 0] (aD 0) (mB (m2 cA (aZ (bC (aX fZ (m2 aR (aA 1) (mC (.int 1)))) [none,none,some 0] (cM 2 (bA (aD 0) (bA (aD 1) cP))) (mB (m2 kE (eQ (aA 2) (aA 0)) (eQ (aA 2) (aA 1)))) (aY (mC (.int 1))))) (aV aC))) (aY (aA 0)))))))
def F_qr:Av:=aW 1 5 (uW)
def gD:MS:=(aH (aJ (aV (aB (m1 (bB (cY none tbl0)) (aA 1)) (aB (m1 (bB (cY none tbl1)) (aA 1)) (aB (m1 (bB (cY none tbl2)) (aA 1)) aC)))) (aD 3)) (aH (aJ (m2 bF (aA 3) (aV (aB (m1 (bB (cY none tbl3)) (aA 1)) (aB (m1 (bB (cY none tbl4)) (aA 1)) (aB (m1 (bB (cY none tbl5)) (aA 1)) aC))))) (aD 3)) (aH (aJ (m2 bF (aA 3) (aV (aB (m1 (bB (cY none tbl6)) (aA 1)) (aB (m1 (bB (cY none tbl7)) (aA 1)) (aB (m1 (bB (cY none tbl8)) (aA 1)) aC))))) (aD 3)) (aH (aJ (m2 bF (aA 3) (aV (aB (m1 (bB (cY none tbl9)) (aA 1)) (aB (m1 (bB (cY none Eh)) (aA 1)) aC)))) (aD 3)) (aH (bX (eJ (cB (m1 (bB (cY none tblV)) (aA 1)))) (aN (mC .non)) cO) (aN (aZ (bC (aO bY (aB (mC (.int 11)) aC)) [none,some 3] (aD 0) (cB (m2 aR (aA 1) (aA 0))) (aY (aA 0))))))))))
end L2.Mr.K04
namespace L2.Mr
open PySem PySem.Spec PyProof.Rows L2
section
variable{H:Hs}{j:Nat}{up up1:Aq}{b v:Int}{ρ:Ev}{x:Nat}
end
section
variable{d:Dv}{r:Int}{i j:Nat}{fs:Aq}
end
theorem OK:∀xs ys:Aq,fI (xs.map Dt.int) (ys.map Dt.int)=decide (xs=ys)
 | [],[]=>by simp[fI]
 | [],y::ys=>by simp[fI]
 |x::xs,[]=>by simp[fI]
 |x::xs,y::ys=>by simp only[da,fI,OK xs ys,bK];rw[dm];simp
theorem z2k {H:Hs}{i j:Nat}{xs ys:Aq}(ei:getL H i=some (xs.map Dv.int)) (ej:getL H j=some (ys.map Dv.int)):cA (.ref i) (.ref j) H=.ok (.bl (decide (xs=ys))) H:=by
 have p:∀(i:Nat) (xs:Aq),getL H i=some (xs.map Dv.int)->bQ cH H (.ref i)=some (.lst (xs.map Dt.int)):=λi xs e=>by show bQ (28+1+1) H (.ref i)=_;rw[bQ];simp only[e,uG]
 unfold cA;rw[p i xs ei,p j ys ej];simp only[bK,OK]
section
variable{d:Dv}{n r:Int}{ps qs:y'}{Fl:Av}
end
theorem vD {α:Type}{src:Src}{sg:dQ}{t:M Bool}{m:MC}(xs:List α) (out:α->Aw) (S:Ev->Hs->Prop)
  (fin:∀ρ h,S ρ h->src.fin h=true)
  (step:∀k (hk:k<xs.length) ρ h,S ρ h->∃d ρ1,src.get k h=some d/\sg d ρ=some ρ1 /\
   ((∃h2,t ρ1 h=.ok false h2/\out xs[k]=[]/\S ρ1 h2)∨∃h2,t ρ1 h=.ok true h2/\∀acc:Aw,acc.length+(out xs[k]).length<=900000->∃ρ3 h3,m ρ1 h2 acc=.ok (ρ3,acc++out xs[k]) h3/\S ρ3 h3)):
  ∀(f k:Nat) (ρ:Ev) (h:Hs) (acc:Aw),f+k=xs.length->S ρ h->acc.length+((xs.drop k).flatMap out).length<=900000->∃ρ' h',eV src sg t m f k ρ h acc=.ok (ρ',acc++(xs.drop k).flatMap out) h'/\S ρ' h'
 |0,k,ρ,h,acc,e,s,hl=>by have:xs.drop k=[]:=List.drop_eq_nil_of_le (by omega);exact⟨ρ,h,by simp[eV,fin ρ h s,this],s⟩
 |f+1,k,ρ,h,acc,e,s,hl=>by
  have hk:k<xs.length:=by omega
  obtain⟨d,ρ1,e1,e2,e3⟩:=step k hk ρ h s;rw[List.drop_eq_getElem_cons hk,iz]at hl ⊢;rw[bw]at hl
  rcases e3 with⟨h2,e3,e4,s2⟩|⟨h2,e3,e4⟩
  ·obtain⟨ρ',h',e5,s5⟩:=vD xs out S fin step f (k+1) ρ1 h2 acc (by omega) s2 (by omega);exact⟨ρ',h',by simp[eV,e1,e2,e3,e4,e5],s5⟩
  ·obtain⟨ρ3,h3,e6,s3⟩:=e4 acc (by omega);obtain⟨ρ',h',e5,s5⟩:=vD xs out S fin step f (k+1) ρ3 h3 (acc++out xs[k]) (by omega) s3 (by rw[bw];omega);exact⟨ρ',h',by simp[eV,e1,e2,e3,e6,e5],s5⟩
theorem sC {α:Type}{mi:M Src}{cap:List (Option Nat)}{src:Src}{sg:dQ}{t:M Bool}{m:MC}{ρ:Ev}{H H1:Hs}(xs:List α) (out:α->Aw) (S:Ev->Hs->Prop)
  (hi:mi ρ H=.ok src H1) (hn:src.n=xs.length) (s0:S (iI cap ρ) H1) (fin:∀ρ h,S ρ h->src.fin h=true)
  (step:∀k (hk:k<xs.length) ρ h,S ρ h->∃d ρ1,src.get k h=some d/\sg d ρ=some ρ1 /\
   ((∃h2,t ρ1 h=.ok false h2/\out xs[k]=[]/\S ρ1 h2)∨∃h2,t ρ1 h=.ok true h2/\∀acc:Aw,acc.length+(out xs[k]).length<=900000->∃ρ3 h3,m ρ1 h2 acc=.ok (ρ3,acc++out xs[k]) h3/\S ρ3 h3))
  (hl:(xs.flatMap out).length<=900000):∃ρ' H',bC mi cap sg t m ρ H=.ok (xs.flatMap out) H'/\S ρ' H':=by
 obtain⟨ρ',h',e,s⟩:=vD xs out S fin step xs.length 0 (iI cap ρ) H1 [] (by omega) s0 (by simpa using hl);refine⟨ρ',h', ?_,s⟩;unfold bC;rw[hi,Rs.bind_ok,hn,e];simp
theorem sD {e:M Dv}{ρ:Ev}{h h1:Hs}{d:Dv}{acc:Aw}(he:e ρ h=.ok d h1) (hl:acc.length+[d].length<=900000):aY e ρ h acc=.ok (ρ,acc++[d]) h1:=by
 have:acc.length<1000000:=by simp at hl;omega
 simp[aY,he,this]
theorem gJ {α:Type}{mi:M Src}{cap:List (Option Nat)}{src:Src}{sg:dQ}{t:M Bool}{e:M Dv}{ρ:Ev}{H H1:Hs}(xs:List α) (g:α->Ax) (S:Ev->Prop)
  (hi:mi ρ H=.ok src H1) (hn:src.n=xs.length) (s0:S (iI cap ρ)) (fin:src.fin H1=true)
  (step:∀k (hk:k<xs.length) ρ,S ρ->∃d ρ1,src.get k H1=some d/\sg d ρ=some ρ1/\S ρ1/\match g xs[k]with
   |none=>t ρ1 H1=.ok false H1
   |some v=>t ρ1 H1=.ok true H1/\e ρ1 H1=.ok v H1)
  (hl:xs.length<=900000):bC mi cap sg t (aY e) ρ H=.ok (xs.filterMap g) H1:=by
 have fm:∀l:List α,l.flatMap (λx=>(g x).toList)=l.filterMap g:=λl=>by
  induction l with
  |nil=>rfl
  |cons x l ih=>rw[iz,ih,br];cases g x <;> rfl
 have len:(xs.filterMap g).length<=xs.length:=nj g xs;obtain⟨ρ',H',h,_,rfl⟩:=sC (mi:=mi) (cap:=cap) (src:=src) (sg:=sg) (t:=t) (m:=aY e) (ρ:=ρ) (H:=H) (H1:=H1) xs (λx=>(g x).toList) (λρ h=>S ρ/\h=H1) hi hn ⟨s0,rfl⟩ (λρ h s=>by rw[s.2];exact fin)
  (λk hk ρ h ⟨s,e1⟩=>by
   subst e1;obtain⟨d,ρ1,e1,e2,s1,e3⟩:=step k hk ρ s;refine⟨d,ρ1,e1,e2, ?_⟩
   cases q:g xs[k]with
   |none=>rw[q]at e3;exact .inl ⟨h,e3,rfl,s1,rfl⟩
   |some v=>rw[q]at e3;exact .inr ⟨h,e3.1,λacc hl=>⟨ρ1,h,sD e3.2 hl,s1,rfl⟩⟩) (by rw[fm];omega)
 rw[h,fm]
theorem OL {α β:Type}{mi mj:M Src}{cap:List (Option Nat)}{src:Src}{sg sg2:dQ}{t2:M Bool}{e:M Dv}{ρ:Ev}{H H1:Hs}(xs:List α) (ys:α->List β) (g:α->β->Ax) (S:Ev->Prop)
  (hi:mi ρ H=.ok src H1) (hn:src.n=xs.length) (s0:S (iI cap ρ)) (fin:src.fin H1=true)
  (step:∀k (hk:k<xs.length) ρ,S ρ->∃(d:Dv) (ρ1:Ev) (src2:Src) (S2:Ev->Prop),src.get k H1=some d/\sg d ρ=some ρ1/\S2 ρ1/\(∀ρ,S2 ρ->S ρ)/\mj ρ1 H1=.ok src2 H1/\src2.n=(ys xs[k]).length/\src2.fin H1=true /\
   ∀j (hj:j<(ys xs[k]).length) ρ,S2 ρ->∃d ρ2,src2.get j H1=some d/\sg2 d ρ=some ρ2/\S2 ρ2/\match g xs[k] (ys xs[k])[j]with
    |none=>t2 ρ2 H1=.ok false H1
    |some v=>t2 ρ2 H1=.ok true H1/\e ρ2 H1=.ok v H1)
  (hl:(xs.flatMap λx=>(ys x).filterMap (g x)).length<=900000):bC mi cap sg bT (iH mj sg2 t2 (aY e)) ρ H=.ok (xs.flatMap λx=>(ys x).filterMap (g x)) H1:=by
 have fm:∀(x:α) (l:List β),l.flatMap (λy=>(g x y).toList)=l.filterMap (g x):=λx l=>by
  induction l with
  |nil=>rfl
  |cons y l ih=>rw[iz,ih,br];cases g x y <;> rfl
 obtain⟨ρ',H',h,_,rfl⟩:=sC (mi:=mi) (cap:=cap) (src:=src) (sg:=sg) (t:=bT) (m:=iH mj sg2 t2 (aY e)) (ρ:=ρ) (H:=H) (H1:=H1) xs (λx=>(ys x).filterMap (g x)) (λρ h=>S ρ/\h=H1) hi hn ⟨s0,rfl⟩ (λρ h s=>by rw[s.2];exact fin)
  (λk hk ρ h ⟨s,e1⟩=>by
   subst e1;obtain⟨d,ρ1,src2,S2,e1,e2,s1,sS,e3,e4,e5,e6⟩:=step k hk ρ s;refine⟨d,ρ1,e1,e2,.inr ⟨h,rfl,λacc hl=>?_⟩⟩;obtain⟨ρ3,h3,r,s3,rfl⟩:=vD (src:=src2) (sg:=sg2) (t:=t2) (m:=aY e) (ys xs[k]) (λy=>(g xs[k] y).toList) (λρ hh=>S2 ρ/\hh=h) (λρ hh s=>by rw[s.2];exact e5)
    (λj hj ρ hh ⟨s,e1⟩=>by
     subst e1;obtain⟨d,ρ2,z1,z2,z3,z4⟩:=e6 j hj ρ s;refine⟨d,ρ2,z1,z2, ?_⟩
     cases q:g xs[k] (ys xs[k])[j]with
     |none=>rw[q]at z4;exact .inl ⟨hh,z4,rfl,z3,rfl⟩
     |some v=>rw[q]at z4;exact .inr ⟨hh,z4.1,λacc hl=>⟨ρ2,hh,sD z4.2 hl,z3,rfl⟩⟩) (ys xs[k]).length 0 ρ1 h acc (by omega) ⟨s1,rfl⟩ (by rw[uy,fm];exact hl)
   refine⟨ρ3,h3, ?_,sS ρ3 s3,rfl⟩;unfold iH;rw[e3];dsimp only;rw[e4,r,uy,fm]) hl
 exact h
theorem z2l {c:M Bool}{b:MS}{f:Nat}{ρ:Ev}{h h1:Hs}(e:c ρ h=.ok false h1):jE c b (f+1) ρ h=.nx ρ h1:=by show(c ρ h).thenS _=_;rw[e];rfl
theorem OM {c:M Bool}{b:MS}{f:Nat}{ρ ρ2:Ev}{h h1 h2:Hs}(e:c ρ h=.ok true h1) (q:b ρ h1=.nx ρ2 h2):jE c b (f+1) ρ h=jE c b f ρ2 h2:=by show(c ρ h).thenS _=_;rw[e];simp[Rs.thenS,q]
theorem z2m {c:M Bool}{b:MS}{f:Nat}{ρ:Ev}{d:Dv}{h h1 h2:Hs}(e:c ρ h=.ok true h1) (q:b ρ h1=.rt d h2):jE c b (f+1) ρ h=.rt d h2:=by show(c ρ h).thenS _=_;rw[e];simp[Rs.thenS,q]
theorem zV:∀bs:List Bool,bU oD (bs.map Dv.bl)=some bs
 | []=>rfl
 |b::bs=>by rw[da,bU,zV bs];rfl
end L2.Mr
namespace L2.Mr.Com
open PySem PySem.Spec PyProof.Rows L2 L2.Mr
def aM (n:Nat) (ps:y'):Dv:=.tup [.int n,.tup (ps.map aG)]
theorem zW {n:Nat}{ps:y'}(H:Hs):aR (aM n ps) (.int 1) H=.ok (.tup (ps.map aG)) H:=rfl
theorem sE {α:Type}{ml:M Aw }{ρ:Ev}{H H1:Hs}{xs:List α}{f:α->Bool}(h:ml ρ H=.ok (xs.filterMap λx=>some (.bl (f x))) H1):mL kB ml ρ H=.ok (.bl (xs.all f)) H1:=by
 have e:(xs.filterMap λx=>some (Dv.bl (f x)))=(xs.map f).map Dv.bl:=by simp
 unfold mL;rw[h,Rs.bind_ok,e];unfold kB;rw[zV];simp[List.all_map]
theorem z2n {α:Type}{ml:M Aw }{ρ:Ev}{H H1:Hs}{xs:List α}{f:α->Bool}(h:ml ρ H=.ok (xs.filterMap λx=>some (.bl (f x))) H1):mL tN ml ρ H=.ok (.bl (xs.any f)) H1:=by
 have e:(xs.filterMap λx=>some (Dv.bl (f x)))=(xs.map f).map Dv.bl:=by simp
 unfold mL;rw[h,Rs.bind_ok,e];unfold tN;rw[zV];simp[wd]
section
variable{H:Hs}{n x:Int}{ps:y'}
theorem ON:F_q3 [.int x] H=.ok (.bl true) H:=by simp[F_q3,DR,aW,bV,aN,dX,m1,aA,bB,gG,rJ,nF,qV,bH]
theorem E5 {lo hi:Int}:F_qo [.int x,.int lo,.int hi] H=.ok (.bl (decide (lo<=x)&&decide (x<=hi))) H:=by
 by_cases h:lo<=x
 ·simp[F_qo,yK,aW,bV,aN,dX,aF,aB,aA,aC,ON,qU,rF,jB,h,bH]
 ·simp[F_qo,yK,aW,bV,aN,dX,aF,aB,aA,aC,ON,qU,rF,jB,h,bH]
def fG (n x:Int):Bool:=decide (0<=x)&&decide (x<=n - 1)
theorem z2o:F_q2 [.int n,.int x] H=.ok (.bl (fG n x)) H:=by simp[F_q2,DS,aW,bV,aN,aF,aB,aA,aC,mC,m2,hO,jB,E5,bH,fG]
theorem z2p {xs:Aq}(hl:xs.length<=1000):F_qm [.int n,.tup (xs.map Dv.int)] H=.ok (.bl (xs.all (fG n))) H:=by have h:bC (aX fZ (aA 1)) [none,some 0] (aD 0) bT (aY (aF F_q2 (aB (aA 1) (aB (aA 0) aC)))) [some (.int n),some (.tup (xs.map Dv.int))] H=.ok (xs.filterMap λx=>some (.bl (fG n x))) H:=gJ xs (λx=>some (.bl (fG n x))) (λρ=>∃a,ρ=[a,some (.int n)]) rfl (by simp[eK]) ⟨_,rfl⟩ rfl (λk hk ρ ⟨a,e⟩=>by subst e;exact⟨.int xs[k],_,by simp[eK,hk],rfl,⟨_,rfl⟩,rfl,by simp[aF,aB,aA,aC,z2o]⟩) (by omega);simp[F_qm,yL,aW,bV,aN,dX,m1,bB,aA,gG,hV,sE h,bH]
def mH (n:Int) (p:Int×Int):Bool:=fG n p.1&&fG n p.2
theorem z2q (p:Int×Int):F_q5 [.int n,aG p] H=.ok (.bl (mH n p)) H:=by
 have h:F_qm [.int n,aG p] H=.ok (.bl (mH n p)) H:=by have:=z2p (H:=H) (n:=n) (xs:=[p.1,p.2]) (by simp);simpa[aG,mH]using this
 have hlen:f1 eW [aG p] H=.ok (.int 2) H:=rfl
 cases q:mH n p with
 |false=>simp[F_q5,rT,aW,bV,aN,dX,aF,aB,aA,aC,h,q,bH]
 |true=>simp[F_q5,rT,aW,bV,aN,dX,aF,aB,aA,aC,h,q,bH,m2,hlen,mC,cA,cH,bQ,bK]
theorem z2r (hl:ps.length<=1000):F_qw [.int n,.tup (ps.map aG)] H=.ok (.bl (ps.all (mH n))) H:=by have h:bC (aX fZ (aA 1)) [none,some 0] (aD 0) bT (aY (aF F_q5 (aB (aA 1) (aB (aA 0) aC)))) [some (.int n),some (.tup (ps.map aG))] H=.ok (ps.filterMap λp=>some (.bl (mH n p))) H:=gJ ps (λp=>some (.bl (mH n p))) (λρ=>∃a,ρ=[a,some (.int n)]) rfl (by simp[eK]) ⟨_,rfl⟩ rfl (λk hk ρ ⟨a,e⟩=>by subst e;exact⟨aG ps[k],_,by simp[eK,hk],rfl,⟨_,rfl⟩,rfl,by simp[aF,aB,aA,aC,z2q]⟩) (by omega);simp[F_qw,DT,aW,bV,aN,sE h,bH]
theorem z2s (hl:ps.length<=1000):F_qy [.tup (ps.map aG)] H=.ok (.bl (ps.any λp=>decide (p.1=p.2))) H:=by have h:bC (aX fZ (aA 0)) [none,none] (cM 2 (bA (aD 0) (bA (aD 1) cP))) bT (aY (m2 cA (aA 0) (aA 1))) [some (.tup (ps.map aG))] H=.ok (ps.filterMap λp=>some (.bl (decide (p.1=p.2)))) H:=gJ ps (λp=>some (.bl (decide (p.1=p.2)))) (λρ=>∃a b,ρ=[a,b]) rfl (by simp[eK]) ⟨_,_,rfl⟩ rfl (λk hk ρ ⟨a,b,e⟩=>by subst e;refine⟨aG ps[k],[some (.int ps[k].1),some (.int ps[k].2)],by simp[eK,hk],rfl,⟨_,_,rfl⟩,rfl, ?_⟩;simp[m2,aA,cA,cH,bQ,bK];rw[dm];simp) (by omega);simp[F_qy,NN,aW,bV,aN,z2n h,bH]
theorem z2t (p q:Int×Int):iA (aG p) (aG q) H=.ok (.bl (eX p q)) H:=by simp only[iA,aG,bU,gH,NF];rw[<-uL];rfl
def mI (ps:y'):Bool:=(ps.zip (ps.drop 1)).all λq=>eX q.1 q.2
theorem Du:∀{ps:y'},mI ps=true↔fT eX ps
 | []=>by simp[mI,fT]
 | [p]=>by simp[mI,fT]
 |p::q::r=>by
  have ih:=Du (ps:=q::r);have e:mI (p::q::r)=(eX p q&&mI (q::r)):=by simp[mI]
  rw[e,fe,ih];constructor
  ·rintro ⟨h1,h2⟩
   refine gg.mpr ⟨λz hz=>?_,h2⟩
   rcases bh.mp hz with rfl|hz
   ·exact h1
   ·exact Dh.tr _ _ _ h1 ((gg.mp h2).1 z hz)
  ·intro h;have:=gg.mp h;exact⟨this.1 q (by simp),this.2⟩
theorem z2u (ds:Aw):oG ds (some 1) none=ds.drop 1:=by
 unfold oG;rw[show HT.sIx ds.length 0 (some 1)=min 1 ds.length from HT.sIx_nat ds.length 0 1,HT.sIx_none]
 cases ds with
 |nil=>rfl
 |cons a r=>simp
theorem z2v (hl:ps.length<=1000):F_qz [.tup (ps.map aG)] H=.ok (.bl (mI ps)) H:=by
 have hi:aO rD (aB (aA 0) (aB (uP (aA 0) (tX (mC (.int 1))) tW) aC)) [some (.tup (ps.map aG))] H=.ok (lT (ps.map aG) ((ps.drop 1).map aG)) H:=by simp[aO,aB,aA,uP,tX,mC,K9,tW,yJ,aC,rD,z2u,vm]
 have hz:((ps.map aG).zip ((ps.drop 1).map aG)).map (λq=>Dv.tup [q.1,q.2])=(ps.zip (ps.drop 1)).map λq=>Dv.tup [aG q.1,aG q.2]:=by rw[List.zip_map,jg];rfl
 have h:bC (aO rD (aB (aA 0) (aB (uP (aA 0) (tX (mC (.int 1))) tW) aC))) [none,none] (cM 2 (bA (aD 0) (bA (aD 1) cP))) bT (aY (m2 iA (aA 0) (aA 1))) [some (.tup (ps.map aG))] H=.ok ((ps.zip (ps.drop 1)).filterMap λq=>some (.bl (eX q.1 q.2))) H:=
  gJ (ps.zip (ps.drop 1)) (λq=>some (.bl (eX q.1 q.2))) (λρ=>∃a b,ρ=[a,b]) hi (by simp[lT,eK]) ⟨_,_,rfl⟩ rfl (λk hk ρ ⟨a,b,e⟩=>by
   subst e;refine⟨.tup [aG (ps.zip (ps.drop 1))[k].1,aG (ps.zip (ps.drop 1))[k].2],[some (aG (ps.zip (ps.drop 1))[k].1),some (aG (ps.zip (ps.drop 1))[k].2)], ?_,rfl,⟨_,_,rfl⟩,rfl, ?_⟩
   ·show(((ps.map aG).zip ((ps.drop 1).map aG)).map (λq=>Dv.tup [q.1,q.2]))[k]?=_;rw[hz,dk,ay hk];rfl
   ·simp only[m2,aA];exact z2t _ _) (by rw[List.length_zip];omega)
 simp[F_qz,NM,aW,bV,aN,sE h,bH,mI]
def vE (ps:y'):Bool:=ps.all λp=>ps.all λq=>!decide (p.2=q.1)||decide ((p.1,q.2)∈ps)
theorem z2w (hl:ps.length<=900):F_qh [.tup (ps.map aG)] H=.ok (.bl (vE ps)) H:=by
 let g:Int×Int->Int×Int->Ax:=λp q=>if p.2=q.1 then some (.bl (decide ((p.1,q.2)∈ps)))else none
 have h:bC (aX fZ (aA 0)) [none,none,none,none,some 0] (cM 2 (bA (aD 0) (bA (aD 1) cP))) bT (iH (aX fZ (aA 4)) (cM 2 (bA (aD 2) (bA (aD 3) cP))) (mB (m2 cA (aA 1) (aA 2))) (aY (m2 (cS false) (aL (aB (aA 0) (aB (aA 3) aC))) (aA 4)))) [some (.tup (ps.map aG))] H=.ok (ps.flatMap λp=>ps.filterMap (g p)) H:=
  OL ps (λ_=>ps) g (λρ=>∃a b c d,ρ=[a,b,c,d,some (.tup (ps.map aG))]) rfl (by simp[eK]) ⟨_,_,_,_,rfl⟩ rfl (λk hk ρ ⟨a,b,c,d,e⟩=>by
   subst e;refine⟨aG ps[k],[some (.int ps[k].1),some (.int ps[k].2),c,d,some (.tup (ps.map aG))],eK (ps.map aG),λρ=>∃c d,ρ=[some (.int ps[k].1),some (.int ps[k].2),c,d,some (.tup (ps.map aG))],by simp[eK,hk],rfl,⟨_,_,rfl⟩,λρ ⟨c,d,e⟩=>⟨_,_,_,_,e⟩,rfl,by simp[eK],rfl,λj hj ρ ⟨c,d,e⟩=>?_⟩;subst e;refine⟨aG ps[j],[some (.int ps[k].1),some (.int ps[k].2),some (.int ps[j].1),some (.int ps[j].2),some (.tup (ps.map aG))],by simp[eK,hj],rfl,⟨_,_,rfl⟩, ?_⟩;have te:mB (m2 cA (aA 1) (aA 2)) [some (.int ps[k].1),some (.int ps[k].2),some (.int ps[j].1),some (.int ps[j].2),some (.tup (ps.map aG))] H=.ok (decide (ps[k].2=ps[j].1)) H:=by simp[mB,m2,aA,cA,cH,bQ,bK,eI];rw[dm];simp
   by_cases c1:ps[k].2=ps[j].1
   ·rw[decide_eq_true c1]at te;have hg:g ps[k] ps[j]=some (.bl (decide ((ps[k].1,ps[j].2)∈ps))):=if_pos c1;rw[hg];refine⟨te, ?_⟩;have hx:aL (aB (aA 0) (aB (aA 3) aC)) [some (.int ps[k].1),some (.int ps[k].2),some (.int ps[j].1),some (.int ps[j].2),some (.tup (ps.map aG))] H=.ok (aG (ps[k].1,ps[j].2)) H:=rfl;unfold m2;rw[hx,Rs.bind_ok];show(Rs.ok (Dv.tup (ps.map aG)) H).bind _=_;rw[Rs.bind_ok,nI];rfl
   ·rw[decide_eq_false c1]at te;have hg:g ps[k] ps[j]=none:=if_neg c1;rw[hg];exact te) (by
   have:∀l:y',(l.flatMap λp=>ps.filterMap (g p)).length<=l.length*ps.length:=λl=>by
    induction l with
    |nil=>simp
    |cons p l ih=>rw[iz,bw,cy,uj];have:=nj (g p) ps;omega
   have h2:=this ps;have h3:ps.length*ps.length<=900*900:=my hl hl;omega)
 have hb:(ps.flatMap λp=>ps.filterMap (g p))=(ps.flatMap λp=>ps.filterMap λq=>if p.2=q.1 then some (decide ((p.1,q.2)∈ps))else none).map Dv.bl:=by
  rw[List.map_flatMap]
  congr 1
  funext p
  rw[List.map_filterMap]
  congr 1
  funext q
  show(if p.2=q.1 then some (Dv.bl (decide ((p.1,q.2)∈ps)))else none)=_
  split <;> rfl
 have Cb:mL kB (bC (aX fZ (aA 0)) [none,none,none,none,some 0] (cM 2 (bA (aD 0) (bA (aD 1) cP))) bT (iH (aX fZ (aA 4)) (cM 2 (bA (aD 2) (bA (aD 3) cP))) (mB (m2 cA (aA 1) (aA 2))) (aY (m2 (cS false) (aL (aB (aA 0) (aB (aA 3) aC))) (aA 4))))) [some (.tup (ps.map aG))] H=.ok (.bl (vE ps)) H:=by
  unfold mL;rw[h,Rs.bind_ok,hb];unfold kB;rw[zV];dsimp only
  congr 2
  rw[dm];unfold vE;simp only[gu,ph,jz,id];constructor
  ·intro h p hp q hq
   by_cases c:p.2=q.1
   ·have:=h (decide ((p.1,q.2)∈ps)) ⟨p,hp,q,hq,if_pos c⟩;simp[c,this]
   ·simp[c]
  ·rintro h b ⟨p,hp,q,hq,e⟩
   have:=h p hp q hq
   by_cases c:p.2=q.1
   ·rw[if_pos c]at e;cases e;simpa[c]using this
   ·rw[if_neg c]at e;cases e
 simp[F_qh,NO,aW,bV,aN,Cb,bH]
def sF (n:Int) (ps:y'):Bool:=decide (1<=n)&&decide (n<=6)&&ps.all (mH n)&&mI ps&&!(ps.any λp=>decide (p.1=p.2))&&vE ps
theorem OO {n:Int}(hl:ps.length<=900):F_q1 [.tup [.int n,.tup (ps.map aG)]] H=.ok (.bl (sF n ps)) H:=by
 have b:=E5 (H:=H) (x:=n) (lo:=1) (hi:=6);have p1:=z2r (H:=H) (n:=n) (ps:=ps) (by omega);have p2:=z2v (H:=H) (ps:=ps) (by omega);have p3:=z2s (H:=H) (ps:=ps) (by omega);have p4:=z2w (H:=H) (ps:=ps) hl;have hlen:f1 eW [.tup [.int n,.tup (ps.map aG)]] H=.ok (.int 2) H:=rfl;unfold sF;generalize (decide (1<=n)&&decide (n<=6))=c0 at b ⊢;generalize ps.all (mH n)=c1 at p1 ⊢;generalize mI ps=c2 at p2 ⊢;generalize (ps.any λp=>decide (p.1=p.2))=c3 at p3 ⊢;generalize vE ps=c4 at p4 ⊢
 cases c0 <;> cases c1 <;> cases c2 <;> cases c3 <;> cases c4 <;>
  simp[F_q1,pR,aW,bV,aH,bX,gX,eJ,cB,m1,bB,aA,gG,hV,gF,mB,m2,aF,aB,aC,hlen,mC,dG,cH,bQ,bK,eI,cO,aJ,cM,bA,aD,cP,b,p1,p2,p3,p4,aN,dX,qV,bH]
end
structure Be (n:Nat) (ps:y'):Prop where
 n1:1<=n
 n6:n<=6
 rng:∀p∈ps,0<=p.1/\p.1<n/\0<=p.2/\p.2<n
 rise:fT eX ps
 irr:∀p∈ps,p.1≠p.2
 tr:∀p∈ps,∀q∈ps,p.2=q.1->(p.1,q.2)∈ps
section
variable{n:Nat}{ps:y'}{H:Hs}
def E6 (n:Nat):y':=(bf n).flatMap λa:Nat=>(bf n).map λb:Nat=>((a:Int),(b:Int))
theorem z2x (n:Nat):(E6 n).length=n*n:=by
 unfold E6;have:∀l:As,(l.flatMap λa:Nat=>(bf n).map λb:Nat=>((a:Int),(b:Int))).length=l.length*n:=λl=>by
  induction l with
  |nil=>simp
  |cons a l ih=>rw[iz,bw,ih,cy,uj];simp;omega
 rw[this];simp
theorem z2y {p:Int×Int}(h:0<=p.1/\p.1<n/\0<=p.2/\p.2<n):p∈E6 n:=by obtain⟨a,b⟩:=p;simp only at h;refine ph.mpr ⟨a.toNat,bx.mpr (by omega),cg.mpr ⟨b.toNat,bx.mpr (by omega), ?_⟩⟩;simp;omega
theorem vF (hr:fT eX ps) (hp:∀p∈ps,0<=p.1/\p.1<n/\0<=p.2/\p.2<n):ps.length<=n*n:=by rw[<-z2x n];exact(uK Dh hr).length_le_of_subset λp h=>z2y (hp p h)
theorem Be.len (o:Be n ps):ps.length<=36:=by have h1:=vF o.rise o.rng;have h2:n*n<=6*6:=my o.n6 o.n6;omega
theorem Be.b (o:Be n ps):sF n ps=true:=by
 have h1:=o.n1;have h6:=o.n6;unfold sF;simp only[fe,decide_eq_true_eq,wg];refine⟨⟨⟨⟨⟨by omega,by omega⟩, ?_⟩,Du.mpr o.rise⟩, ?_⟩, ?_⟩
 ·refine gu.mpr λp hp=>?_;have:=o.rng p hp;simp[mH,fG];omega
 ·refine List.any_eq_false.mpr λp hp=>?_;simpa using o.irr p hp
 ·refine gu.mpr λp hp=>gu.mpr λq hq=>?_
  by_cases c:p.2=q.1
  ·simp[c,o.tr p hp q hq c]
  ·simp[c]
theorem z2z (o:Be n ps):F_q1 [aM n ps] H=.ok (.bl true) H:=by have:=OO (H:=H) (n:=(n:Int)) (ps:=ps) (by have:=o.len;omega);rw[o.b]at this;exact this
end
theorem z30 (H:Hs) (n:Nat) (a:Int) (b:Bool) (m:Int) (h0:0<m) (h1:m<18446744073709551616) (e:getL H n=some [.int a,.bl b]):
  ∃r a',0<=r/\r<m/\F_qu [.ref n,.int m] H=.ok (.int r) (H.set n (.lst [.int a',.bl b])):=by
 cases b with
 |true=>refine⟨a % m,a / m,Int.emod_nonneg _ (by omega),Int.emod_lt_of_pos _ h0, ?_⟩;simp[F_qu,DU,aW,bV,aH,bX,cB,m2,aA,mC,aR,gC,gY,e,kS,iF,gE,gF,aJ,lX,lO,qY,h0,aD,tQ,uD,uC,h1,xN,aN,bH]
 |false=>
  have q1:∀ys,getL (H.set n (.lst ys)) n=some ys:=λys=>lY e;generalize hs:(a*48271+29) % 2147483647=s;have s0:0<=s:=by omega
  have s1:s<2147483647:=by omega
  generalize ht:(s*s+39373*s+7) % 2147483629=t;have t0:0<=t:=by omega
  have t1:t<2147483629:=by omega
  generalize hu:(t*t+16807*t) % 2147483587=u;refine⟨u / 8 % m,s,Int.emod_nonneg _ (by omega),Int.emod_lt_of_pos _ h0, ?_⟩;have w1:jP s=true:=by simp[jP];omega
  have w2:jP t=true:=by simp[jP];omega
  have w3:jP 48271=true:=by decide
  have w4:jP 39373=true:=by decide
  have w5:jP 16807=true:=by decide
  simp[F_qu,DU,aW,bV,aH,bX,cB,m2,aA,mC,aR,gC,gY,e,kS,iF,gE,gF,aJ,lX,lO,qY,h0,aD,tQ,uD,uC,h1,xN,aN,bH,cO,bF,jZ,pJ,xD,w1,w2,w3,w4,w5,q1,hs,ht,hu]
def St (n:Nat) (H:Hs):Prop:=∃a b,getL H n=some [.int a,.bl b]
theorem St.fr {n:Nat}{S:As}{H H':Hs}(s:St n H) (f:Fr S H H') (h:n∉S):St n H':=let ⟨a,b,e⟩:=s;⟨a,b,f.getL e h⟩
theorem oP {H:Hs}{n:Nat}(m:Int) (s:St n H) (h0:0<m:=by decide) (h1:m<18446744073709551616:=by decide):
  ∃r H',0<=r/\r<m/\F_qu [.ref n,.int m] H=.ok (.int r) H'/\Fr [n] H H'/\St n H':=by
 obtain⟨a,b,e⟩:=s;obtain⟨r,a',r0,r1,ht⟩:=z30 H n a b m h0 h1 e;exact⟨r,_,r0,r1,ht,Fr.set,a',b,lY e⟩
theorem z31 (scr:Aq) (k:Nat) (h:Hs):∃H',F_ql scr [.scr,.int k] h=.ok (.ref h.length) H'/\Fr [] h H'/\St h.length H':=by
 have cell:∃c,F_qe scr [.scr,.int k] h=.ok (.int c) h:=by
  by_cases hk:k<scr.length
  ·refine⟨scr[k], ?_⟩;have Ct:(k:Int)<scr.length:=by omega
   simp[F_qe,yM,aW,bV,aH,bX,mB,m2,aA,mC,iA,aF,f1,iQ,fY,aB,aC,eI,Ct,hk,gY,kS,iF,gE,aN,bH]
  ·refine⟨0, ?_⟩;have Ct:¬ (k:Int)<scr.length:=by omega
   simp[F_qe,yM,aW,bV,aH,bX,mB,m2,aA,mC,iA,aF,f1,iQ,fY,aB,aC,eI,Ct,hk,gY,kS,iF,gE,aN,bH,cO]
 obtain⟨c,hc⟩:=cell;have fin:∀a b,Fr [] h (h++[Ob.lst [.int a,.bl b]])/\St h.length (h++[Ob.lst [.int a,.bl b]]):=λa b=>⟨Fr.app,a,b,by rw[Y3];rfl⟩
 by_cases hg:c>=1000000000000000000
 ·refine⟨_, ?_,fin (c - 1000000000000000000) true⟩;simp[F_ql,yN,aW,bV,aH,aJ,aF,aB,aA,aC,hc,aD,bX,mB,m2,xV,jB,tY,lO,tF,mC,eI,hg,aN,aV,hO,lim,bH]
 ·refine⟨_, ?_,fin (c % 2147483647) false⟩;simp[F_ql,yN,aW,bV,aH,aJ,aF,aB,aA,aC,hc,aD,bX,mB,m2,xV,jB,tY,lO,tF,mC,eI,hg,aN,aV,hO,lim,bH,cO,lX,qY]
theorem St.lt {st:Nat}{H:Hs}(s:St st H):st<H.length:=let ⟨_,_,e⟩:=s;lZ e
theorem z32 {H:Hs}{q:Nat}{ks:Aq}(e:getL H q=some (ks.map Dv.int)):dG (.ref q) (.ref H.length) (H++[.lst []])=.ok (.bl (!ks.isEmpty)) (H++[.lst []]):=by
 have p1:bQ cH (H++[.lst []]) (.ref q)=some (.lst (ks.map Dt.int)):=by show bQ (28+1+1) (H++[.lst []]) (.ref q)=_;rw[bQ];simp only[iK (l:=[.lst []]) e,uG]
 have p2:bQ cH (H++[.lst []]) (.ref H.length)=some (.lst []):=by
  show bQ (28+1+1) (H++[.lst []]) (.ref H.length)=_;rw[bQ];have:getL (H++[.lst []]) H.length=some []:=by simp[getL]
  simp only[this];rfl
 unfold dG;rw[p1,p2]
 cases ks <;> simp[bK,fI]
def zX:M Bool:=mB (m2 dG (aA 2) (aV aC))
def zY:MS:=cT (eO (aA 3) (tV (aA 2) (aF F_qu (aB (aA 0) (aB (aF (f1 eW) (aB (aA 2) aC)) aC)))))
theorem z33:DV=aH (aJ (aF (f1 kY) (aB (aA 1) aC)) (aD 2)) (aH (aJ (aV aC) (aD 3)) (aH (jE zX zY 40) (aN (aA 3)))):=rfl
section
variable{st a b:Nat}{d:Dv}
theorem OP (Dr:a≠b) (has:a≠st) (hbs:b≠st):∀(f:Nat) (ls fs:Aq) (H:Hs),ls.length<f->ls.length+fs.length<=100->getL H a=some (ls.map Dv.int)->getL H b=some (fs.map Dv.int)->St st H->
  ∃(H':Hs) (ys:Aq),jE zX zY f [some (.ref st),some d,some (.ref a),some (.ref b)] H=.nx [some (.ref st),some d,some (.ref a),some (.ref b)] H'/\getL H' b=some (ys.map Dv.int)/\ys.Perm (fs++ls)/\St st H'/\Fr [st,a,b] H H'
 |0,ls,fs,H,h,_,_,_,_=>by omega
 |f+1,ls,fs,H,h,hl,ea,eb,s=>by
  have tc:zX [some (.ref st),some d,some (.ref a),some (.ref b)] H=.ok (!ls.isEmpty) (H++[.lst []]):=by simp[zX,mB,m2,aA,aV,aC,lim,z32 ea,eI]
  have ea1:=iK (l:=[Ob.lst []]) ea;have eb1:=iK (l:=[Ob.lst []]) eb;have g1:Fr [st,a,b] H (H++[Ob.lst []]):=Fr.app;have s1:=s.fr (Fr.app (S:=[]) (l:=[Ob.lst []])) (by simp);generalize H++[Ob.lst []]=H1 at tc ea1 eb1 g1 s1
  cases hls:ls with
  |nil=>subst hls;refine⟨H1,fs, ?_,eb1,by simp,s1,g1⟩;exact z2l tc
  |cons x r=>
   have hne:ls.isEmpty=false:=by rw[hls];rfl
   have hpos:(0:Int)<ls.length:=by rw[hls];simp
   obtain⟨k,H2,k0,k1,ht,f2,s2⟩:=oP (ls.length:Int) s1 hpos (by omega);have ea2:=f2.getL ea1 (by simpa using has);have eb2:=f2.getL eb1 (by simpa using hbs);have hk:k.toNat<ls.length:=by omega
   have ixk:gE (ls.map Dv.int).length k=some k.toNat:=by unfold gE;rw[if_pos k0,ba,if_pos k1]
   have getk:(ls.map Dv.int)[k.toNat]?=some (.int ls[k.toNat]):=by simp[hk]
   have hlen:f1 eW [.ref a] H1=.ok (.int ls.length) H1:=by show(if gC (.ref a)=true then iQ [] (.ref a) H1 else .bad)=_;simp[gC,iQ,fY,ea1]
   have hz:(ls.map Dv.int).length<=1000000:=by rw[ba];omega
   have pop:xT (.ref a) (.int k) H2=.ok (.int ls[k.toNat]) (H2.set a (.lst ((ls.eraseIdx k.toNat).map Dv.int))):=by
    simp only[xT,ea2,ixk,getk,hz,if_true];have em:(ls.map Dv.int).eraseIdx k.toNat=(ls.eraseIdx k.toNat).map Dv.int:=by rw[wu,wu,gr,yu,vm]
    rw[em]
   have eb3:getL (H2.set a (.lst ((ls.eraseIdx k.toNat).map Dv.int))) b=some (fs.map Dv.int):=by rw[uF Dr];exact eb2
   have ea3:getL (H2.set a (.lst ((ls.eraseIdx k.toNat).map Dv.int))) a=some ((ls.eraseIdx k.toNat).map Dv.int):=lY ea2;have f3:Fr [st,a,b] H2 (H2.set a (.lst ((ls.eraseIdx k.toNat).map Dv.int))):=Fr.set.mono (by simp);have s3:St st (H2.set a (.lst ((ls.eraseIdx k.toNat).map Dv.int))):=s2.fr Fr.set (by simpa using dh has);generalize hH3:H2.set a (.lst ((ls.eraseIdx k.toNat).map Dv.int))=H3 at pop eb3 ea3 f3 s3;have hfl:(fs.map Dv.int).length<1000000:=by rw[ba];omega
   have body:zY [some (.ref st),some d,some (.ref a),some (.ref b)] H1=.nx [some (.ref st),some d,some (.ref a),some (.ref b)] (H3.set b (.lst ((fs++[ls[k.toNat]]).map Dv.int))):=by
    have isA:iJ (.ref a) H1=true:=by simp[iJ,ea1]
    have isB:iJ (.ref b) H1=true:=by simp[iJ,eb1]
    have hpop:tV (aA 2) (aF F_qu (aB (aA 0) (aB (aF (f1 eW) (aB (aA 2) aC)) aC))) [some (.ref st),some d,some (.ref a),some (.ref b)] H1=.ok (.int ls[k.toNat]) H3:=by simp[tV,aA,isA,aF,aB,aC,hlen,ht,pop]
    have happ:lS (.ref b) (.int ls[k.toNat]) H3=.ok .non (H3.set b (.lst ((fs++[ls[k.toNat]]).map Dv.int))):=by simp only[lS,eb3,hfl,if_true,gr];rfl
    simp[zY,cT,eO,aA,isB,hpop,happ]
   have Ek:(ls.eraseIdx k.toNat).length=ls.length - 1:=yc hk;obtain⟨H',ys,w,e',pm,s',f'⟩:=OP Dr has hbs f (ls.eraseIdx k.toNat) (fs++[ls[k.toNat]]) (H3.set b (.lst ((fs++[ls[k.toNat]]).map Dv.int))) (by omega) (by rw[bw];simp;omega) (by rw[uF (dh Dr)];exact ea3) (lY eb3) (s3.fr Fr.set (by simpa using dh hbs));refine⟨H',ys, ?_,e', ?_,s', ?_⟩
   ·rw[hne]at tc;rw[OM tc body];exact w
   ·rw[<-hls];refine pm.trans ?_;rw[oj];refine yd fs ?_;have:=SR.erase_perm ls k.toNat hk;simpa using this
   ·exact(((g1.trans f2 (by simp)).trans f3 (by simp)).trans (T:=[b]) Fr.set (by simp)).trans f' (by simp)
theorem z34 {H:Hs}{j:Nat}{xs:Aq}(s:St st H) (e:getL H j=some (xs.map Dv.int)) (hl:xs.length<=20):∃(i:Nat) (ys:Aq) (H':Hs),F_qc [.ref st,.ref j] H=.ok (.ref i) H'/\getL H' i=some (ys.map Dv.int)/\ys.Perm xs/\H.length<=i/\St st H'/\Fr [st] H H':=by
 have lt:=s.lt;have w0:aJ (aF (f1 kY) (aB (aA 1) aC)) (aD 2) [some (.ref st),some (.ref j),none,none] H=.nx [some (.ref st),some (.ref j),some (.ref H.length),none] (H++[.lst (xs.map Dv.int)]):=by simp[aJ,aF,f1,kY,gC,rA,fY,aB,aA,aC,e,aD]
 have w1:aJ (aV aC) (aD 3) [some (.ref st),some (.ref j),some (.ref H.length),none] (H++[.lst (xs.map Dv.int)])=.nx [some (.ref st),some (.ref j),some (.ref H.length),some (.ref (H.length+1))] (H++[.lst (xs.map Dv.int)]++[.lst []]):=by simp[aJ,aV,aC,lim,aD]
 have ea:getL (H++[.lst (xs.map Dv.int)]++[.lst []]) H.length=some (xs.map Dv.int):=iK (by simp[getL]);have eb:getL (H++[.lst (xs.map Dv.int)]++[.lst []]) (H.length+1)=some (([]:Aq).map Dv.int):=by simp[getL]
 have f0:Fr [st] H (H++[.lst (xs.map Dv.int)]++[.lst []]):=Fr.trans (T:=[]) Fr.app Fr.app (by simp);have s0:St st (H++[.lst (xs.map Dv.int)]++[.lst []]):=(s.fr (Fr.app (S:=[]) (l:=[.lst (xs.map Dv.int)])) (by simp)).fr (Fr.app (S:=[])) (by simp);obtain⟨H',ys,w2,e2,pm,s2,f2⟩:=OP (st:=st) (a:=H.length) (b:=H.length+1) (d:=.ref j) (by omega) (by omega) (by omega) 40 xs [] _ (by omega) (by simp;omega) ea eb s0;refine⟨H.length+1,ys,H', ?_,e2,by simpa using pm,by omega,s2,f0.trans f2 (by simp)⟩;show bH (DV [some (.ref st),some (.ref j),none,none] H)=_;rw[z33,bP w0,bP w1,bP w2];rfl
end
def eY (ps:y') (p:Int×Int):y':=(ps.filter λq=>decide (p.2=q.1)).map λq=>(p.1,q.2)
def eU (ps:y'):y':=eR eX (ps++ps.flatMap (eY ps))
def vG:Nat->y'->Option y' 
 |0,_=>none
 |f+1,ps=>if eU ps=ps then some ps else vG f (eU ps)
def nQ (n:Nat) (ps:y'):Prop:=∀p∈ps,0<=p.1/\p.1<n/\0<=p.2/\p.2<n
def Tr (ps:y'):Prop:=∀p∈ps,∀q∈ps,p.2=q.1->(p.1,q.2)∈ps
theorem z35 {ps:y'}{p r:Int×Int}:r∈eY ps p↔∃q∈ps,p.2=q.1/\r=(p.1,q.2):=by
 simp only[eY,cg,gn,decide_eq_true_eq];constructor
 ·rintro ⟨q,⟨h1,h2⟩,h3⟩;exact⟨q,h1,h2,h3.symm⟩
 ·rintro ⟨q,h1,h2,h3⟩;exact⟨q,⟨h1,h2⟩,h3.symm⟩
theorem step_mem {ps:y'}{r:Int×Int}:r∈eU ps↔r∈ps∨∃p∈ps,∃q∈ps,p.2=q.1/\r=(p.1,q.2):=by unfold eU;rw[nK Dh,cz,ph];simp only[z35]
theorem E7 {n:Nat}{ps:y'}(h:nQ n ps):nQ n (eU ps):=λr hr=>by
 rcases step_mem.mp hr with hr|⟨p,hp,q,hq,_,rfl⟩
 ·exact h r hr
 ·exact⟨(h p hp).1,(h p hp).2.1,(h q hq).2.2.1,(h q hq).2.2.2⟩
theorem vH (ps:y'):fT eX (eU ps):=uJ Dh _
theorem z36 {ps:y'}(hr:fT eX ps):eU ps=ps↔Tr ps:=by
 constructor
 ·intro h p hp q hq e;rw[<-h];exact step_mem.mpr (.inr ⟨p,hp,q,hq,e,rfl⟩)
 ·intro h;refine DJ Dh (vH ps) hr λr=>?_;rw[step_mem];constructor
  ·rintro (hr|⟨p,hp,q,hq,e,rfl⟩)
   ·exact hr
   ·exact h p hp q hq e
  ·exact λh=>.inl h
theorem z37 {ps:y'}(hr:fT eX ps) (hne:eU ps≠ps):ps.length<(eU ps).length:=by
 have nd:=uK Dh hr;have sub:∀r∈ps,r∈eU ps:=λr h=>step_mem.mpr (.inl h);have h1:=nd.length_le_of_subset sub
 rcases jo ps.length (eU ps).length with h|h
 ·exact h
 ·exfalso
  apply hne
  have sub2:∀r∈eU ps,r∈ps:=λr hr'=>by
   by_cases hm:r∈ps
   ·exact hm
   ·exfalso
    have nd2:(r::ps).Nodup:=jv.mpr ⟨hm,nd⟩;have:=nd2.length_le_of_subset (l₂:=eU ps) λx hx=>by
     rcases bh.mp hx with rfl|hx
     ·exact hr'
     ·exact sub x hx
    simp at this;omega
  exact DJ Dh (vH ps) hr λr=>⟨sub2 r,sub r⟩
theorem OQ {n:Nat}(hn:n<=6):∀(f:Nat) (ps:y'),fT eX ps->nQ n ps->36<f+ps.length->∃cs,vG f ps=some cs/\fT eX cs/\nQ n cs/\Tr cs/\(∀p∈ps,p∈cs)/\∀R:Int->Int->Prop,(∀a b c,R a b->R b c->R a c)->(∀p∈ps,R p.1 p.2)->∀p∈cs,R p.1 p.2
 |0,ps,hr,hi,h=>by have h1:=vF hr hi;have h2:n*n<=6*6:=my hn hn;omega
 |f+1,ps,hr,hi,h=>by
  unfold vG
  split
  ·rename_i e;exact⟨ps,rfl,hr,hi,(z36 hr).mp e,λp hp=>hp,λR _ h=>h⟩
  ·rename_i e;have:=z37 hr e;obtain⟨cs,h1,h2,h3,h4,h5,h6⟩:=OQ hn f (eU ps) (vH ps) (E7 hi) (by omega);refine⟨cs,h1,h2,h3,h4,λp hp=>h5 p (step_mem.mpr (.inl hp)),λR ht hR=>h6 R ht λr hr'=>?_⟩
   rcases step_mem.mp hr' with hr'|⟨p,hp,q,hq,e,rfl⟩
   ·exact hR r hr'
   ·refine ht _ p.2 _ (hR p hp) ?_;rw[e];exact hR q hq
theorem zZ {α:Type}{f:α->Dv}{H:Hs}{i k:Nat}{xs:List α}(e:getL H i=some (xs.map f)) (hk:k<xs.length):(bR i xs.length).get k H=some (f xs[k]):=by simp[bR,e,hk]
theorem AA {α:Type}{f:α->Dv}{H:Hs}{i:Nat}{xs:List α}(e:getL H i=some (xs.map f)):(bR i xs.length).fin H=true:=by simp[bR,e]
theorem OR:∀ps:y',bU rR (ps.map aG)=some (ps.map jT)
 | []=>rfl
 |p::ps=>by rw[da,bU,OR ps];rfl
theorem z38 (ps:y'):yI (ps.map jT)=true:=by simp[yI,jT]
theorem z39 (ps:y'):(ps.map jT).map yH=ps.map aG:=by rw[jg];rfl
section
variable{H:Hs}{ps:y'}{d:Dv}
theorem OS (h:pQ d H=some (ps.map jT)) (hl:(eR eX ps).length<64):mF d H=.ok (.ref H.length) (H++[.lst ((eR eX ps).map aG)]):=by unfold mF;rw[h];dsimp only;rw[L9 uL,ba,if_pos (by rw[z38];simpa using hl),z39]
theorem z3a {i j:Nat}{ps qs:y'}(ei:getL H i=some (ps.map aG)) (ej:getL H j=some (qs.map aG)):cA (.ref i) (.ref j) H=.ok (.bl (decide (ps=qs))) H:=by
 have p:∀(i:Nat) (ps:y'),getL H i=some (ps.map aG)->bQ cH H (.ref i)=some (.lst (ps.map kF)):=λi ps e=>by show bQ (27+2+1) H (.ref i)=_;rw[bQ];simp only[e,DE]
 have dq:∀ps qs:y',fI (ps.map kF) (qs.map kF)=decide (ps=qs):=λps=>by
  induction ps with
  |nil=>intro qs;cases qs <;> simp[fI]
  |cons p ps ih=>
   intro qs
   cases qs with
   |nil=>simp[fI]
   |cons q qs=>simp only[da,fI,LQ,ih];rw[dm];simp
 unfold cA;rw[p i ps ei,p j qs ej];simp only[bK,dq]
def sG:M Aw :=bC (aX bG (aA 1)) [none,none,some 3,some 4] (cM 2 (bA (aD 0) (bA (aD 1) cP))) (mB (m2 cA (aA 3) (aA 0))) (aY (aL (aB (aA 2) (aB (aA 1) aC))))
def sH:MS:=aH (aJ (aF (f1 kY) (aB (aA 1) aC)) (aD 2)) (aH (cX (aX bG (aA 1)) (cM 2 (bA (aD 3) (bA (aD 4) cP))) (cT (pI (aA 2) sG))) (aH (aJ (aF (f1 mF) (aB (aA 2) aC)) (aD 2)) (aH (bX (mB (m2 cA (aA 2) (aA 1))) (aN (aA 1)) cO) (aJ (aA 2) (aD 1)))))
theorem z3b:jL=aH (aJ (aF (f1 mF) (aB (aA 0) aC)) (aD 1)) (jE (cB (mC (.bl true))) sH 40):=rfl
theorem z3c {x0 x2:Ax}{i:Nat}{p:Int×Int}(hl:ps.length<=1000) (e:getL H i=some (ps.map aG)):sG [x0,some (.ref i),x2,some (.int p.1),some (.int p.2)] H=.ok ((eY ps p).map aG) H:=by
 have hi:aX bG (aA 1) [x0,some (.ref i),x2,some (.int p.1),some (.int p.2)] H=.ok (bR i ps.length) H:=by simp[aX,aA,bG,e]
 have h:sG [x0,some (.ref i),x2,some (.int p.1),some (.int p.2)] H=.ok (ps.filterMap λq=>if p.2=q.1 then some (aG (p.1,q.2))else none) H:=
  gJ ps (λq=>if p.2=q.1 then some (aG (p.1,q.2))else none) (λρ=>∃a b,ρ=[a,b,some (.int p.1),some (.int p.2)]) hi rfl ⟨_,_,rfl⟩ (by simp[bR,e]) (λk hk ρ ⟨a,b,er⟩=>by
   subst er;refine⟨aG ps[k],[some (.int ps[k].1),some (.int ps[k].2),some (.int p.1),some (.int p.2)],by simp[bR,e,hk],rfl,⟨_,_,rfl⟩, ?_⟩;have te:mB (m2 cA (aA 3) (aA 0)) [some (.int ps[k].1),some (.int ps[k].2),some (.int p.1),some (.int p.2)] H=.ok (decide (p.2=ps[k].1)) H:=by simp[mB,m2,aA,cA,cH,bQ,bK,eI];rw[dm];simp
   by_cases c:p.2=ps[k].1
   ·rw[if_pos c];rw[decide_eq_true c]at te;exact⟨te,rfl⟩
   ·rw[if_neg c];rw[decide_eq_false c]at te;exact te) (by omega)
 rw[h]
 congr 1
 unfold eY;rw[jg];have:∀l:y',l.filterMap (λq=>if p.2=q.1 then some (aG (p.1,q.2))else none)=(l.filter λq=>decide (p.2=q.1)).map (aG∘λq=>(p.1,q.2)):=λl=>by
  induction l with
  |nil=>rfl
  |cons q l ih=>
   rw[br,jl,ih]
   by_cases c:p.2=q.1 <;> simp[c]
 exact this ps
theorem OT (ps:y') (p:Int×Int):(eY ps p).length<=ps.length:=by unfold eY;rw[ba];exact lx _ _
theorem OU (ps:y'):∀l:y',(l.flatMap (eY ps)).length<=l.length*ps.length
 | []=>by simp
 |p::l=>by have h1:=OT ps p;have h2:=OU ps l;rw[iz,bw,cy,uj];omega
theorem z3d {x0 x3 x4:Ax}{i j:Nat}(Cu:i≠j) (hl:ps.length<=40) (ei:getL H i=some (ps.map aG)) (ej:getL H j=some (ps.map aG)):
  ∃y3 y4,cX (aX bG (aA 1)) (cM 2 (bA (aD 3) (bA (aD 4) cP))) (cT (pI (aA 2) sG)) [x0,some (.ref i),some (.ref j),x3,x4] H=.nx [x0,some (.ref i),some (.ref j),y3,y4] (H.set j (.lst ((ps++ps.flatMap (eY ps)).map aG))):=by
 have hi:aX bG (aA 1) [x0,some (.ref i),some (.ref j),x3,x4] H=.ok (bR i ps.length) H:=by simp[aX,aA,bG,ei]
 have self:H.set j (.lst (ps.map aG))=H:=by
  apply oq
  intro k
  by_cases hk:j=k
  ·subst hk;rw[dg (lZ ej),cU ej]
  ·rw[dw hk]
 obtain⟨ρ',H',h1,y3,y4,h2,h3⟩:=mD (b:=cT (pI (aA 2) sG)) (sg:=cM 2 (bA (aD 3) (bA (aD 4) cP))) hi (λk ρ H'=>∃(y3 y4:Ax),ρ=[x0,some (.ref i),some (.ref j),y3,y4]/\H'=H.set j (.lst ((ps++(ps.take k).flatMap (eY ps)).map aG)))
  (λk ρ H' hk ⟨y3,y4,e1,e2⟩=>by
   subst e1;subst e2;have Ct:k<ps.length:=hk;have ei':getL (H.set j (.lst ((ps++(ps.take k).flatMap (eY ps)).map aG))) i=some (ps.map aG):=by rw[uF (dh Cu)];exact ei
   have ej':getL (H.set j (.lst ((ps++(ps.take k).flatMap (eY ps)).map aG))) j=some ((ps++(ps.take k).flatMap (eY ps)).map aG):=lY ej;have hlen:(ps++(ps.take k).flatMap (eY ps)).length<=40+40*40:=by have h1:=OU ps (ps.take k);have h2:(ps.take k).length*ps.length<=40*40:=my (by rw[ji];omega) hl;rw[bw];omega
   have hf:=OT ps ps[k];refine⟨aG ps[k],[x0,some (.ref i),some (.ref j),some (.int ps[k].1),some (.int ps[k].2)],[x0,some (.ref i),some (.ref j),some (.int ps[k].1),some (.int ps[k].2)],_,zZ ei' Ct,rfl, ?_,_,_,rfl,rfl⟩;have hc:=z3c (x0:=x0) (x2:=some (.ref j)) (p:=ps[k]) (by omega) ei';generalize hG:H.set j (.lst ((ps++(ps.take k).flatMap (eY ps)).map aG))=G at ei' ej' hc;have isJ:iJ (.ref j) G=true:=by simp[iJ,ej']
   have hz:((ps++(ps.take k).flatMap (eY ps)).map aG).length+((eY ps ps[k]).map aG).length<=1000000:=by rw[ba,ba];omega
   have hx:xM (.ref j) ((eY ps ps[k]).map aG) G=.ok .non (G.set j (.lst ((ps++(ps.take (k+1)).flatMap (eY ps)).map aG))):=by unfold xM;simp only[ej',lim,hz,if_true];rw[wj Ct,An,<-gr];simp[oj]
   have:pI (aA 2) sG [x0,some (.ref i),some (.ref j),some (.int ps[k].1),some (.int ps[k].2)] G=.ok .non (G.set j (.lst ((ps++(ps.take (k+1)).flatMap (eY ps)).map aG))):=by unfold pI;show(Rs.ok (Dv.ref j) G).bind _=_;rw[Rs.bind_ok,if_pos isJ,hc,Rs.bind_ok,hx]
   unfold cT;rw[this,<-hG,List.set_set];rfl)
  (λρ H' ⟨_,_,_,e2⟩=>by
   subst e2;have ei':getL (H.set j (.lst ((ps++(ps.take (bR i ps.length).n).flatMap (eY ps)).map aG))) i=some (ps.map aG):=by rw[uF (dh Cu)];exact ei
   exact AA ei') ⟨x3,x4,rfl,by simp[self]⟩
 refine⟨y3,y4, ?_⟩;rw[h1,h2,h3];simp[bR]
end
section
variable{H:Hs}{ps:y'}
theorem OV {i:Nat}(e:getL H i=some (ps.map aG)):pQ (.ref i) H=some (ps.map jT):=by simp only[pQ,e,OR]
theorem E8 {x0 x2 x3 x4:Ax}{i:Nat}(hl:ps.length<=40) (hs:(eU ps).length<64) (e:getL H i=some (ps.map aG)):
  ∃H',Fr [] H H'/\getL H' i=some (ps.map aG)/\if eU ps=ps then sH [x0,some (.ref i),x2,x3,x4] H=.rt (.ref i) H' else ∃(j:Nat) (y2 y3 y4:Ax),sH [x0,some (.ref i),x2,x3,x4] H=.nx [x0,some (.ref j),y2,y3,y4] H'/\getL H' j=some ((eU ps).map aG):=by
 have li:=lZ e;have w0:aJ (aF (f1 kY) (aB (aA 1) aC)) (aD 2) [x0,some (.ref i),x2,x3,x4] H=.nx [x0,some (.ref i),some (.ref H.length),x3,x4] (H++[.lst (ps.map aG)]):=by simp[aJ,aF,f1,kY,gC,rA,fY,aB,aA,aC,e,aD]
 have ei:=iK (l:=[Ob.lst (ps.map aG)]) e;have ej:getL (H++[Ob.lst (ps.map aG)]) H.length=some (ps.map aG):=by simp[getL]
 have f0:Fr [] H (H++[Ob.lst (ps.map aG)]):=Fr.app;generalize H++[Ob.lst (ps.map aG)]=H0 at w0 ei ej f0;obtain⟨y3,y4,w1⟩:=z3d (x0:=x0) (x3:=x3) (x4:=x4) (i:=i) (j:=H.length) (by omega) hl ei ej;have ei1:getL (H0.set H.length (.lst ((ps++ps.flatMap (eY ps)).map aG))) i=some (ps.map aG):=by rw[uF (by omega)];exact ei
 have ej1:getL (H0.set H.length (.lst ((ps++ps.flatMap (eY ps)).map aG))) H.length=some ((ps++ps.flatMap (eY ps)).map aG):=lY ej;have f1':Fr [] H (H0.set H.length (.lst ((ps++ps.flatMap (eY ps)).map aG))):=f0.trans (T:=[H.length]) Fr.set (by simp);generalize H0.set H.length (.lst ((ps++ps.flatMap (eY ps)).map aG))=H1 at w1 ei1 ej1 f1';have w2:aJ (aF (f1 mF) (aB (aA 2) aC)) (aD 2) [x0,some (.ref i),some (.ref H.length),y3,y4] H1=.nx [x0,some (.ref i),some (.ref H1.length),y3,y4] (H1++[.lst ((eU ps).map aG)]):=by have hq:=OS (OV ej1) hs;simp[aJ,aF,f1,aB,aA,aC,hq,aD,eU]
 have ei2:=iK (l:=[Ob.lst ((eU ps).map aG)]) ei1;have ej2:getL (H1++[Ob.lst ((eU ps).map aG)]) H1.length=some ((eU ps).map aG):=by simp[getL]
 have f2:Fr [] H (H1++[Ob.lst ((eU ps).map aG)]):=f1'.trans (T:=[]) Fr.app (by simp);generalize hH2:H1++[Ob.lst ((eU ps).map aG)]=H2 at w2 ei2 ej2 f2;have t:mB (m2 cA (aA 2) (aA 1)) [x0,some (.ref i),some (.ref H1.length),y3,y4] H2=.ok (decide (eU ps=ps)) H2:=by simp[mB,m2,aA,z3a ej2 ei2,eI]
 refine⟨H2,f2,ei2, ?_⟩
 by_cases c:eU ps=ps
 ·rw[if_pos c];unfold sH;rw[bP w0,bP w1,bP w2];unfold aH;rw[DD (t.trans (by rw[decide_eq_true c]))];rfl
 ·rw[if_neg c];refine⟨H1.length,some (.ref H1.length),y3,y4, ?_,ej2⟩;unfold sH;rw[bP w0,bP w1,bP w2,bP (ρ1:=[x0,some (.ref i),some (.ref H1.length),y3,y4]) (h1:=H2) (by rw[rP (t.trans (by rw[decide_eq_false c]))];rfl)];rfl
theorem OW {n:Nat}(hn:n<=6) {cs:y'}:∀(f:Nat) (ps:y') (H:Hs) (i:Nat) (x0 x2 x3 x4:Ax),fT eX ps->nQ n ps->vG f ps=some cs->getL H i=some (ps.map aG)->
  ∃(j:Nat) (H':Hs),jE (cB (mC (.bl true))) sH f [x0,some (.ref i),x2,x3,x4] H=.rt (.ref j) H'/\getL H' j=some (cs.map aG)/\Fr [] H H'
 |0,ps,H,i,x0,x2,x3,x4,hr,hi,h,e=>by cases h
 |f+1,ps,H,i,x0,x2,x3,x4,hr,hi,h,e=>by
  have sq:n*n<=6*6:=my hn hn;have l1:=vF hr hi;have l2:=vF (vH ps) (E7 hi);obtain⟨H1,f1,e1,c1⟩:=E8 (x0:=x0) (x2:=x2) (x3:=x3) (x4:=x4) (by omega) (by omega) e;have tt:cB (mC (.bl true)) [x0,some (.ref i),x2,x3,x4] H=.ok true H:=rfl;unfold vG at h
  split at h
  ·rename_i c;cases h;rw[if_pos c]at c1;exact⟨i,H1,z2m tt c1,e1,f1⟩
  ·rename_i c;rw[if_neg c]at c1;obtain⟨j,y2,y3,y4,c2,ej⟩:=c1;obtain⟨k,H2,w,ek,f2⟩:=OW hn f (eU ps) H1 j x0 y2 y3 y4 (vH ps) (E7 hi) h ej;exact⟨k,H2,by rw[OM tt c2];exact w,ek,f1.trans f2 (by simp)⟩
def OX (n:Nat) (ps cs:y'):Prop:=fT eX cs/\nQ n cs/\Tr cs/\(∀p∈ps,p∈cs)/\∀R:Int->Int->Prop,(∀a b c,R a b->R b c->R a c)->(∀p∈ps,R p.1 p.2)->∀p∈cs,R p.1 p.2
theorem z3e {n:Nat}{d:Dv}(hn:n<=6) (hi:nQ n ps) (h:pQ d H=some (ps.map jT)):∃(cs:y') (j:Nat) (H':Hs),OX n ps cs/\F_qg [d] H=.ok (.ref j) H'/\getL H' j=some (cs.map aG)/\Fr [] H H':=by
 have hs:nQ n (eR eX ps):=λp hp=>hi p ((nK Dh p ps).mp hp);have hr:=uJ Dh ps;have sq:n*n<=6*6:=my hn hn;have l1:=vF hr hs;obtain⟨cs,c1,c2,c3,c4,c5,c6⟩:=OQ hn 40 _ hr hs (by omega);have w0:aJ (aF (f1 mF) (aB (aA 0) aC)) (aD 1) [some d,none,none,none,none] H=.nx [some d,some (.ref H.length),none,none,none] (H++[.lst ((eR eX ps).map aG)]):=by have hq:=OS h (by omega);simp[aJ,aF,f1,aB,aA,aC,hq,aD]
 obtain⟨j,H',w1,ej,f1'⟩:=OW hn 40 (eR eX ps) (H++[.lst ((eR eX ps).map aG)]) H.length (some d) none none none hr hs c1 (by simp[getL]);refine⟨cs,j,H',⟨c2,c3,c4,λp hp=>c5 p ((nK Dh p ps).mpr hp),λR ht hR=>c6 R ht λp hp=>hR p ((nK Dh p ps).mp hp)⟩, ?_,ej,(Fr.app (S:=[]) (l:=[.lst ((eR eX ps).map aG)])).trans f1' (by simp)⟩;show bH (jL [some d,none,none,none,none] H)=_;rw[z3b,bP w0,w1];rfl
end
theorem pY {H:Hs}{i k:Nat}{xs:Aq}(e:getL H i=some (xs.map Dv.int)) (hk:k<xs.length):aR (.ref i) (.int (k:Int)) H=.ok (.int xs[k]) H:=by
 have h1:gE (xs.map Dv.int).length (k:Int)=some k:=by unfold gE;rw[ba,if_pos (by omega),if_pos (by omega)];simp
 have h2:iF (xs.map Dv.int) (k:Int)=some (.int xs[k]):=by unfold iF;rw[h1];simp[hk]
 simp only[aR,gC,gY,e,kS,h2,if_true]
theorem eq_int (x y:Int) (H:Hs):cA (.int x) (.int y) H=.ok (.bl (x==y)) H:=by simp[cA,cH,bQ,bK]
theorem E9:∀{ys:Aq},ys.Nodup->∀i (h:i<ys.length),fO ys[i] ys=some i
 | [],_,i,h=>by simp at h
 |y::ys,nd,0,h=>by simp[fO]
 |y::ys,nd,i+1,h=>by
  have h1:=jv.mp nd;have hi:i<ys.length:=by simpa using h
  have ne:y≠ys[i]:=λz=>h1.1 (by rw[z];exact de hi);simp[fO,ne,E9 h1.2 i hi]
def AB (n:Nat) (ps:y'):Prop:=nQ n ps/\∃f:Int->Int,∀p∈ps,f p.1<f p.2
theorem z3f {n:Nat}{ps cs:y'}(n1:1<=n) (n6:n<=6) (g:AB n ps) (c:OX n ps cs):Be n cs:=by obtain⟨h1,h2,h3,h4,h5⟩:=c;obtain⟨_,f,hf⟩:=g;refine⟨n1,n6,h2,h1,λp hp e=>?_,h3⟩;have:=h5 (λa b=>f a<f b) (λa b c x y=>by omega) hf p hp;rw[e]at this;omega
section
variable{st ir ip im n:Nat}{ys ms:Aq}{w:Int}{d1:Dv}
def FA:MS:=aJ (aV (aB (m2 cA (aF F_qu (aB (aA 0) (aB (mC (.int 6)) aC))) (mC (.int 0))) (aB (m2 cA (aF F_qu (aB (aA 0) (aB (mC (.int 2)) aC))) (mC (.int 0))) (aB (m2 kE (aF F_qu (aB (aA 0) (aB (mC (.int 4)) aC))) (mC (.int 0))) aC)))) (aD 9)
def FC:MS:=aJ (m2 bF (aA 9) (aV (aB (m2 iA (m2 aR (aA 6) (aA 7)) (m2 aR (aA 6) (aA 8))) (aB (m2 cA (m2 aR (aA 6) (aA 7)) (m2 aR (aA 6) (aA 8))) aC)))) (aD 9)
def oB:MS:=aH FA (aH FC (bX (cB (m2 aR (aA 9) (aA 4))) (cT (eO (aA 5) (aL (aB (m2 aR (aA 3) (aA 7)) (aB (m2 aR (aA 3) (aA 8)) aC))))) cO))
structure Std (st ir im:Nat) (ys ms:Aq) (H:Hs):Prop where
 s:St st H
 r:getL H ir=some (ys.map Dv.int)
 m:getL H im=some (ms.map Dv.int)
theorem Std.fr {H H':Hs}{S:As}(h:Std st ir im ys ms H) (f:Fr S H H') (s':St st H') (h1:ir∉S) (h2:im∉S):Std st ir im ys ms H':=⟨s',f.getL h.r h1,f.getL h.m h2⟩
theorem mJ {H:Hs}{x9:Ax}{ps:y'}{i j:Nat}(D:Std st ir im ys ms H) (ep:getL H ip=some (ps.map aG)) (hw:0<=w/\w<5) (hi:i<n) (hj:j<n) (hy:ys.length=n) (hm:ms.length=n) (hl:ps.length<=1000)
  (h1:ir≠st) (h2:im≠st) (h3:ip≠st) (h4:ir≠ip) (h5:im≠ip):
  ∃(Dz:Ax) (H':Hs) (Bv:y'),oB [some (.ref st),some d1,some (.int n),some (.ref ir),some (.int w),some (.ref ip),some (.ref im),some (.int i),some (.int j),x9] H=.nx [some (.ref st),some d1,some (.int n),some (.ref ir),some (.int w),some (.ref ip),some (.ref im),some (.int i),some (.int j),Dz] H'/\getL H' ip=some (Bv.map aG)/\(Bv=ps∨Bv=ps++[(ys.getD i 0,ys.getD j 0)])/\Std st ir im ys ms H'/\Fr [st,ip] H H':=by
 obtain⟨r0,H0,_,_,t0,f0,s0⟩:=oP 6 D.s;obtain⟨r1,H1,_,_,t1,f1,s1⟩:=oP 2 s0;obtain⟨r2,H2,_,_,t2,f2,s2⟩:=oP 4 s1;have f02:Fr [st] H H2:=(f0.trans f1 (by simp)).trans f2 (by simp);have D2:=D.fr f02 s2 (by simpa using h1) (by simpa using h2);have ep2:=f02.getL ep (by simpa using h3);have w1:FA [some (.ref st),some d1,some (.int n),some (.ref ir),some (.int w),some (.ref ip),some (.ref im),some (.int i),some (.int j),x9] H=.nx [some (.ref st),some d1,some (.int n),some (.ref ir),some (.int w),some (.ref ip),some (.ref im),some (.int i),some (.int j),some (.ref H2.length)] (H2++[.lst [.bl (r0==0),.bl (r1==0),.bl (decide (r2>0))]]):=by simp[FA,aJ,aV,aB,m2,aF,aA,mC,aC,t0,t1,t2,eq_int,kE,jB,lim,aD]
 have fA:Fr [] H2 (H2++[.lst [.bl (r0==0),.bl (r1==0),.bl (decide (r2>0))]]):=Fr.app;have eA:getL (H2++[.lst [.bl (r0==0),.bl (r1==0),.bl (decide (r2>0))]]) H2.length=some [.bl (r0==0),.bl (r1==0),.bl (decide (r2>0))]:=by simp[getL]
 have DA:=D2.fr fA (s2.fr fA (by simp)) (by simp) (by simp);have epA:=fA.getL ep2 (by simp);have fHA:Fr [st] H (H2++[.lst [.bl (r0==0),.bl (r1==0),.bl (decide (r2>0))]]):=f02.trans fA (by simp);generalize H2++[Ob.lst [.bl (r0==0),.bl (r1==0),.bl (decide (r2>0))]]=HA at w1 fA eA DA epA fHA;have hmi:=pY DA.m (k:=i) (by omega);have hmj:=pY DA.m (k:=j) (by omega);have eA':=iK (l:=[Ob.lst [.bl (decide (ms[i]<ms[j])),.bl (ms[i]==ms[j])]]) eA;have eB:getL (HA++[Ob.lst [.bl (decide (ms[i]<ms[j])),.bl (ms[i]==ms[j])]]) HA.length=some [.bl (decide (ms[i]<ms[j])),.bl (ms[i]==ms[j])]:=by simp[getL]
 have w2:FC [some (.ref st),some d1,some (.int n),some (.ref ir),some (.int w),some (.ref ip),some (.ref im),some (.int i),some (.int j),some (.ref H2.length)] HA=.nx [some (.ref st),some d1,some (.int n),some (.ref ir),some (.int w),some (.ref ip),some (.ref im),some (.int i),some (.int j),some (.ref (HA.length+1))] (HA++[.lst [.bl (decide (ms[i]<ms[j])),.bl (ms[i]==ms[j])]]++[.lst [.bl (r0==0),.bl (r1==0),.bl (decide (r2>0)),.bl (decide (ms[i]<ms[j])),.bl (ms[i]==ms[j])]]):=by simp[FC,aJ,m2,aV,aB,aA,hmi,hmj,iA,eq_int,aC,lim,bF,jZ,eA',eB,aD]
 have fB:Fr [] HA (HA++[.lst [.bl (decide (ms[i]<ms[j])),.bl (ms[i]==ms[j])]]++[.lst [.bl (r0==0),.bl (r1==0),.bl (decide (r2>0)),.bl (decide (ms[i]<ms[j])),.bl (ms[i]==ms[j])]]):=Fr.trans (T:=[]) Fr.app Fr.app (by simp);have eN:getL (HA++[.lst [.bl (decide (ms[i]<ms[j])),.bl (ms[i]==ms[j])]]++[.lst [.bl (r0==0),.bl (r1==0),.bl (decide (r2>0)),.bl (decide (ms[i]<ms[j])),.bl (ms[i]==ms[j])]]) (HA.length+1)=some [.bl (r0==0),.bl (r1==0),.bl (decide (r2>0)),.bl (decide (ms[i]<ms[j])),.bl (ms[i]==ms[j])]:=by simp[getL]
 have DB:=DA.fr fB (DA.s.fr fB (by simp)) (by simp) (by simp);have epB:=fB.getL epA (by simp);have fHB:=fHA.trans fB (by simp);generalize HA++[Ob.lst [.bl (decide (ms[i]<ms[j])),.bl (ms[i]==ms[j])]]++[Ob.lst [.bl (r0==0),.bl (r1==0),.bl (decide (r2>0)),.bl (decide (ms[i]<ms[j])),.bl (ms[i]==ms[j])]]=HB at w2 fB eN DB epB fHB;have near:∃b,aR (.ref (HA.length+1)) (.int w) HB=.ok (.bl b) HB:=by
  have hw':w=0∨w=1∨w=2∨w=3∨w=4:=by omega
  rcases hw' with rfl|rfl|rfl|rfl|rfl
  ·exact⟨_,by simp only[aR,gC,gY,eN];rfl⟩
  ·exact⟨_,by simp only[aR,gC,gY,eN];rfl⟩
  ·exact⟨_,by simp only[aR,gC,gY,eN];rfl⟩
  ·exact⟨_,by simp only[aR,gC,gY,eN];rfl⟩
  ·exact⟨_,by simp only[aR,gC,gY,eN];rfl⟩
 obtain⟨b,hb⟩:=near;have t:cB (m2 aR (aA 9) (aA 4)) [some (.ref st),some d1,some (.int n),some (.ref ir),some (.int w),some (.ref ip),some (.ref im),some (.int i),some (.int j),some (.ref (HA.length+1))] HB=.ok b HB:=by simp[cB,m2,aA,hb,gF]
 cases b with
 |false=>refine⟨some (.ref (HA.length+1)),HB,ps, ?_,epB,.inl rfl,DB,fHB.mono (by simp)⟩;unfold oB;rw[bP w1,bP w2,rP t];rfl
 |true=>
  have hyi:=pY DB.r (k:=i) (by omega);have hyj:=pY DB.r (k:=j) (by omega);have gi:ys[i]=ys.getD i 0:=by simp[show i<ys.length by omega]
  have gj:ys[j]=ys.getD j 0:=by simp[show j<ys.length by omega]
  rw[gi]at hyi;rw[gj]at hyj;generalize ys.getD i 0=va at hyi ⊢;generalize ys.getD j 0=vb at hyj ⊢;have hz:(ps.map aG).length<1000000:=by rw[ba];omega
  have fC:Fr [ip] HB (HB.set ip (.lst ((ps++[(va,vb)]).map aG))):=Fr.set;refine⟨some (.ref (HA.length+1)),HB.set ip (.lst ((ps++[(va,vb)]).map aG)),ps++[(va,vb)], ?_,lY epB,.inr rfl,DB.fr fC (DB.s.fr fC (by simpa using dh h3)) (by simpa using h4) (by simpa using h5),(fHB.mono (T:=[st,ip]) (by simp)).trans fC (by simp)⟩;unfold oB;rw[bP w1,bP w2,DD t];have isP':iJ (.ref ip) HB=true:=by simp[iJ,epB]
  have happ:lS (.ref ip) (.tup [.int (va),.int (vb)]) HB=.ok .non (HB.set ip (.lst ((ps++[(va,vb)]).map aG))):=by simp only[lS,epB,hz,if_true,gr];rfl
  simp[cT,eO,aA,isP',aL,aB,m2,hyi,hyj,aC,lim,happ]
end
theorem FD {m:Int}(h0:0<=m) (h:m<=100):gA m=true:=by
 have h1:(-4611686018427387904:Int)<=m:=by omega
 have h2:m<4611686018427387904:=by omega
 unfold gA;rw[decide_eq_true h1,decide_eq_true h2];rfl
theorem AD {H:Hs}{j:Int}(h0:0<=j) (h1:j<=100):bY [.int j] H=.ok (cG 0 j) H:=by simp only[bY,FD h0 h1,if_true]
theorem OY {H:Hs}{i j:Int}(h0:0<=i) (h1:i<=100) (h2:0<=j) (h3:j<=100):gM [.int i,.int j] H=.ok (cG i j) H:=by simp only[gM,FD h0 h1,FD h2 h3,and_self,if_true]
def sJ (ys:Aq) (n:Nat) (ps:y'):Prop:=∀p∈ps,∃i j,i<j/\j<n/\p=(ys.getD i 0,ys.getD j 0)
section
variable{st ir ip im n:Nat}{ys ms:Aq}{w:Int}{d1:Dv}
abbrev cK (st ir ip im n:Nat) (w:Int) (d1:Dv) (x7 x8 x9:Ax):Ev:=[some (.ref st),some d1,some (.int n),some (.ref ir),some (.int w),some (.ref ip),some (.ref im),x7,x8,x9]
def jV:MS:=cX (aO gM (aB (m2 bF (aA 7) (mC (.int 1))) (aB (aA 2) aC))) (aD 8) oB
theorem mK {H:Hs}{x8 x9:Ax}{ps:y'}{i:Nat}(D:Std st ir im ys ms H) (ep:getL H ip=some (ps.map aG)) (hw:0<=w/\w<5) (hi:i<n) (hn:n<=6) (hy:ys.length=n) (hm:ms.length=n) (hl:ps.length<=500) (hb:sJ ys n ps)
  (h1:ir≠st) (h2:im≠st) (h3:ip≠st) (h4:ir≠ip) (h5:im≠ip):
  ∃(Ew Dz:Ax) (H':Hs) (Bv:y'),jV (cK st ir ip im n w d1 (some (.int i)) x8 x9) H=.nx (cK st ir ip im n w d1 (some (.int i)) Ew Dz) H'/\getL H' ip=some (Bv.map aG)/\sJ ys n Bv/\Bv.length<=ps.length+6/\Std st ir im ys ms H'/\Fr [st,ip] H H':=by
 have hi0:aO gM (aB (m2 bF (aA 7) (mC (.int 1))) (aB (aA 2) aC)) (cK st ir ip im n w d1 (some (.int i)) x8 x9) H=.ok (cG ((i:Int)+1) n) H:=by have q:aB (m2 bF (aA 7) (mC (.int 1))) (aB (aA 2) aC) (cK st ir ip im n w d1 (some (.int i)) x8 x9) H=.ok [.int ((i:Int)+1),.int n] H:=rfl;unfold aO;rw[q,Rs.bind_ok];exact OY (by omega) (by omega) (by omega) (by omega)
 have hN:(cG ((i:Int)+1) (n:Int)).n=n - (i+1):=by show((n:Int) - ((i:Int)+1)).toNat=_;omega
 obtain⟨ρ',H',r1,Ew,Dz,Bv,e1,e2,e3,e4,e5,e6⟩:=mD (b:=oB) (sg:=aD 8) hi0 (λk ρ H'=>∃(Ew Dz:Ax) (Bv:y'),ρ=cK st ir ip im n w d1 (some (.int i)) Ew Dz/\getL H' ip=some (Bv.map aG)/\sJ ys n Bv/\Bv.length<=ps.length+k/\Std st ir im ys ms H'/\Fr [st,ip] H H')
  (λk ρ H' hk ⟨Ew,Dz,Bv,e1,e2,e3,e4,e5,e6⟩=>by
   subst e1;rw[hN]at hk;have hj:i+1+k<n:=by omega
   obtain⟨x9n,H2,ps2,b1,b2,b3,b4,b5⟩:=mJ (x9:=Dz) (w:=w) (d1:=d1) (ip:=ip) (n:=n) (i:=i) (j:=i+1+k) e5 e2 hw hi hj hy hm (by omega) h1 h2 h3 h4 h5;have ej:(((i+1+k:Nat)):Int)=(i:Int)+1+(k:Int):=by omega
   rw[ej]at b1;refine⟨.int ((i:Int)+1+(k:Int)),cK st ir ip im n w d1 (some (.int i)) (some (.int ((i:Int)+1+(k:Int)))) Dz,_,H2,rfl,rfl,b1,_,_,ps2,rfl,b2, ?_, ?_,b4,e6.trans b5 λj hj=>.inl hj⟩
   ·rcases b3 with rfl|rfl
    ·exact e3
    ·intro p hp
     rcases cz.mp hp with hp|hp
     ·exact e3 p hp
     ·rw[bz.mp hp];exact⟨i,i+1+k,by omega,hj,rfl⟩
   ·rcases b3 with rfl|rfl
    ·omega
    ·rw[bw];simp;omega) (λ_ _ _=>rfl) ⟨x8,x9,ps,rfl,ep,hb,by omega,D,Fr.refl⟩
 rw[hN]at e4;exact⟨Ew,Dz,H',Bv,by unfold jV;rw[r1,e1],e2,e3,by omega,e5,e6⟩
def kH:MS:=cX (aO bY (aB (aA 2) aC)) (aD 7) jV
theorem mM {H:Hs}{x7 x8 x9:Ax}(D:Std st ir im ys ms H) (ep:getL H ip=some (([]:y').map aG)) (hw:0<=w/\w<5) (hn:n<=6) (hy:ys.length=n) (hm:ms.length=n)
  (h1:ir≠st) (h2:im≠st) (h3:ip≠st) (h4:ir≠ip) (h5:im≠ip):
  ∃(x7' Ew Dz:Ax) (H':Hs) (Bv:y'),kH (cK st ir ip im n w d1 x7 x8 x9) H=.nx (cK st ir ip im n w d1 x7' Ew Dz) H'/\getL H' ip=some (Bv.map aG)/\sJ ys n Bv/\Std st ir im ys ms H'/\Fr [st,ip] H H':=by
 have hi0:aO bY (aB (aA 2) aC) (cK st ir ip im n w d1 x7 x8 x9) H=.ok (cG 0 n) H:=by have q:aB (aA 2) aC (cK st ir ip im n w d1 x7 x8 x9) H=.ok [.int n] H:=rfl;unfold aO;rw[q,Rs.bind_ok];exact AD (by omega) (by omega)
 have hN:(cG 0 (n:Int)).n=n:=by simp[cG]
 obtain⟨ρ',H',r1,x7',Ew,Dz,Bv,e1,e2,e3,e4,e5,e6⟩:=mD (b:=jV) (sg:=aD 7) hi0 (λk ρ H'=>∃(x7' Ew Dz:Ax) (Bv:y'),ρ=cK st ir ip im n w d1 x7' Ew Dz/\getL H' ip=some (Bv.map aG)/\sJ ys n Bv/\Bv.length<=6*k/\Std st ir im ys ms H'/\Fr [st,ip] H H')
  (λk ρ H' hk ⟨x7',Ew,Dz,Bv,e1,e2,e3,e4,e5,e6⟩=>by
   subst e1;rw[hN]at hk;obtain⟨x8n,x9n,H2,ps2,b1,b2,b3,b4,b5,b6⟩:=mK (x8:=Ew) (x9:=Dz) (w:=w) (d1:=d1) (ip:=ip) (n:=n) (i:=k) e5 e2 hw hk hn hy hm (by omega) e3 h1 h2 h3 h4 h5;have ek:(0:Int)+(k:Int)=(k:Int):=by omega
   refine⟨.int (0+(k:Int)),cK st ir ip im n w d1 (some (.int k)) Ew Dz,_,H2,rfl,by rw[ek];rfl,b1,_,_,_,ps2,rfl,b2,b3,by omega,b5,e6.trans b6 λj hj=>.inl hj⟩) (λ_ _ _=>rfl) ⟨x7,x8,x9,[],rfl,ep,λp hp=>by simp at hp,by simp,D,Fr.refl⟩
 exact⟨x7',Ew,Dz,H',Bv,by unfold kH;rw[r1,e1],e2,e3,e5,e6⟩
theorem z3g (pm:ys.Perm (cE n)) {ps:y'}(h:sJ ys n ps):AB n ps:=by
 have hl:ys.length=n:=by rw[pm.length_eq];simp[cE]
 have nd:ys.Nodup:=by refine pm.nodup_iff.mpr ?_;unfold cE;simp only[fi];refine List.Pairwise.map _ ?_ (tu (n:=n));intro a b h e;exact h (by omega)
 have mem:∀i,i<n->0<=ys.getD i 0/\ys.getD i 0<n:=λi hi=>by have hm:ys.getD i 0∈cE n:=pm.mem_iff.mp (by simp[show i<ys.length by omega]);simp only[cE,cg,bx,fi]at hm;obtain⟨k,hk,e⟩:=hm;omega
 refine⟨λp hp=>?_,λa=>((fO a ys).getD 0:Nat),λp hp=>?_⟩
 ·obtain⟨i,j,Cu,hj,rfl⟩:=h p hp;exact⟨(mem i (by omega)).1,(mem i (by omega)).2,(mem j hj).1,(mem j hj).2⟩
 ·obtain⟨i,j,Cu,hj,rfl⟩:=h p hp;have hi':i<ys.length:=by omega
  have hj':j<ys.length:=by omega
  have e1:ys.getD i 0=ys[i]:=by simp[hi']
  have e2:ys.getD j 0=ys[j]:=by simp[hj']
  simp only[e1,e2,E9 nd i hi',E9 nd j hj',Option.getD_some];omega
def FE (ms:Aq) (n:Nat) (ps:y'):Prop:=∀p∈ps,∃i j:Nat,i<n/\j<n/\ms.getD i 0<ms.getD j 0/\p=((i:Int),(j:Int))
theorem z3h {ps:y'}(h:FE ms n ps):AB n ps:=by
 refine⟨λp hp=>?_,λa=>ms.getD a.toNat 0,λp hp=>?_⟩
 ·obtain⟨i,j,hi,hj,_,rfl⟩:=h p hp;exact⟨by simp,by simpa using hi,by simp,by simpa using hj⟩
 ·obtain⟨i,j,hi,hj,hlt,rfl⟩:=h p hp;simpa using hlt
def AE:M Aw :=bC (aO bY (aB (aA 2) aC)) [none,some 7,some 6] (aD 0) (mB (m2 iA (m2 aR (aA 2) (aA 1)) (m2 aR (aA 2) (aA 0)))) (aY (aL (aB (aA 1) (aB (aA 0) aC))))
def vI:MS:=aJ (m2 bF (aA 5) (aZ AE)) (aD 5)
def iC (ms:Aq) (n i:Nat):y':=(bf n).filterMap λj=>if ms.getD i 0<ms.getD j 0 then some ((i:Int),(j:Int))else none
theorem z3i {H:Hs}{x8 x9:Ax}{i:Nat}(em:getL H im=some (ms.map Dv.int)) (hi:i<n) (hn:n<=6) (hm:ms.length=n):
  AE (cK st ir ip im n w d1 (some (.int i)) x8 x9) H=.ok ((iC ms n i).map aG) H:=by
 have hi0:aO bY (aB (aA 2) aC) (cK st ir ip im n w d1 (some (.int i)) x8 x9) H=.ok (cG 0 n) H:=by have q:aB (aA 2) aC (cK st ir ip im n w d1 (some (.int i)) x8 x9) H=.ok [.int n] H:=rfl;unfold aO;rw[q,Rs.bind_ok];exact AD (by omega) (by omega)
 have h:AE (cK st ir ip im n w d1 (some (.int i)) x8 x9) H=.ok ((bf n).filterMap λj=>if ms.getD i 0<ms.getD j 0 then some (aG ((i:Int),(j:Int)))else none) H:=
  gJ (bf n) (λj=>if ms.getD i 0<ms.getD j 0 then some (aG ((i:Int),(j:Int)))else none) (λρ=>∃a,ρ=[a,some (.int i),some (.ref im)]) hi0 (by simp[cG]) ⟨_,rfl⟩ rfl (λk hk ρ ⟨a,er⟩=>by
   subst er;have Ct:k<n:=by simpa using hk
   have gk:(bf n)[k]=k:=by simp
   rw[gk];have ek:(0:Int)+(k:Int)=(k:Int):=by omega
   refine⟨.int (0+(k:Int)),[some (.int k),some (.int i),some (.ref im)],rfl,by rw[ek];rfl,⟨_,rfl⟩, ?_⟩;have x1:=pY em (k:=i) (by omega);have x2:=pY em (k:=k) (by omega);have g1:ms[i]=ms.getD i 0:=by simp[show i<ms.length by omega]
   have g2:ms[k]=ms.getD k 0:=by simp[show k<ms.length by omega]
   rw[g1]at x1;rw[g2]at x2;generalize ms.getD i 0=va at x1 ⊢;generalize ms.getD k 0=vb at x2 ⊢;have te:mB (m2 iA (m2 aR (aA 2) (aA 1)) (m2 aR (aA 2) (aA 0))) [some (.int k),some (.int i),some (.ref im)] H=.ok (decide (va<vb)) H:=by simp[mB,m2,aA,x1,x2,iA,eI]
   by_cases c:va<vb
   ·rw[if_pos c];rw[decide_eq_true c]at te;exact⟨te,rfl⟩
   ·rw[if_neg c];rw[decide_eq_false c]at te;exact te) (by simp;omega)
 have e:((bf n).filterMap λj=>if ms.getD i 0<ms.getD j 0 then some (aG ((i:Int),(j:Int)))else none)=(iC ms n i).map aG:=by
  unfold iC;rw[List.map_filterMap];refine NL _ λj _=>?_
  split <;> rfl
 rw[h,e]
theorem z3j {H:Hs}{ip0:Nat}{x7 x8 x9:Ax}(D:Std st ir im ys ms H) (ep:getL H ip0=some (([]:y').map aG)) (hn:n<=6) (hm:ms.length=n):
  ∃(Ez:Nat) (x7':Ax) (H':Hs) (Bv:y'),cX (aO bY (aB (aA 2) aC)) (aD 7) vI (cK st ir ip0 im n w d1 x7 x8 x9) H=.nx (cK st ir Ez im n w d1 x7' x8 x9) H'/\getL H' Ez=some (Bv.map aG)/\FE ms n Bv/\Fr [] H H':=by
 have hi0:aO bY (aB (aA 2) aC) (cK st ir ip0 im n w d1 x7 x8 x9) H=.ok (cG 0 n) H:=by have q:aB (aA 2) aC (cK st ir ip0 im n w d1 x7 x8 x9) H=.ok [.int n] H:=rfl;unfold aO;rw[q,Rs.bind_ok];exact AD (by omega) (by omega)
 have hN:(cG 0 (n:Int)).n=n:=by simp[cG]
 obtain⟨ρ',H',r1,Ez,x7',Bv,e1,e2,e3,e4,e5⟩:=mD (b:=vI) (sg:=aD 7) hi0 (λk ρ H'=>∃(Ez:Nat) (x7':Ax) (Bv:y'),ρ=cK st ir Ez im n w d1 x7' x8 x9/\getL H' Ez=some (Bv.map aG)/\FE ms n Bv/\Bv.length<=6*k/\Fr [] H H')
  (λk ρ H' hk ⟨Ez,x7',Bv,e1,e2,e3,e4,e5⟩=>by
   subst e1;rw[hN]at hk;have em:=e5.getL D.m (by simp);have hc:=z3i (st:=st) (ir:=ir) (ip:=Ez) (w:=w) (d1:=d1) (x8:=x8) (x9:=x9) em hk hn hm;have hrl:(iC ms n k).length<=6:=by have:=nj (λj=>if ms.getD k 0<ms.getD j 0 then some ((k:Int),(j:Int))else none) (bf n);unfold iC;rw[mf]at this;omega
   have ek:(0:Int)+(k:Int)=(k:Int):=by omega
   have ep1:=iK (l:=[Ob.lst ((iC ms n k).map aG)]) e2;have eq1:getL (H'++[Ob.lst ((iC ms n k).map aG)]) H'.length=some ((iC ms n k).map aG):=by simp[getL]
   have hz:(Bv.map aG).length+((iC ms n k).map aG).length<=1000000:=by rw[ba,ba];omega
   have hb:vI (cK st ir Ez im n w d1 (some (.int k)) x8 x9) H'=.nx (cK st ir (H'.length+1) im n w d1 (some (.int k)) x8 x9) (H'++[Ob.lst ((iC ms n k).map aG)]++[Ob.lst ((Bv++iC ms n k).map aG)]):=by
    have ha:bF (.ref Ez) (.ref H'.length) (H'++[Ob.lst ((iC ms n k).map aG)])=.ok (.ref (H'.length+1)) (H'++[Ob.lst ((iC ms n k).map aG)]++[Ob.lst ((Bv++iC ms n k).map aG)]):=by show jZ (.ref Ez) (.ref H'.length) (H'++[Ob.lst ((iC ms n k).map aG)])=_;simp only[jZ,ep1,eq1,lim,hz,if_true];simp
    have hal:aZ AE (cK st ir Ez im n w d1 (some (.int k)) x8 x9) H'=.ok (.ref H'.length) (H'++[Ob.lst ((iC ms n k).map aG)]):=by unfold aZ;rw[hc];rfl
    unfold vI aJ m2;show((Rs.ok (Dv.ref Ez) H').bind _).thenS _=_;rw[Rs.bind_ok,hal,Rs.bind_ok,ha];rfl
   refine⟨.int (0+(k:Int)),cK st ir Ez im n w d1 (some (.int k)) x8 x9,_,_,rfl,by rw[ek];rfl,hb,H'.length+1,_,Bv++iC ms n k,rfl,by simp[getL], ?_,by rw[bw];omega,e5.trans (Fr.trans (T:=[]) (Fr.app (S:=[])) Fr.app (by simp)) (by simp)⟩;intro p hp
   rcases cz.mp hp with hp|hp
   ·exact e3 p hp
   ·unfold iC at hp;obtain⟨j,hj,e⟩:=jz.mp hp
    split at e
    ·rename_i c;cases e;exact⟨k,j,hk,bx.mp hj,c,rfl⟩
    ·cases e) (λ_ _ _=>rfl) ⟨ip0,x7,[],rfl,ep,λp hp=>by simp at hp,by simp,Fr.refl⟩
 exact⟨Ez,x7',H',Bv,by rw[r1,e1],e2,e3,e5⟩
end
def o1:MS:=aJ (m2 hO (aA 1) (m2 aR (aV (aB (mC (.int 0)) (aB (mC (.int 0)) (aB (mC (.int 1)) (aB (mC (.int 2)) (aB (mC (.int 0)) (aB (mC (.int 3)) (aB (mC (.int 1)) (aB (mC (.int 4)) aC))))))))) (aF F_qu (aB (aA 0) (aB (mC (.int 8)) aC))))) (aD 2)
def o2:MS:=aJ (aF nA (aB (mC (.int 1)) (aB (aA 2) aC))) (aD 2)
def o3:MS:=aJ (aF F_qc (aB (aA 0) (aB (aF (f1 rS) (aB (aA 2) aC)) aC))) (aD 3)
def o4:MS:=aJ (aF F_qu (aB (aA 0) (aB (mC (.int 5)) aC))) (aD 4)
def o5:MS:=aJ (aV aC) (aD 5)
def kJ:M Aw :=bC (aX bG (aA 3)) [none,some 0] (aD 0) bT (aY (aF F_qu (aB (aA 1) (aB (mC (.int 3)) aC))))
def o6:MS:=aJ (aZ kJ) (aD 6)
def o8:MS:=bX (mB (m2 cA (aA 4) (mC (.int 3)))) (aH (aJ (aV aC) (aD 5)) (cX (aO bY (aB (aA 2) aC)) (aD 7) vI)) cO
def o9:MS:=aN (aL (aB (aA 2) (aB (aF (f1 nB) (aB (aF F_qg (aB (aA 5) aC)) aC)) aC)))
theorem mO:jM=aH o1 (aH o2 (aH o3 (aH o4 (aH o5 (aH o6 (aH kH (aH o8 o9))))))):=rfl
section
variable{st:Nat}
theorem mP {H:Hs}{m:Int}{x2 x3 x4 x5 x6 x7 x8 x9:Ax}(s:St st H):∃(v:Int) (H':Hs),0<=v/\v<=4/\o1 [some (.ref st),some (.int m),x2,x3,x4,x5,x6,x7,x8,x9] H=.nx [some (.ref st),some (.int m),some (.int (m - v)),x3,x4,x5,x6,x7,x8,x9] H'/\St st H'/\Fr [st] H H':=by
 have fA:Fr [] H (H++[Ob.lst [.int 0,.int 0,.int 1,.int 2,.int 0,.int 3,.int 1,.int 4]]):=Fr.app;have eA:getL (H++[Ob.lst [.int 0,.int 0,.int 1,.int 2,.int 0,.int 3,.int 1,.int 4]]) H.length=some (([0,0,1,2,0,3,1,4]:Aq).map Dv.int):=by simp[getL]
 have sA:=s.fr fA (by simp);have lt:=s.lt;have hd:aV (aB (mC (.int 0)) (aB (mC (.int 0)) (aB (mC (.int 1)) (aB (mC (.int 2)) (aB (mC (.int 0)) (aB (mC (.int 3)) (aB (mC (.int 1)) (aB (mC (.int 4)) aC)))))))) [some (.ref st),some (.int m),x2,x3,x4,x5,x6,x7,x8,x9] H=.ok (.ref H.length) (H++[Ob.lst [.int 0,.int 0,.int 1,.int 2,.int 0,.int 3,.int 1,.int 4]]):=rfl;generalize H++[Ob.lst [.int 0,.int 0,.int 1,.int 2,.int 0,.int 3,.int 1,.int 4]]=HA at fA eA sA hd;obtain⟨r,H1,r0,r1,t1,f1,s1⟩:=oP 8 sA;have e1:=f1.getL eA (by simp;omega);obtain⟨k,rfl⟩:∃k:Nat,r=k:=⟨r.toNat,by omega⟩
 have hk:k<8:=by omega
 have hx:=pY e1 (k:=k) (by simpa using hk);have hv:0<=([0,0,1,2,0,3,1,4]:Aq)[k]/\([0,0,1,2,0,3,1,4]:Aq)[k]<=4:=by
  match k,hk with
  |0,_=>simp
  |1,_=>simp
  |2,_=>simp
  |3,_=>simp
  |4,_=>simp
  |5,_=>simp
  |6,_=>simp
  |7,_=>simp
 generalize ([0,0,1,2,0,3,1,4]:Aq)[k]=v at hx hv;refine⟨v,H1,hv.1,hv.2, ?_,s1,fA.mono (T:=[st]) (by simp) |>.trans f1 (by simp)⟩;have ht:aF F_qu (aB (aA 0) (aB (mC (.int 8)) aC)) [some (.ref st),some (.int m),x2,x3,x4,x5,x6,x7,x8,x9] HA=.ok (.int k) H1:=by simp[aF,aB,aA,mC,aC,t1]
 unfold o1 aJ m2;show((Rs.ok (Dv.int m) H).bind _).thenS _=_;rw[Rs.bind_ok,hd,Rs.bind_ok,ht,Rs.bind_ok,hx,Rs.bind_ok];rfl
theorem mQ {H:Hs}{ir:Nat}{ys:Aq}{x1 x2 x4 x5 x6 x7 x8 x9:Ax}(s:St st H) (er:getL H ir=some (ys.map Dv.int)) (hrs:ir≠st) (hl:ys.length<=100):∃(ms:Aq) (H':Hs),ms.length=ys.length/\o6 [some (.ref st),x1,x2,some (.ref ir),x4,x5,x6,x7,x8,x9] H=.nx [some (.ref st),x1,x2,some (.ref ir),x4,x5,some (.ref H'.length),x7,x8,x9] (H'++[.lst (ms.map Dv.int)])/\St st H'/\Fr [st] H H':=by
 have hi:aX bG (aA 3) [some (.ref st),x1,x2,some (.ref ir),x4,x5,x6,x7,x8,x9] H=.ok (bR ir ys.length) H:=by simp[aX,aA,bG,er]
 obtain⟨ρ',H',C',h1,a,ms,h2,h3,h4,h5,h6⟩:=xW (src:=bR ir ys.length) (sg:=aD 0) (t:=bT) (m:=aY (aF F_qu (aB (aA 1) (aB (mC (.int 3)) aC))))
  (λk ρ H' acc=>∃(a:Ax) (ms:Aq),ρ=[a,some (.ref st)]/\acc=ms.map Dv.int/\ms.length=k/\St st H'/\Fr [st] H H')
  (λk ρ H' acc hk ⟨a,ms,e1,e2,e3,e4,e5⟩=>by
   subst e1;subst e2;have Ct:k<ys.length:=hk;obtain⟨r,H1,r0,r1,t1,f1,s1⟩:=oP 3 e4;have er':=e5.getL er (by simpa using hrs);refine⟨.int ys[k],[some (.int ys[k]),some (.ref st)],zZ er' Ct,rfl,.inr ⟨H',[some (.int ys[k]),some (.ref st)],(ms++[r]).map Dv.int,H1,rfl, ?_,_,ms++[r],rfl,rfl,by simp[e3],s1,e5.trans f1 (by simp)⟩⟩;have hz:ms.length<1000000:=by omega
   simp[aY,aF,aB,aA,mC,aC,t1,hz]) (λρ H' acc ⟨_,_,_,_,_,_,e5⟩=>AA (e5.getL er (by simpa using hrs))) ys.length 0 [none,some (.ref st)] H [] (by simp[bR]) ⟨none,[],rfl,rfl,rfl,s,Fr.refl⟩
 refine⟨ms,H',h4, ?_,h5,h6⟩;have hc:kJ [some (.ref st),x1,x2,some (.ref ir),x4,x5,x6,x7,x8,x9] H=.ok (ms.map Dv.int) H':=by unfold kJ bC;rw[hi,Rs.bind_ok];have hcap:iI [none,some 0] [some (.ref st),x1,x2,some (.ref ir),x4,x5,x6,x7,x8,x9]=[none,some (.ref st)]:=rfl;rw[hcap,show(bR ir ys.length).n=ys.length from rfl,h1];dsimp only;rw[h3]
 unfold o6 aJ aZ;rw[hc];rfl
theorem mR {H:Hs}(s:St st H):∃(n:Nat) (cs:y') (H':Hs),F_qk [.ref st,.int 6] H=.ok (aM n cs) H'/\Be n cs/\St st H'/\Fr [st] H H':=by
 have lt:=s.lt;obtain⟨v,H1,v0,v1,w1,s1,f1'⟩:=mP (m:=6) (x2:=none) (x3:=none) (x4:=none) (x5:=none) (x6:=none) (x7:=none) (x8:=none) (x9:=none) s;obtain⟨n,hn⟩:∃n:Nat,(6:Int) - v=n:=⟨(6 - v).toNat,by omega⟩
 have n1:1<=n:=by omega
 have n6:n<=6:=by omega
 rw[hn]at w1;have w2:o2 [some (.ref st),some (.int 6),some (.int n),none,none,none,none,none,none,none] H1=.nx [some (.ref st),some (.int 6),some (.int n),none,none,none,none,none,none,none] H1:=by
  have hm:nA [.int 1,.int (n:Int)] H1=.ok (.int n) H1:=by
   show Rs.ok (Dv.int (if(n:Int)>1 then(n:Int)else 1)) H1=_
   split
   ·rfl
   ·rw[show(1:Int)=n by omega]
  simp[o2,aJ,aF,aB,mC,aA,aC,hm,aD]
 have hL:rS (.int n) H1=.ok (.ref H1.length) (H1++[.lst ((cE n).map Dv.int)]):=by
  have c:(decide (0<=(n:Int))&&decide ((n:Int)<=1000))=true:=by simp;omega
  simp only[rS,c,if_true]
 have fL:Fr [] H1 (H1++[Ob.lst ((cE n).map Dv.int)]):=Fr.app;obtain⟨ir,ys,H2,t2,er,pm,hir,s2,f2⟩:=z34 (s1.fr fL (by simp)) (j:=H1.length) (xs:=cE n) (by simp[getL]) (by simp[cE];omega);have l1:=s1.lt;have hir':H1.length+1<=ir:=by simpa using hir
 have w3:o3 [some (.ref st),some (.int 6),some (.int n),none,none,none,none,none,none,none] H1=.nx [some (.ref st),some (.int 6),some (.int n),some (.ref ir),none,none,none,none,none,none] H2:=by simp[o3,aJ,aF,aB,aA,aC,f1,hL,t2,aD]
 have hy:ys.length=n:=by rw[pm.length_eq];simp[cE]
 obtain⟨w,H3,w0,w5,t3,f3,s3⟩:=oP 5 s2;have er3:=f3.getL er (by simp;omega);have w4:o4 [some (.ref st),some (.int 6),some (.int n),some (.ref ir),none,none,none,none,none,none] H2=.nx [some (.ref st),some (.int 6),some (.int n),some (.ref ir),some (.int w),none,none,none,none,none] H3:=by simp[o4,aJ,aF,aB,aA,mC,aC,t3,aD]
 have w5':o5 [some (.ref st),some (.int 6),some (.int n),some (.ref ir),some (.int w),none,none,none,none,none] H3=.nx [some (.ref st),some (.int 6),some (.int n),some (.ref ir),some (.int w),some (.ref H3.length),none,none,none,none] (H3++[.lst []]):=rfl;have fM:Fr [] H3 (H3++[Ob.lst []]):=Fr.app;have eP:getL (H3++[Ob.lst []]) H3.length=some (([]:y').map aG):=by simp[getL]
 have l2:=lZ er;have l3:=lZ er3;have l4:=s3.lt;obtain⟨ms,H4,hm,w6,s4,f4⟩:=mQ (x1:=some (.int 6)) (x2:=some (.int n)) (x4:=some (.int w)) (x5:=some (.ref H3.length)) (x6:=none) (x7:=none) (x8:=none) (x9:=none) (s3.fr fM (by simp)) (fM.getL er3 (by simp)) (by omega) (by omega);have eP4:=f4.getL eP (by simp;omega);have er4:=f4.getL (fM.getL er3 (by simp)) (by simp;omega);have hle:H3.length+1<=H4.length:=by have:=f4.le;simpa using this
 have fN:Fr [] H4 (H4++[Ob.lst (ms.map Dv.int)]):=Fr.app;have D:Std st ir H4.length ys ms (H4++[Ob.lst (ms.map Dv.int)]):=⟨s4.fr fN (by simp),fN.getL er4 (by simp),by simp[getL]⟩
 obtain⟨x7,x8,x9,H5,ps,w7,eP5,hb,D5,f5⟩:=mM (d1:=.int 6) (w:=w) (ip:=H3.length) (n:=n) (x7:=none) (x8:=none) (x9:=none) D (fN.getL eP4 (by simp)) ⟨w0,w5⟩ n6 hy (by omega) (by omega) (by omega) (by omega) (by omega) (by omega);have fall:Fr [st] H H5:=by
  have g1:Fr [st] H H2:=(f1'.trans fL (by simp)).trans f2 (by simp);have g2:Fr [st] H (H3++[Ob.lst []]):=(g1.trans f3 (by simp)).trans fM (by simp);have g3:Fr [st] H (H4++[Ob.lst (ms.map Dv.int)]):=(g2.trans f4 (by simp)).trans fN (by simp);refine g3.trans f5 λj hj=>?_
  rcases bh.mp hj with rfl|hj
  ·exact .inl (by simp)
  ·rw[bz.mp hj];have:=f1'.le;have:=f2.le;have:=f3.le;right;omega
 have fin:∀(q:Nat) (y7:Ax) (H6:Hs) (qs:y'),getL H6 q=some (qs.map aG)->AB n qs->Fr [] H5 H6->o8 (cK st ir H3.length H4.length n w (.int 6) x7 x8 x9) H5=.nx (cK st ir q H4.length n w (.int 6) y7 x8 x9) H6->
   ∃(cs:y') (H':Hs),F_qk [.ref st,.int 6] H=.ok (aM n cs) H'/\Be n cs/\St st H'/\Fr [st] H H':=λq y7 H6 qs eq6 g6 f6 w8=>by
  obtain⟨cs,j,H7,hc,tc,ec,f7⟩:=z3e n6 g6.1 (OV eq6);refine⟨cs,H7, ?_,z3f n1 n6 g6 hc,(D5.s.fr f6 (by simp)).fr f7 (by simp),(fall.trans f6 (by simp)).trans f7 (by simp)⟩;have w9:o9 (cK st ir q H4.length n w (.int 6) y7 x8 x9) H6=.rt (aM n cs) H7:=by
   have h1:aF F_qg (aB (aA 5) aC) (cK st ir q H4.length n w (.int 6) y7 x8 x9) H6=.ok (.ref j) H7:=by simp[aF,aB,aA,aC,tc]
   have h2:aF (f1 nB) (aB (aF F_qg (aB (aA 5) aC)) aC) (cK st ir q H4.length n w (.int 6) y7 x8 x9) H6=.ok (.tup (cs.map aG)) H7:=by
    have h0:aB (aF F_qg (aB (aA 5) aC)) aC (cK st ir q H4.length n w (.int 6) y7 x8 x9) H6=.ok [.ref j] H7:=by show(aF F_qg (aB (aA 5) aC) (cK st ir q H4.length n w (.int 6) y7 x8 x9) H6).bind _=_;rw[h1];rfl
    show(aB (aF F_qg (aB (aA 5) aC)) aC (cK st ir q H4.length n w (.int 6) y7 x8 x9) H6).bind _=_;rw[h0];simp[f1,nB,ec]
   unfold o9 aN aL;rw[show aB (aA 2) (aB (aF (f1 nB) (aB (aF F_qg (aB (aA 5) aC)) aC)) aC) (cK st ir q H4.length n w (.int 6) y7 x8 x9) H6=.ok [.int n,.tup (cs.map aG)] H7 by unfold aB;show((Rs.ok (Dv.int n) H6).bind _)=_;rw[Rs.bind_ok];show((aF (f1 nB) (aB (aF F_qg (aB (aA 5) aC)) aC) (cK st ir q H4.length n w (.int 6) y7 x8 x9) H6).bind _).bind _=_;rw[h2];rfl];rfl
  show bH (jM [some (.ref st),some (.int 6),none,none,none,none,none,none,none,none] H)=_;rw[mO,bP w1,bP w2,bP w3,bP w4,bP w5',bP w6,bP w7,bP w8,w9];rfl
 have t8:mB (m2 cA (aA 4) (mC (.int 3))) (cK st ir H3.length H4.length n w (.int 6) x7 x8 x9) H5=.ok (w==3) H5:=by simp[mB,m2,aA,mC,eq_int,eI]
 by_cases h3:w=3
 ·have fQ:Fr [] H5 (H5++[Ob.lst []]):=Fr.app;obtain⟨q,y7,H6,qs,k1,k2,k3,k4⟩:=z3j (st:=st) (ir:=ir) (im:=H4.length) (n:=n) (w:=w) (d1:=.int 6) (ip0:=H5.length) (x7:=x7) (x8:=x8) (x9:=x9) (D5.fr fQ (D5.s.fr fQ (by simp)) (by simp) (by simp)) (by simp[getL]) n6 (by omega);obtain⟨cs,H',r⟩:=fin q y7 H6 qs k2 (z3h k3) (fQ.trans k4 (by simp)) (by unfold o8;have wA:aJ (aV aC) (aD 5) (cK st ir H3.length H4.length n w (.int 6) x7 x8 x9) H5=.nx (cK st ir H5.length H4.length n w (.int 6) x7 x8 x9) (H5++[Ob.lst []]):=rfl;rw[DD (t8.trans (by rw[h3];rfl)),bP wA,k1]);exact⟨n,cs,H',r⟩
 ·obtain⟨cs,H',r⟩:=fin H3.length x7 H5 ps eP5 (z3g pm hb) Fr.refl (by
   unfold o8;have:(w==3)=false:=by simpa using h3
   rw[rP (t8.trans (by rw[this]))];rfl)
  exact⟨n,cs,H',r⟩
end
end L2.Mr.Com
namespace L2
open PySem PySem.Spec PyProof.Rows
section
variable{X:Cx}{D:ah}
end
section
variable{X:Cx}
end
end L2
namespace L2.Mr
open PySem PySem.Spec PyProof.Rows
section
variable{M:yr}{A:cm}{E:af->ag->Prop}{s:ag}{base:cx}{env:Env}{outer:List Env}{L e T:ah}{C a0:af}{Q:Unit->ag->Prop}
end
section
variable{P:bj}{w:cq}{M:yr}{A:cm}{E:af->ag->Prop}{s:ag}{H H0:Hp}{base:cx}{env:Env}{outer:List Env}{L e:ah}{C:af}{Q:Unit->ag->Prop}
end
section
variable{P:bj}{w:cq}{K:ao}{mg:Str->Option af}{base:cx}{N:Au}{qual:Str}{scope:gh}{f:ah}{cdv:af}{A:cm}{outer:List Env}{s0:ag}{H0:Hp}{E0:XK}{G:Cfg}{E:XK}{k:Nat}
end
section
variable{G:Cfg}
end
section
variable{X:Cx}{G:Cfg}{E:XK}{elt tg iter:bo}{ifs:List bo}{sc:gh}{ps pos:Pos}{mi:M Src}{st:dQ}{test:M Bool}{me:M Dv}{N:Au}{cap:List (Option Nat)}
end
section
variable{P:bj}{w:cq}{K:ao}{mg:Str->Option af}{base:cx}{N:Au}{qual:Str}{f:ah}{G:Cfg}{k:Nat}
end
end L2.Mr
namespace L2.Mr.Cod
open PySem PySem.Spec PyProof.Rows L2 L2.Mr L2.Mr.Com
def mb_qq:MS:=(bX (eJ (cB (aF F_q1 (aB (aA 0) aC)))) (tM 0 (aB (mC (.str "this is no order")) aC)) cO)
def F_qq:Av:=aW 1 1 (mb_qq)
def oK:MS:=(aH (aJ (m2 aR (aA 0) (mC (.int 1))) (aD 3)) (aN (dX (m2 dG (aA 1) (aA 2)) (dX (m2 (cS true) (aL (aB (aA 1) (aB (aA 2) aC))) (aA 3)) (m2 (cS true) (aL (aB (aA 2) (aB (aA 1) aC))) (aA 3))))))
def F_qv:Av:=aW 3 4 (oK)
def pW:MS:=(aH (aJ (aV aC) (aD 1)) (aH (cX (aO bY (aB (m2 aR (aA 0) (mC (.int 0))) aC)) (aD 2) (cX (aO gM (aB (m2 bF (aA 2) (mC (.int 1))) (aB (m2 aR (aA 0) (mC (.int 0))) aC))) (aD 3) (bX (jA (mB (m2 (cS true) (aL (aB (aA 2) (aB (aA 3) aC))) (m2 aR (aA 0) (mC (.int 1))))) (mB (m2 (cS true) (aL (aB (aA 3) (aB (aA 2) aC))) (m2 aR (aA 0) (mC (.int 1)))))) (cT (eO (aA 1) (aL (aB (aA 2) (aB (aA 3) aC))))) cO))) (aN (aA 1))))
def F_qj:Av:=aW 1 4 (pW)
open L2.Mr.Com hiding jL F_qg jM F_qk jN F_qb
section
variable{st n:Nat}
end
section
variable{n i:Nat}{H:Hs}{S:y'}{m a b:Int}{x0 x1 x3 x4 x5:Ax}
end
open L2.Mr.Com hiding jL F_qg jM F_qk jN F_qb oB mJ mK mM jV kH o1 o2 o3 o4 o5 o6 kJ o8 o9 mO mP mQ mR cK
section
variable{st ip im n:Nat}{ys ms:Aq}{w:Int}{d1:Dv}
end
section
variable{st:Nat}
end
end L2.Mr.Cod
namespace L2.Mr.K01
open PySem PySem.Spec PyProof.Rows L2 L2.Mr L2.Mr.Com
end L2.Mr.K01
namespace L2.Mr.Com
open PySem PySem.Spec PyProof.Rows L2 L2.Mr
def T0 (H:Hs):Dv->Prop
 | .ref i=>∃xs,getL H i=some xs
 | .exc _=>False
 | .scr=>False
 |_=>True
def TK:Nat->Hs->Dv->Prop
 |0,H,d=>T0 H d
 |k+1,H,d=>T0 H d/\∀ds,d=.tup ds->ds.length<=500/\∀x∈ds,TK k H x
theorem TK.t0:∀{k:Nat}{H:Hs}{d:Dv},TK k H d->T0 H d
 |0,_,_,h=>h
 |_+1,_,_,h=>h.1
theorem TK.tup {k:Nat}{H:Hs}{ds:Aw}(hl:ds.length<=500) (h:∀x∈ds,TK k H x):TK (k+1) H (.tup ds):=⟨trivial,λ_ e=>by cases e;exact⟨hl,h⟩⟩
theorem TK.of {k:Nat}{H:Hs}{d:Dv}(h0:T0 H d) (h:∀ds,d≠.tup ds):TK k H d:=by
 cases k with
 |zero=>exact h0
 |succ k=>exact⟨h0,λds e=>absurd e (h ds)⟩
theorem T0.fr {st:Nat}{H H':Hs}{d:Dv}(h:T0 H d) (f:Fr [st] H H') (s:St st H'):T0 H' d:=by
 cases d with
 |ref i=>
  obtain⟨xs,e⟩:=h
  by_cases c:i=st
  ·subst c;obtain⟨a,b,e⟩:=s;exact⟨_,e⟩
  ·exact⟨xs,f.getL e (by simpa using c)⟩
 |_=>exact h
theorem TK.fr {st:Nat}{H H':Hs}(f:Fr [st] H H') (s:St st H'):∀{k:Nat}{d:Dv},TK k H d->TK k H' d
 |0,_,h=>T0.fr h f s
 |k+1,_,h=>⟨h.1.fr f s,λds e=>⟨(h.2 ds e).1,λx hx=>TK.fr f s ((h.2 ds e).2 x hx)⟩⟩
def pZ:Dv->Bool
 | .tup _=>true
 |_=>false
def isInt:Dv->Bool
 | .int _=>true
 |_=>false
section
variable{H:Hs}{d:Dv}{n:Int}
theorem FF (h:T0 H d):bB hV d H=.ok (.bl (pZ d)) H:=by
 cases d with
 |ref i=>obtain⟨xs,e⟩:=h;simp[bB,gG,e,hV,pZ]
 |exc c=>exact h.elim
 |scr=>exact h.elim
 |_=>rfl
theorem z3k (h:T0 H d):bB rJ d H=.ok (.bl (match d with | .int _=>true | .bl _=>true|_=>false)) H:=by
 cases d with
 |ref i=>obtain⟨xs,e⟩:=h;simp[bB,gG,e,rJ]
 |exc c=>exact h.elim
 |scr=>exact h.elim
 |_=>rfl
theorem z3l (h:T0 H d):bB nF d H=.ok (.bl (match d with | .bl _=>true|_=>false)) H:=by
 cases d with
 |ref i=>obtain⟨xs,e⟩:=h;simp[bB,gG,e,nF]
 |exc c=>exact h.elim
 |scr=>exact h.elim
 |_=>rfl
theorem z3m (h:T0 H d):F_q3 [d] H=.ok (.bl (isInt d)) H:=by
 have e1:=z3k h;have e2:=z3l h
 cases d <;> simp[F_q3,DR,aW,bV,aN,dX,m1,aA,e1,e2,qV,bH,isInt]
def vJ (lo hi:Int):Dv->Bool
 | .int x=>decide (lo<=x)&&decide (x<=hi)
 |_=>false
theorem OZ {lo hi:Int}(h:T0 H d):F_qo [d,.int lo,.int hi] H=.ok (.bl (vJ lo hi d)) H:=by
 have w:=z3m h
 cases d with
 |int x=>exact E5
 |_=>simp[F_qo,yK,aW,bV,aN,dX,aF,aB,aA,aC,w,isInt,bH,vJ]
def tB (n:Int) (d:Dv):Bool:=vJ 0 (n - 1) d
theorem z3n (h:T0 H d):F_q2 [.int n,d] H=.ok (.bl (tB n d)) H:=by simp[F_q2,DS,aW,bV,aN,aF,aB,aA,aC,mC,m2,hO,jB,OZ h,bH,tB]
def sL (n:Int):Dv->Bool
 | .tup ys=>ys.all (tB n)
 |_=>false
theorem z3o (h:TK 1 H d):F_qm [.int n,d] H=.ok (.bl (sL n d)) H:=by
 have e:=FF h.1
 cases d with
 |tup xs=>obtain⟨hl,hx⟩:=h.2 xs rfl;have h:bC (aX fZ (aA 1)) [none,some 0] (aD 0) bT (aY (aF F_q2 (aB (aA 1) (aB (aA 0) aC)))) [some (.int n),some (.tup xs)] H=.ok (xs.filterMap λx=>some (.bl (tB n x))) H:=gJ xs (λx=>some (.bl (tB n x))) (λρ=>∃a,ρ=[a,some (.int n)]) rfl (by simp[eK]) ⟨_,rfl⟩ rfl (λk hk ρ ⟨a,e⟩=>by subst e;exact⟨xs[k],_,by simp[eK,hk],rfl,⟨_,rfl⟩,rfl,by simp[aF,aB,aA,aC,z3n (hx xs[k] (de hk))]⟩) (by omega);simp[F_qm,yL,aW,bV,aN,dX,m1,bB,aA,gG,hV,sE h,bH,sL]
 |_=>simp[F_qm,yL,aW,bV,aN,dX,m1,aA,e,pZ,bH,sL]
def pB (n:Int):Dv->Bool
 | .tup ys=>ys.all (tB n)&&decide (ys.length=2)
 |_=>false
theorem z3p (ys:Aw):f1 eW [.tup ys] H=.ok (.int ys.length) H:=rfl
theorem z3q (h:TK 1 H d):F_q5 [.int n,d] H=.ok (.bl (pB n d)) H:=by
 have h1:=z3o (n:=n) h
 cases d with
 |tup ys=>
  cases q:ys.all (tB n)with
  |false=>simp[F_q5,rT,aW,bV,aN,dX,aF,aB,aA,aC,h1,sL,pB,q,bH]
  |true=>
   have e:((ys.length:Int)==2)=decide (ys.length=2):=by rw[dm];simp;omega
   simp[F_q5,rT,aW,bV,aN,dX,aF,aB,aA,aC,h1,sL,pB,q,bH,m2,z3p,mC,eq_int,e]
 |_=>simp[F_q5,rT,aW,bV,aN,dX,aF,aB,aA,aC,h1,sL,pB,bH]
theorem z3r {xs:Aw}(h:TK 2 H (.tup xs)):F_qw [.int n,.tup xs] H=.ok (.bl (xs.all (pB n))) H:=by obtain⟨hl,hx⟩:=h.2 xs rfl;have h:bC (aX fZ (aA 1)) [none,some 0] (aD 0) bT (aY (aF F_q5 (aB (aA 1) (aB (aA 0) aC)))) [some (.int n),some (.tup xs)] H=.ok (xs.filterMap λp=>some (.bl (pB n p))) H:=gJ xs (λp=>some (.bl (pB n p))) (λρ=>∃a,ρ=[a,some (.int n)]) rfl (by simp[eK]) ⟨_,rfl⟩ rfl (λk hk ρ ⟨a,e⟩=>by subst e;exact⟨xs[k],_,by simp[eK,hk],rfl,⟨_,rfl⟩,rfl,by simp[aF,aB,aA,aC,z3q (hx xs[k] (de hk))]⟩) (by omega);simp[F_qw,DT,aW,bV,aN,sE h,bH]
def qA:Dv->Option (Int×Int)
 | .tup [.int a,.int b]=>some (a,b)
 |_=>none
theorem z3s {x:Dv}(h:pB n x=true):∃p,x=aG p/\qA x=some p:=by
 match x,h with
 | .tup [.int a,.int b],_=>exact⟨(a,b),rfl,rfl⟩
 | .tup [a,b],h=>
  simp[pB]at h;obtain⟨h1,h2⟩:=h
  cases a <;> first|(cases h1;done)|skip
  cases b <;> first|(cases h2;done)|skip
  exact⟨_,rfl,rfl⟩
 | .tup [],h=>simp[pB]at h
 | .tup [_],h=>simp[pB]at h
 | .tup (_::_::_::_),h=>simp[pB]at h
theorem O2:∀{xs:Aw},(∀x∈xs,∃p,x=aG p/\qA x=some p)->xs=(xs.filterMap qA).map aG
 | [],_=>rfl
 |x::xs,h=>by obtain⟨p,e,q⟩:=h x (by simp);rw[List.filterMap_cons_some q,da,<-O2 λy hy=>h y (by simp[hy]),<-e]
def fK:Dv->Bool
 | .tup [.int n,.tup xs]=>xs.all (pB n)&&sF n (xs.filterMap qA)
 |_=>false
theorem iV {ds:Aw}(h:ds.length≠2):∃L:Int,f1 eW [.tup ds] H=.ok (.int L) H/\dG (.int L) (.int 2) H=.ok (.bl true) H:=by
 refine⟨ds.length,rfl, ?_⟩;have:((ds.length:Int)==2)=false:=by simp;omega
 simp[dG,cH,bQ,bK,this]
theorem FG {ds:Aw}(h:ds.length≠2):F_q1 [.tup ds] H=.ok (.bl false) H:=by obtain⟨L,hlen,hne⟩:=iV (H:=H) h;have e:bB hV (.tup ds) H=.ok (.bl true) H:=rfl;simp[F_q1,pR,aW,bV,aH,bX,gX,eJ,cB,m1,aA,mB,m2,aF,aB,aC,mC,aN,e,gF,hlen,hne,eI,bH]
theorem FH {ds:Aw}(h:ds.length≠2):fK (.tup ds)=false:=by
 unfold fK
 split
 ·rename_i e;cases e;simp at h
 ·rfl
theorem z3t (h:TK 3 H d):F_q1 [d] H=.ok (.bl (fK d)) H:=by
 have e:=FF h.1
 cases d with
 |tup ds=>
  obtain⟨hl,hx⟩:=h.2 ds rfl
  match ds,hl,hx,e,h with
  | [a,b],hl,hx,e,h=>
   have ha:=hx a (by simp);have hb:=hx b (by simp);have b1:=OZ (lo:=1) (hi:=6) ha.t0;have b2:=FF hb.t0;have hlen:f1 eW [.tup [a,b]] H=.ok (.int 2) H:=rfl
   cases q1:vJ 1 6 a with
   |false=>
    rw[q1]at b1;have:fK (.tup [a,b])=false:=by
     cases a with
     |int n=>
      cases b with
      |tup xs=>
       have:¬ (1<=n/\n<=6):=by simpa[vJ]using q1
       simp only[fK,Bool.and_eq_false_iff];right;unfold sF
       by_cases c:1<=n
       ·have:¬ n<=6:=λc'=>this ⟨c,c'⟩;simp[this]
       ·simp[c]
      |_=>rfl
     |_=>rfl
    rw[this];simp[F_q1,pR,aW,bV,aH,bX,gX,eJ,cB,m1,aA,e,pZ,gF,mB,m2,aF,aB,aC,hlen,mC,dG,cH,bQ,bK,eI,cO,aJ,cM,bA,aD,cP,b1,aN,bH]
   |true=>
    rw[q1]at b1
    cases a with
    |int n=>
     cases b with
     |tup xs=>
      have p1:=z3r (n:=n) hb
      cases q2:xs.all (pB n)with
      |false=>rw[q2]at p1;simp[fK,q2,F_q1,pR,aW,bV,aH,bX,gX,eJ,cB,m1,aA,e,b2,pZ,gF,mB,m2,aF,aB,aC,hlen,mC,dG,cH,bQ,bK,eI,cO,aJ,cM,bA,aD,cP,b1,p1,aN,bH]
      |true=>
       have ex:=O2 λx hx=>z3s (gu.mp q2 x hx);have hle:(xs.filterMap qA).length<=900:=by have:=nj qA xs;have:=(hb.2 xs rfl).1;omega
       have:=OO (H:=H) (n:=n) (ps:=xs.filterMap qA) hle;rw[<-ex]at this;rw[this];simp[fK,q2]
     |_=>simp[fK,F_q1,pR,aW,bV,aH,bX,gX,eJ,cB,m1,aA,e,b2,pZ,gF,mB,m2,aF,aB,aC,hlen,mC,dG,cH,bQ,bK,eI,cO,aJ,cM,bA,aD,cP,b1,aN,bH]
    |_=>cases q1
  | [],hl,hx,e,h=>exact(FG (by simp)).trans (by rw[FH (by simp)])
  | [a],hl,hx,e,h=>exact(FG (by simp)).trans (by rw[FH (by simp)])
  |a::b::c::r,hl,hx,e,h=>exact(FG (by simp)).trans (by rw[FH (by simp)])
 |_=>simp[F_q1,pR,aW,bV,aH,bX,gX,eJ,cB,m1,aA,e,pZ,gF,mC,aN,bH,fK]
end
section
variable{H:Hs}{d:Dv}{n:Int}
end
section
variable{H:Hs}{d:Dv}
end
theorem T0.fr0 {H H':Hs}{d:Dv}(h:T0 H d) (f:Fr [] H H'):T0 H' d:=by
 cases d with
 |ref i=>obtain⟨xs,e⟩:=h;exact⟨xs,f.getL e (by simp)⟩
 |_=>exact h
theorem TK.fr0 {H H':Hs}(f:Fr [] H H'):∀{k:Nat}{d:Dv},TK k H d->TK k H' d
 |0,_,h=>T0.fr0 h f
 |k+1,_,h=>⟨h.1.fr0 f,λds e=>⟨(h.2 ds e).1,λx hx=>TK.fr0 f ((h.2 ds e).2 x hx)⟩⟩
def O3 (P:Ev->Hs->Prop):Prop:=∀ρ H H',P ρ H->Fr [] H H'->P ρ H'
def Wr (P:Ev->Hs->Prop) (k:Nat) (m:M Dv):Prop:=∀ρ H,P ρ H->∃d H',m ρ H=.ok d H'/\Fr [] H H'/\TK k H' d
def mS (P:Ev->Hs->Prop) (k n:Nat) (ms:M Aw ):Prop:=∀ρ H,P ρ H->∃ds H',ms ρ H=.ok ds H'/\Fr [] H H'/\ds.length=n/\∀x∈ds,TK k H' x
section
variable{P:Ev->Hs->Prop}{k n m':Nat}{m:M Dv}{ms:M Aw }
theorem FI:mS P k 0 aC:=λρ H _=>⟨[],H,rfl,Fr.refl,rfl,λx hx=>by cases hx⟩
theorem FJ (hP:O3 P) (h:Wr P k m) (hs:mS P k n ms):mS P k (n+1) (aB m ms):=λρ H p=>by
 obtain⟨d,H1,e1,f1,t1⟩:=h ρ H p;obtain⟨ds,H2,e2,f2,l2,t2⟩:=hs ρ H1 (hP ρ H H1 p f1);refine⟨d::ds,H2, ?_,f1.trans f2 (by simp),by simp[l2],λx hx=>?_⟩
 ·unfold aB;rw[e1,Rs.bind_ok,e2,Rs.bind_ok]
 ·rcases bh.mp hx with rfl|hx
  ·exact t1.fr0 f2
  ·exact t2 x hx
theorem vK (h:∀ρ H,P ρ H->∃d,m ρ H=.ok d H/\TK k H d):Wr P k m:=λρ H p=>let ⟨d,e,t⟩:=h ρ H p;⟨d,H,e,Fr.refl,t⟩
theorem FK {i:Int}:Wr P k (mC (.int i)):=vK λρ H _=>⟨_,rfl,TK.of trivial λ_ e=>by cases e⟩
theorem FL {i:Bool}:Wr P k (mC (.bl i)):=vK λρ H _=>⟨_,rfl,TK.of trivial λ_ e=>by cases e⟩
theorem FN:Wr P k (mC .non):=vK λρ H _=>⟨_,rfl,TK.of trivial λ_ e=>by cases e⟩
theorem FO {s}:Wr P k (mC (.str s)):=vK λρ H _=>⟨_,rfl,TK.of trivial λ_ e=>by cases e⟩
theorem FP:Wr P k (mC .edc):=vK λρ H _=>⟨_,rfl,TK.of trivial λ_ e=>by cases e⟩
theorem AF (h:mS P k n ms) (hn:n<=500):Wr P (k+1) (aL ms):=λρ H p=>by obtain⟨ds,H1,e1,f1,l1,t1⟩:=h ρ H p;refine⟨.tup ds,H1, ?_,f1,TK.tup (by omega) t1⟩;unfold aL lim;rw[e1,Rs.bind_ok,if_pos (by omega)]
theorem FQ (h:mS P 0 n ms) (hn:n<=500):Wr P 0 (aL ms):=λρ H p=>let ⟨d,H',e,f,t⟩:=AF h hn ρ H p;⟨d,H',e,f,t.1⟩
theorem FR (h:mS P 0 n ms) (hn:n<=500):Wr P k (aV ms):=λρ H p=>by obtain⟨ds,H1,e1,f1,l1,t1⟩:=h ρ H p;refine⟨.ref H1.length,H1++[.lst ds], ?_,f1.trans (T:=[]) Fr.app (by simp),TK.of ⟨ds,by simp[getL]⟩ λ_ e=>by cases e⟩;unfold aV lim;rw[e1,Rs.bind_ok,if_pos (by omega)]
end
def vL:M Aw :=(aB (mC .non) (aB (mC (.int 0)) (aB (aL aC) (aB (aL (aB (mC (.int 0)) (aB (aL aC) aC))) (aB (aL (aB (mC (.int 7)) (aB (aL aC) aC))) (aB (aL (aB (mC (.bl true)) (aB (aL aC) aC))) (aB (aL (aB (mC (.int 2)) (aB (aV aC) aC))) (aB (aV (aB (mC (.int 2)) (aB (aL aC) aC))) (aB (aL (aB (mC (.int 2)) (aB (aL (aB (aL (aB (mC (.int 0)) (aB (mC (.int 1)) aC))) (aB (aL (aB (mC (.int 0)) (aB (mC (.int 1)) aC))) aC))) aC))) (aB (aL (aB (mC (.int 2)) (aB (aL (aB (aL (aB (mC (.int 1)) (aB (mC (.int 0)) aC))) (aB (aL (aB (mC (.int 0)) (aB (mC (.int 1)) aC))) aC))) aC))) aC))))))))))
def vM:M Aw :=(aB (aL (aB (mC (.int 3)) (aB (aL (aB (aL (aB (mC (.int 0)) (aB (mC (.int 1)) aC))) (aB (aL (aB (mC (.int 1)) (aB (mC (.int 2)) aC))) aC))) aC))) (aB (aL (aB (mC (.int 2)) (aB (aL (aB (aL (aB (mC (.int 0)) (aB (mC (.int 0)) aC))) aC)) aC))) (aB (aL (aB (mC (.int 2)) (aB (aL (aB (aL (aB (mC (.int 0)) (aB (mC (.int 2)) aC))) aC)) aC))) (aB (aL (aB (mC (.int 2)) (aB (aL (aB (aL (aB (mC (.int 0)) (aB (mC (.bl true)) aC))) aC)) aC))) (aB (aL (aB (mC (.int 2)) (aB (aL (aB (aL (aB (mC (.int 0)) (aB (mC (.int 1)) (aB (mC (.int 1)) aC)))) aC)) aC))) (aB (mC .edc) aC))))))
def vN:M Aw :=(aB (mC (.str "2:")) (aB (aL (aB (mC (.int 2)) (aB (aL (aB (mC (.int 0)) (aB (mC (.int 1)) aC))) aC))) (aB (aL (aB (mC (.int 3)) (aB (aL (aB (aL (aB (mC (.int 0)) (aB (mC (.int 2)) aC))) (aB (aL (aB (mC (.int 0)) (aB (mC (.int 1)) aC))) aC))) aC))) (aB (aL (aB (mC (.int 2)) (aB (mC .non) aC))) (aB (aL (aB (mC (.int 2)) (aB (aL aC) (aB (aL aC) aC)))) (aB (aL (aB (mC (.int 2)) aC)) (aB (aL (aB (mC (.int 2)) (aB (aL (aB (aV (aB (mC (.int 0)) (aB (mC (.int 1)) aC))) aC)) aC))) (aB (aL (aB (mC (.int 2)) (aB (aL (aB (mC .non) aC)) aC))) aC))))))))
theorem z3u:jN=aH (aJ (aV vL) (aD 1)) (aH (aJ (m2 bF (aA 1) (aV vM)) (aD 1)) (aH (aJ (m2 bF (aA 1) (aV vN)) (aD 1)) (aN (m2 aR (aA 1) (aF F_qu (aB (aA 0) (aB (mC (.int 24)) aC))))))):=rfl
theorem FT {ρ:Ev}{H H1 H2:Hs}{st i j:Nat}{ml:M Dv}(hv:aA st ρ H=.ok (.ref i) H) (e1:ml ρ H=.ok (.ref j) H1) (e2:bF (.ref i) (.ref j) H1=.ok (.ref H1.length) H2):m2 bF (aA st) ml ρ H=.ok (.ref H1.length) H2:=by unfold m2;rw[hv,Rs.bind_ok,e1,Rs.bind_ok,e2]
end L2.Mr.Com
namespace L2.Mr.Cod
open PySem PySem.Spec PyProof.Rows L2 L2.Mr
open L2.Mr.Com hiding jL F_qg jM F_qk jN F_qb oB mJ mK mM jV kH o1 o2 o3 o4 o5 o6 kJ o8 o9 mO mP mQ mR cK
section
variable{H:Hs}
theorem addL {i j:Nat}{xs ys:Aw}(e1:getL H i=some xs) (e2:getL H j=some ys) (hl:xs.length+ys.length<=500):bF (.ref i) (.ref j) H=.ok (.ref H.length) (H++[.lst (xs++ys)]):=by simp[bF,jZ,e1,e2,lim];omega
theorem gR {i j:Nat}{ds:Aw}(e:getL H i=some ds) (hj:j<ds.length):aR (.ref i) (.int j) H=.ok ds[j] H:=by
 have h1:gE ds.length (j:Int)=some j:=by unfold gE;rw[if_pos (by omega),if_pos (by omega)];simp
 have h2:iF ds (j:Int)=some ds[j]:=by unfold iF;rw[h1];simp[hj]
 simp only[aR,gC,gY,e,kS,h2,if_true]
theorem last_get {x:Aw}:getL (H++[.lst x]) H.length=some x:=by simp[getL]
end
section
variable{n m:Nat}{H H':Hs}{i j:Nat}
end
end L2.Mr.Cod
namespace L2.Mr
open PySem PySem.Spec PyProof.Rows L2
def z3v (x:Int) (P:Int->Prop):Prop:=P x/\∀y,P y->y<=x
theorem O4 {f:Nat->Int}:∀k,(∃i,i<=k/\fS (λa b=>decide (a>b)) f k=f i)/\∀i,i<=k->f i<=fS (λa b=>decide (a>b)) f k
 |0=>⟨⟨0,aj _,rfl⟩,λi hi=>by
  have:i=0:=by omega
  subst this;exact xi _⟩
 |k+1=>by
  obtain⟨⟨i,hi,e⟩,h⟩:=O4 (f:=f) k;have he:fS (λa b=>decide (a>b)) f (k+1)=if decide (f (k+1)>fS (λa b=>decide (a>b)) f k)then f (k+1)else fS (λa b=>decide (a>b)) f k:=rfl
  generalize fS (λa b=>decide (a>b)) f k=z at e h he;rw[he]
  by_cases c:f (k+1)>z
  ·rw[if_pos (decide_eq_true c)];refine⟨⟨k+1,aj _,rfl⟩,λj hj=>?_⟩
   by_cases q:j=k+1
   ·subst q;exact xi _
   ·have:=h j (by omega);omega
  ·rw[if_neg (by simpa using c)];refine⟨⟨i,by omega,e⟩,λj hj=>?_⟩
   by_cases q:j=k+1
   ·subst q;omega
   ·exact h j (by omega)
theorem O5 {f:Nat->Int}:∀k,(∃i,i<=k/\fS (λa b=>decide (a<b)) f k=f i)/\∀i,i<=k->fS (λa b=>decide (a<b)) f k<=f i
 |0=>⟨⟨0,aj _,rfl⟩,λi hi=>by
  have:i=0:=by omega
  subst this;exact xi _⟩
 |k+1=>by
  obtain⟨⟨i,hi,e⟩,h⟩:=O5 (f:=f) k;have he:fS (λa b=>decide (a<b)) f (k+1)=if decide (f (k+1)<fS (λa b=>decide (a<b)) f k)then f (k+1)else fS (λa b=>decide (a<b)) f k:=rfl
  generalize fS (λa b=>decide (a<b)) f k=z at e h he;rw[he]
  by_cases c:f (k+1)<z
  ·rw[if_pos (decide_eq_true c)];refine⟨⟨k+1,aj _,rfl⟩,λj hj=>?_⟩
   by_cases q:j=k+1
   ·subst q;exact xi _
   ·have:=h j (by omega);omega
  ·rw[if_neg (by simpa using c)];refine⟨⟨i,by omega,e⟩,λj hj=>?_⟩
   by_cases q:j=k+1
   ·subst q;omega
   ·exact h j (by omega)
theorem maxI_is {ns:Aq}(h:ns≠[]):z3v (cV ns) (·∈ns):=by
 have hl:0<ns.length:=qo.mpr h;obtain⟨⟨i,hi,e⟩,hx⟩:=O4 (f:=λi=>ns.getD i 0) (ns.length - 1);refine⟨?_,λy hy=>?_⟩
 ·show cV ns∈ns;unfold cV;rw[e];have:i<ns.length:=by omega
  simp[this]
 ·obtain⟨k,hk,rfl⟩:=mr.mp hy;have:=hx k (by omega);have e2:ns.getD k 0=ns[k]:=by simp[hk]
  rw[e2]at this;exact this
theorem minI_is {ns:Aq}(h:ns≠[]):dU ns∈ns/\∀y∈ns,dU ns<=y:=by
 have hl:0<ns.length:=qo.mpr h;obtain⟨⟨i,hi,e⟩,hx⟩:=O5 (f:=λi=>ns.getD i 0) (ns.length - 1);refine⟨?_,λy hy=>?_⟩
 ·unfold dU;rw[e];have:i<ns.length:=by omega
  simp[this]
 ·obtain⟨k,hk,rfl⟩:=mr.mp hy;have:=hx k (by omega);have e2:ns.getD k 0=ns[k]:=by simp[hk]
  rw[e2]at this;exact this
end L2.Mr
namespace L2.Mr.Cod
open PySem PySem.Spec PyProof.Rows L2 L2.Mr
open L2.Mr.Com hiding jL F_qg jM F_qk jN F_qb oB mJ mK mM jV kH o1 o2 o3 o4 o5 o6 kJ o8 o9 mO mP mQ mR cK
def gS (ps:y') (a:Nat):Nat->y'
 |0=>[]
 |k+1=>gS ps a k++if((a:Int),(a:Int)+1+(k:Int))∈ps∨((a:Int)+1+(k:Int),(a:Int))∈ps then[]else[((a:Int),(a:Int)+1+(k:Int))]
def gK (n:Nat) (ps:y'):Nat->y'
 |0=>[]
 |k+1=>gK n ps k++gS ps k (n - (k+1))
def loose (n:Nat) (ps:y'):y':=gK n ps n
theorem looseB_len (ps:y') (a:Nat):∀k,(gS ps a k).length<=k
 |0=>aj _
 |k+1=>by
  have:=looseB_len ps a k;unfold gS
  split <;> simp <;> omega
theorem O6 (n:Nat) (ps:y'):∀k,(gK n ps k).length<=k*n
 |0=>by simp[gK]
 |k+1=>by have h1:=O6 n ps k;have h2:=looseB_len ps k (n - (k+1));unfold gK;rw[bw,uj];omega
section
variable{n:Nat}{ps:y'}{i:Nat}
def oQ:MS:=bX (jA (mB (m2 (cS true) (aL (aB (aA 2) (aB (aA 3) aC))) (m2 aR (aA 0) (mC (.int 1))))) (mB (m2 (cS true) (aL (aB (aA 3) (aB (aA 2) aC))) (m2 aR (aA 0) (mC (.int 1)))))) (cT (eO (aA 1) (aL (aB (aA 2) (aB (aA 3) aC))))) cO
theorem z3w {H:Hs}{a b:Int}{acc:y'}(e:getL H i=some (acc.map aG)) (hl:acc.length<1000):
  oQ [some (aM n ps),some (.ref i),some (.int a),some (.int b)] H=.nx [some (aM n ps),some (.ref i),some (.int a),some (.int b)] (H.set i (.lst ((acc++if(a,b)∈ps∨(b,a)∈ps then[]else[(a,b)]).map aG))):=by
 have self:H.set i (.lst (acc.map aG))=H:=by
  apply oq
  intro k
  by_cases hk:i=k
  ·subst hk;rw[dg (lZ e),cU e]
  ·rw[dw hk]
 have t1:∀(x y:Int),mB (m2 (cS true) (λ_ h=>.ok (aG (x,y)) h) (λ_ h=>.ok (.tup (ps.map aG)) h)) [] H=.ok (!decide ((x,y)∈ps)) H:=λx y=>by simp[mB,m2,nI,eI]
 have hl':acc.length<1000000:=by omega
 by_cases h1:(a,b)∈ps
 ·simp[oQ,bX,jA,mB,m2,aL,aB,aA,aC,lim,mC,zW];rw[show Dv.tup [.int a,.int b]=aG (a,b) from rfl,nI];simp[h1,eI,cO,self]
 ·by_cases h2:(b,a)∈ps
  ·simp[oQ,bX,jA,mB,m2,aL,aB,aA,aC,lim,mC,zW];rw[show Dv.tup [.int a,.int b]=aG (a,b) from rfl,show Dv.tup [.int b,.int a]=aG (b,a) from rfl,nI];simp[h1,eI,nI,h2,cO,self]
  ·simp[oQ,bX,jA,mB,m2,aL,aB,aA,aC,lim,mC,zW];rw[show Dv.tup [.int a,.int b]=aG (a,b) from rfl,show Dv.tup [.int b,.int a]=aG (b,a) from rfl,nI];simp only[h1,Rs.bind_ok,eI,nI];simp[h2,h1,cT,eO,aA,iJ,e,aL,aB,aC,lim,lS,hl'];rfl
theorem z3x {a:Nat}{x3:Ax}{H:Hs}{acc:y'}(hn:n<=10) (ha:a<n) (hl:acc.length<=200) (e:getL H i=some (acc.map aG)):
  ∃y3,cX (aO gM (aB (m2 bF (aA 2) (mC (.int 1))) (aB (m2 aR (aA 0) (mC (.int 0))) aC))) (aD 3) oQ [some (aM n ps),some (.ref i),some (.int a),x3] H =
   .nx [some (aM n ps),some (.ref i),some (.int a),y3] (H.set i (.lst ((acc++gS ps a (n - (a+1))).map aG))):=by
 have hi:aO gM (aB (m2 bF (aA 2) (mC (.int 1))) (aB (m2 aR (aA 0) (mC (.int 0))) aC)) [some (aM n ps),some (.ref i),some (.int a),x3] H=.ok (cG ((a:Int)+1) n) H:=by have q:aB (m2 bF (aA 2) (mC (.int 1))) (aB (m2 aR (aA 0) (mC (.int 0))) aC) [some (aM n ps),some (.ref i),some (.int a),x3] H=.ok [.int ((a:Int)+1),.int n] H:=rfl;unfold aO;rw[q,Rs.bind_ok];exact OY (by omega) (by omega) (by omega) (by omega)
 have hN:(cG ((a:Int)+1) n).n=n - (a+1):=by show((n:Int) - ((a:Int)+1)).toNat=_;omega
 obtain⟨ρ',H',h1,y3,h2,h3⟩:=mD (b:=oQ) (sg:=aD 3) hi (λk ρ H'=>∃y3,ρ=[some (aM n ps),some (.ref i),some (.int a),y3]/\H'=H.set i (.lst ((acc++gS ps a k).map aG)))
  (λk ρ H' hk ⟨y3,e1,e2⟩=>by
   subst e1;subst e2;have e':getL (H.set i (.lst ((acc++gS ps a k).map aG))) i=some ((acc++gS ps a k).map aG):=lY e;refine⟨.int ((a:Int)+1+(k:Int)),_,_,_,rfl,rfl,z3w e' (by have:=looseB_len ps a k;rw[bw];omega),_,rfl, ?_⟩;rw[List.set_set,gS,oj]) (λ_ _ _=>rfl) ⟨x3,rfl,by
   have self:H.set i (.lst (acc.map aG))=H:=by
    apply oq
    intro k
    by_cases hk:i=k
    ·subst hk;rw[dg (lZ e),cU e]
    ·rw[dw hk]
   rw[gS,qe,self]⟩
 rw[hN]at h3;exact⟨y3,by rw[h1,h2,h3]⟩
theorem loose_ok {H:Hs}(hn:n<=10):F_qj [aM n ps] H=.ok (.ref H.length) (H++[.lst ((loose n ps).map aG)]):=by
 have e0:getL (H++[.lst []]) H.length=some (([]:y').map aG):=by simp[getL]
 have w0:aJ (aV aC) (aD 1) [some (aM n ps),none,none,none] H=.nx [some (aM n ps),some (.ref H.length),none,none] (H++[.lst []]):=rfl;have hi:aO bY (aB (m2 aR (aA 0) (mC (.int 0))) aC) [some (aM n ps),some (.ref H.length),none,none] (H++[.lst []])=.ok (cG 0 n) (H++[.lst []]):=by have q:aB (m2 aR (aA 0) (mC (.int 0))) aC [some (aM n ps),some (.ref H.length),none,none] (H++[.lst []])=.ok [.int n] (H++[.lst []]):=rfl;unfold aO;rw[q,Rs.bind_ok];exact AD (by omega) (by omega)
 have hN:(cG 0 (n:Int)).n=n:=by simp[cG]
 obtain⟨ρ',H',h1,y2,y3,h2,h3⟩:=mD (b:=cX (aO gM (aB (m2 bF (aA 2) (mC (.int 1))) (aB (m2 aR (aA 0) (mC (.int 0))) aC))) (aD 3) oQ) (sg:=aD 2) hi
  (λk ρ H'=>∃y2 y3,ρ=[some (aM n ps),some (.ref H.length),y2,y3]/\H'=H++[.lst ((gK n ps k).map aG)])
  (λk ρ H' hk ⟨y2,y3,e1,e2⟩=>by
   subst e1;subst e2;rw[hN]at hk;have e':getL (H++[.lst ((gK n ps k).map aG)]) H.length=some ((gK n ps k).map aG):=by simp[getL]
   have hb:(gK n ps k).length<=200:=by have h1:=O6 n ps k;have h2:k*n<=10*10:=my (by omega) hn;omega
   obtain⟨z3,hz⟩:=z3x (x3:=y3) (ps:=ps) hn hk hb e';refine⟨.int (0+(k:Int)),[some (aM n ps),some (.ref H.length),some (.int (k:Int)),y3],_,_,rfl,by simp[aD],hz,_,_,rfl, ?_⟩;rw[Y5,gK];rfl) (λ_ _ _=>rfl) ⟨none,none,rfl,rfl⟩
 rw[hN]at h3;show bH (pW [some (aM n ps),none,none,none] H)=_;have z:pW [some (aM n ps),none,none,none] H=.rt (.ref H.length) (H++[.lst ((loose n ps).map aG)]):=by show aH (aJ (aV aC) (aD 1)) (aH (cX (aO bY (aB (m2 aR (aA 0) (mC (.int 0))) aC)) (aD 2) (cX (aO gM (aB (m2 bF (aA 2) (mC (.int 1))) (aB (m2 aR (aA 0) (mC (.int 0))) aC))) (aD 3) oQ)) (aN (aA 1))) _ _=_;rw[bP w0,bP h1,h2,h3];rfl
 rw[z];rfl
end
def Lse (ps:y') (a b:Int):Prop:=a≠b/\(a,b)∉ps/\(b,a)∉ps
instance (ps:y') (a b:Int):Decidable (Lse ps a b):=by unfold Lse;infer_instance
theorem Cr {ps:y'}{a:Nat}{q:Int×Int}:∀{k:Nat},q∈gS ps a k↔∃j,j<k/\q=((a:Int),(a:Int)+1+(j:Int))/\q∉ps/\(q.2,q.1)∉ps
 |0=>by simp[gS]
 |k+1=>by
  unfold gS;rw[cz,Cr (k:=k)];constructor
  ·rintro (⟨j,hj,h⟩|h)
   ·exact⟨j,by omega,h⟩
   ·split at h
    ·simp at h
    ·rename_i c;rw[bz]at h;subst h;exact⟨k,by omega,rfl,λz=>c (.inl z),λz=>c (.inr z)⟩
  ·rintro ⟨j,hj,h,h1,h2⟩
   by_cases q:j=k
   ·subst q;right;subst h;rw[if_neg (λz=>z.elim h1 h2)];simp
   ·exact .inl ⟨j,by omega,h,h1,h2⟩
theorem O7 {n:Nat}{ps:y'}{q:Int×Int}:∀{k:Nat},q∈gK n ps k↔∃a,a<k/\q∈gS ps a (n - (a+1))
 |0=>by simp[gK]
 |k+1=>by
  unfold gK;rw[cz,O7 (k:=k)];constructor
  ·rintro (⟨a,ha,h⟩|h)
   ·exact⟨a,by omega,h⟩
   ·exact⟨k,by omega,h⟩
  ·rintro ⟨a,ha,h⟩
   by_cases q:a=k
   ·subst q;exact .inr h
   ·exact .inl ⟨a,by omega,h⟩
theorem Cd {n:Nat}{ps:y'}{q:Int×Int}:q∈loose n ps↔0<=q.1/\q.1<q.2/\q.2<n/\Lse ps q.1 q.2:=by
 unfold loose;rw[O7];constructor
 ·rintro ⟨a,ha,h⟩
  obtain⟨j,hj,rfl,h1,h2⟩:=Cr.mp h;exact⟨by omega,by simp only;omega,by simp only;omega,by simp only[ne_eq];omega,h1,h2⟩
 ·rintro ⟨h0,h1,h2,_,h3,h4⟩
  refine⟨q.1.toNat,by omega,Cr.mpr ⟨(q.2 - q.1 - 1).toNat,by omega, ?_,h3,h4⟩⟩
  apply Prod.ext <;> simp only <;> omega
section
variable{n:Nat}{ps:y'}{r:Int}{fs:Aq}
end
section
variable{n:Nat}{ps:y'}{r:Int}{fs:Aq}
end
section
variable{n:Nat}{ps:y'}{r:Int}{H:Hs}
theorem loose_is {a b:Int}:F_qv [aM n ps,.int a,.int b] H=.ok (.bl (decide (Lse ps a b))) H:=by
 have h1:=zW (n:=n) (ps:=ps) H;have t1:=nI true H (a,b) ps;have t2:=nI true H (b,a) ps;simp only[aG,if_true]at t1 t2;have hne:dG (.int a) (.int b) H=.ok (.bl (!(a==b))) H:=by simp[dG,cH,bQ,bK]
 generalize aM n ps=d at h1;simp only[Lse]
 by_cases c0:a=b
 ·subst c0;simp[F_qv,oK,aW,bV,aH,aJ,m2,aA,mC,h1,aD,aN,dX,hne,bH]
 ·have c0':(a==b)=false:=by simpa using c0
  by_cases c1:(a,b)∈ps
  ·simp[F_qv,oK,aW,bV,aH,aJ,m2,aA,mC,h1,aD,aN,dX,hne,c0',aL,aB,aC,lim,t1,c1,bH]
  ·simp[F_qv,oK,aW,bV,aH,aJ,m2,aA,mC,h1,aD,aN,dX,hne,c0',c0,aL,aB,aC,lim,t1,c1,t2,bH]
end
section
variable{n:Nat}{ps:y'}{r:Int}{H:Hs}{i j:Nat}{fs:Aq}{nd:List (Int×Int×Int)}
end
section
variable{n:Nat}{ps:y'}{r:Int}{H:Hs}{i j:Nat}{fs:Aq}{nd:List (Int×Int×Int)}{d:Dv}
theorem need_ok (o:Be n ps):F_qq [aM n ps] H=.ok .non H:=by simp[F_qq,mb_qq,aW,bV,bX,eJ,cB,aF,aB,aA,aC,z2z o,gF,cO,bH]
theorem need_bad (h:TK 3 H d) (hb:fK d=false):F_qq [d] H=.ex 0 H:=by have e:=z3t h;rw[hb]at e;simp[F_qq,mb_qq,aW,bV,bX,eJ,cB,aF,aB,aA,aC,e,gF,tM,mC,bH]
end
end L2.Mr.Cod
namespace L2.Mr.Com
open PySem PySem.Spec PyProof.Rows L2 L2.Mr
section
variable{P:Ev->Hs->Prop}{l l':Nat}{m m':M Dv}
end
section
variable{st n:Nat}{cs:y'}{at_ a b:Int}
variable(o:Be n cs)
include o
end
end L2.Mr.Com
namespace L2.Mr.Gen
open PySem PySem.Spec PyProof.Rows L2 L2.Mr L2.Mr.Com
theorem z3y {t u:M Bool}{ρ:Ev}{h h1:Hs}(e:t ρ h=.ok false h1):gX t u ρ h=u ρ h1:=by unfold gX;rw[e];rfl
theorem z3z (xs ys:Aw) (hl:xs.length+ys.length<=1000) {H:Hs}:bF (.tup xs) (.tup ys) H=.ok (.tup (xs++ys)) H:=by
 cases xs with
 |nil=>rfl
 |cons x xs=>
  have:(x::xs).length+ys.length<=1000000:=by omega
  have:xs.length+1+ys.length<=1000000:=by simp at this;omega
  simp[bF,jZ,lim,this]
section
variable{H:Hs}{xs:Aq}
theorem vO (ns:Aq):bU gH (ns.map Dv.int)=some ns:=by
 induction ns with
 |nil=>rfl
 |cons x xs ih=>simp[bU,gH,ih]
theorem sM {m:M Dv}{ρ:Ev}{H:Hs}{L:Int}(e:m ρ H=.ok (.int L) H) (h0:0<=L) (h1:L<=1000):aO bY (aB m aC) ρ H=.ok (cG 0 L) H:=by
 have hr:gA L=true:=by simp[gA];omega
 simp[aO,aB,e,aC,bY,hr]
theorem vP {α:Type}(p:α->Bool) (f:α->Dv) (l:List α):(l.filterMap λq=>if p q then some (f q)else none)=(l.filter p).map f:=by
 induction l with
 |nil=>rfl
 |cons k l ih=>
  rw[br,jl]
  cases c:p k with
  |true=>simp only[if_true,da];rw[ih]
  |false=>simp only[cp,if_false];exact ih
theorem z40 (neg:Bool) (x:Int) {i:Nat}(e:getL H i=some (xs.map Dv.int)):cS neg (.int x) (.ref i) H=.ok (.bl (if neg then !decide (x∈xs)else decide (x∈xs))) H:=by
 have e':(xs.map Dt.int).any (λt=>bK t (.int x))=decide (x∈xs):=by
  rw[dm];simp only[wd,pf,xh,decide_eq_true_eq];constructor
  ·rintro ⟨q,hq,h⟩
   have:q=x:=by simpa[bK]using h
   rw[<-this];exact hq
  ·intro h;exact⟨x,h,by simp[bK]⟩
 have h1:bU (bQ cH H) (xs.map Dv.int)=some (xs.map Dt.int):=uG 29 H xs;have h2:bQ cH H (.int x)=some (.int x):=rfl;show lW [] neg (.int x) (.ref i) H=_;simp only[lW,fY,e,h1,h2,e']
theorem z41 {mi:M Src}{cap:List (Option Nat)}{sg:dQ}{t:M Bool}{m:MC}{ρ ρ':Ev}{H H1 H':Hs}{src:Src}{acc:Aw}(e:mi ρ H=.ok src H1) (h:eV src sg t m src.n 0 (iI cap ρ) H1 []=.ok (ρ',acc) H'):bC mi cap sg t m ρ H=.ok acc H':=by unfold bC;rw[e,Rs.bind_ok,h]
theorem qB {m:M Dv}{ρ ρ1:Ev}{i:Nat}{H H':Hs}{v:Dv}(e:m ρ H=.ok v H') (hs:aD i v ρ=some ρ1):aJ m (aD i) ρ H=.nx ρ1 H':=by simp[aJ,e,hs]
theorem AG {m:M Aw }{ρ:Ev}{i:Nat}{H H':Hs}{ds:Aw}{ρ1:Ev}(e:m ρ H=.ok ds H') (hs:aD i (.ref H'.length) ρ=some ρ1):aJ (aZ m) (aD i) ρ H=.nx ρ1 (H'++[.lst ds]):=by
 have ea:aZ m ρ H=.ok (.ref H'.length) (H'++[.lst ds]):=by unfold aZ;rw[e];rfl
 exact qB ea hs
theorem iM {f:Dv->Dv->Hs->Rs Dv}{ma mb:M Dv}{ρ:Ev}{H H1 H2 H3:Hs}{x y z:Dv}(ha:ma ρ H=.ok x H1) (hb:mb ρ H1=.ok y H2) (hf:f x y H2=.ok z H3):m2 f ma mb ρ H=.ok z H3:=by unfold m2;rw[ha,Rs.bind_ok,hb,Rs.bind_ok,hf]
end
end L2.Mr.Gen
namespace L2.Mr.K05
open PySem PySem.Spec PyProof.Rows L2 L2.Mr L2.Mr.Com L2.Mr.Gen
theorem need_ok {n:Nat}{ps:y'}{H:Hs}(o:Be n ps):F_qq [aM n ps] H=.ok .non H:=Cod.need_ok o
theorem loose_is {n:Nat}{ps:y'}{H:Hs}{a b:Int}:F_qv [aM n ps,.int a,.int b] H=.ok (.bl (decide (Cod.Lse ps a b))) H:=Cod.loose_is
theorem z42 {n:Nat}{ps:y'}{H:Hs}(hn:n<=10):F_qj [aM n ps] H=.ok (.ref H.length) (H++[.lst ((Cod.loose n ps).map aG)]):=Cod.loose_ok hn
def ix (ns:Aq) (k:Int):Nat:=(fO k ns).getD 0
theorem vQ {k:Int}:∀{ns:Aq},k∈ns->fO k ns=some (ix ns k)
 | [],h=>nomatch h
 |n::ns,h=>by
  unfold ix fO
  by_cases c:n=k
  ·rw[if_pos c];rfl
  ·rw[if_neg c];have hm:k∈ns:=(bh.mp h).elim (λz=>absurd z.symm c) id;rw[vQ hm];rfl
theorem oR {k:Int}{ns:Aq}(h:k∈ns):ix ns k<ns.length:=(ax.mp (uE (vQ h)).1).1
theorem AH {a b:Int}{ns:Aq}(ha:a∈ns) (hb:b∈ns) (e:ix ns a=ix ns b):a=b:=by have h1:=(uE (vQ ha)).1;have h2:=(uE (vQ hb)).1;rw[e,h2]at h1;exact(cw h1).symm
theorem oS {ns ms:Aq}{k:Int}(h:k∈ns):ix (ns++ms) k=ix ns k:=by
 have key:∀{ns:Aq},k∈ns->fO k (ns++ms)=fO k ns:=by
  intro ns
  induction ns with
  |nil=>intro h;cases h
  |cons x xs ih=>
   intro h;show fO k (x::(xs++ms))=_;unfold fO
   by_cases c:x=k
   ·rw[if_pos c,if_pos c]
   ·rw[if_neg c,if_neg c,ih ((bh.mp h).elim (λz=>absurd z.symm c) id)]
 unfold ix;rw[key h]
theorem vR {ns:Aq}{k:Int}(h:k∉ns):ix (ns++[k]) k=ns.length:=by
 have key:∀{ns:Aq},k∉ns->fO k (ns++[k])=some ns.length:=by
  intro ns
  induction ns with
  |nil=>intro _;show fO k [k]=some 0;unfold fO;rw[if_pos rfl]
  |cons x xs ih=>intro h;show fO k (x::(xs++[k]))=_;unfold fO;rw[if_neg (λz=>h (by rw[z];exact bg ..)),ih (λz=>h (au _ z))];rfl
 unfold ix;rw[key h];rfl
section
variable{n:Nat}{ps:y'}{H:Hs}{ns:Aq}{ρ:Ev}
theorem qC {a:Nat}{me:M Dv}{k:Int}(h1:aA a ρ=λH=>.ok (.tup (ns.map Dv.int)) H) (h2:me ρ H=.ok (.int k) H) (hk:k∈ns):eQ (aA a) me ρ H=.ok (.int (ix ns k)) H:=by simp[eQ,h1,LK,h2,DC,vO,vQ hk]
theorem Cp {x:Int}:x∈cE n↔0<=x/\x<n:=by
 unfold cE;rw[cg];constructor
 ·rintro ⟨k,hk,rfl⟩
  have:=bx.mp hk;omega
 ·intro h;exact⟨x.toNat,bx.mpr (by omega),by omega⟩
theorem rng_up:(cE n).Pairwise (·<·):=by unfold cE;exact si.mpr ((zd).imp λh=>by omega)
theorem vS:(cE n).Nodup:=rng_up.imp λh=>by omega
theorem qD (hr:∀x∈ns,0<=x/\x<n) (nd:ns.Nodup) (hl:ns.length=n) {x:Int}(h0:0<=x) (h1:x<n):x∈ns:=by
 by_cases c:x∈ns
 ·exact c
 ·exfalso
  have nd':(x::ns).Nodup:=jv.mpr ⟨c,nd⟩;have:=nd'.length_le_of_subset (l₂:=cE n) λy hy=>by
   rcases bh.mp hy with rfl|hy
   ·exact Cp.mpr ⟨h0,h1⟩
   ·exact Cp.mpr (hr y hy)
  simp[cE]at this;omega
end
section
variable{n:Nat}{ps:y'}{H:Hs}{ns:Aq}
theorem gtC_ok {mi:M Src}{cap:List (Option Nat)}{ρ:Ev}(o:Be n ps) (hm:∀x:Int,0<=x->x<n->x∈ns) (hi:mi ρ H=.ok (eK (ps.map aG)) H) (hc:iI cap ρ=[none,none,some (.tup (ns.map Dv.int))]):bC mi cap (cM 2 (bA (aD 0) (bA (aD 1) cP))) (mB (m2 kE (eQ (aA 2) (aA 0)) (eQ (aA 2) (aA 1)))) (aY (mC (.int 1))) ρ H=.ok ((ps.filter λq=>decide (ix ns q.1>ix ns q.2)).map λ_=>Dv.int 1) H:=by
 have w:=gJ (sg:=cM 2 (bA (aD 0) (bA (aD 1) cP))) (t:=mB (m2 kE (eQ (aA 2) (aA 0)) (eQ (aA 2) (aA 1)))) (e:=mC (.int 1)) ps (λq=>if decide (ix ns q.1>ix ns q.2)then some ((λ_=>Dv.int 1) q)else none) (λρ=>∃a b,ρ=[a,b,some (.tup (ns.map Dv.int))]) hi (by simp[eK]) ⟨_,_,hc⟩ rfl (λk hk ρ ⟨a,b,e⟩=>by
   subst e;refine⟨aG ps[k],[some (.int ps[k].1),some (.int ps[k].2),some (.tup (ns.map Dv.int))],by simp[eK,hk],rfl,⟨_,_,rfl⟩, ?_⟩;have r:=o.rng ps[k] (de hk);have i1:=qC (H:=H) (ns:=ns) (a:=2) (me:=aA 0) (ρ:=[some (.int ps[k].1),some (.int ps[k].2),some (.tup (ns.map Dv.int))]) rfl rfl (hm _ r.1 r.2.1);have i2:=qC (H:=H) (ns:=ns) (a:=2) (me:=aA 1) (ρ:=[some (.int ps[k].1),some (.int ps[k].2),some (.tup (ns.map Dv.int))]) rfl rfl (hm _ r.2.2.1 r.2.2.2);have hd:decide ((ix ns ps[k].1:Int)>(ix ns ps[k].2:Int))=decide (ix ns ps[k].1>ix ns ps[k].2):=by rw[dm];simp
   have hg:kE (.int (ix ns ps[k].1:Int)) (.int (ix ns ps[k].2:Int)) H=.ok (.bl (decide (ix ns ps[k].1>ix ns ps[k].2))) H:=by show jB _ _ _ H=_;simp only[jB,hd]
   have t:mB (m2 kE (eQ (aA 2) (aA 0)) (eQ (aA 2) (aA 1))) [some (.int ps[k].1),some (.int ps[k].2),some (.tup (ns.map Dv.int))] H=.ok (decide (ix ns ps[k].1>ix ns ps[k].2)) H:=by unfold mB;rw[iM i1 i2 hg];rfl
   cases c:decide (ix ns ps[k].1>ix ns ps[k].2)with
   |true=>rw[c]at t;exact⟨t,rfl⟩
   |false=>rw[c]at t;exact t) (by have:=o.len;omega)
 exact w.trans (congrArg (λl=>Rs.ok l _) (vP _ _ _))
end
open L2.Mr.Cod (loose gK gS Cd Lse)
section
variable{n:Nat}{ps:y'}{H:Hs}{ns:Aq}
def mT (ps:y') (a j:Nat):Ax:=if decide (Lse ps a ((a:Int)+1+j))then some (aG ((a:Int),(a:Int)+1+j))else none
theorem O8 (a:Nat):∀k,(bf k).filterMap (mT ps a)=(gS ps a k).map aG
 |0=>rfl
 |k+1=>by
  rw[ur,List.filterMap_append,O8 a k,gS,gr]
  congr 1
  show(List.filterMap (mT ps a) [k])=_;have ne:(a:Int)≠(a:Int)+1+k:=by omega
  by_cases c1:((a:Int),(a:Int)+1+(k:Int))∈ps
  ·simp[mT,Lse,c1]
  ·by_cases c2:((a:Int)+1+(k:Int),(a:Int))∈ps
   ·simp[mT,Lse,c1,c2]
   ·have:Lse ps a ((a:Int)+1+k):=⟨ne,c1,c2⟩
    simp[mT,this,c1,c2]
theorem O9:∀k,(bf k).flatMap (λa=>(bf (n - (a+1))).filterMap (mT ps a))=(gK n ps k).map aG
 |0=>rfl
 |k+1=>by rw[ur,An,O9 k,gK,gr];simp[O8]
theorem vT (hn:n<=6):(loose n ps).length<=36:=by
 have hB:∀k,(gK n ps k).length<=k*6:=by
  intro k
  induction k with
  |zero=>exact aj _
  |succ k ih=>rw[gK,bw];have:=Cod.looseB_len ps k (n - (k+1));omega
 have:=hB n;unfold loose;omega
def FU:M Aw :=bC (aO bY (aB (aA 1) aC)) [none,none,some 0,some 1] (aD 0) bT (iH (aO gM (aB (m2 bF (aA 0) (mC (.int 1))) (aB (aA 3) aC))) (aD 1) (cB (aF F_qv (aB (aA 2) (aB (aA 0) (aB (aA 1) aC))))) (aY (aL (aB (aA 0) (aB (aA 1) aC)))))
theorem z43:rW=aH (cT (aF F_qq (aB (aA 0) aC))) (aH (aJ (m2 aR (aA 0) (mC (.int 0))) (aD 1)) (aN (aZ FU))):=rfl
theorem z44 {F:Av}{a b c:Dv}{ρ:Ev}{v:Bool}(ha:aA 2 ρ=λH=>.ok a H) (hb:aA 0 ρ=λH=>.ok b H) (hc:aA 1 ρ=λH=>.ok c H) (e:F [a,b,c] H=.ok (.bl v) H):cB (aF F (aB (aA 2) (aB (aA 0) (aB (aA 1) aC)))) ρ H=.ok v H:=by simp[cB,aF,aB,ha,hb,hc,aC,e,gF]
theorem z45 {ma mb:M Dv}{ρ:Ev}{A B:Int}(ea:ma ρ H=.ok (.int A) H) (eb:mb ρ H=.ok (.int B) H) (a0:0<=A) (a1:A<=1000) (b0:0<=B) (b1:B<=1000):aO gM (aB ma (aB mb aC)) ρ H=.ok (cG A B) H:=by
 have h1:gA A=true:=by simp[gA];omega
 have h2:gA B=true:=by simp[gA];omega
 simp[aO,aB,ea,eb,aC,gM,h1,h2]
theorem z46 (hn:n<=6):FU [some (aM n ps),some (.int n)] H=.ok ((loose n ps).map aG) H:=by
 have hr:=O9 (n:=n) (ps:=ps) n;have hlen:((bf n).flatMap (λa=>(bf (n - (a+1))).filterMap (mT ps a))).length<=900000:=by rw[hr,ba];have:=vT (ps:=ps) hn;unfold loose at this;omega
 have w:FU [some (aM n ps),some (.int n)] H=.ok ((bf n).flatMap (λa=>(bf (n - (a+1))).filterMap (mT ps a))) H:=
  OL (bf n) (λa=>bf (n - (a+1))) (mT ps) (λρ=>∃x y,ρ=[x,y,some (aM n ps),some (.int n)]) (src:=cG 0 n) (sM rfl (by omega) (by omega)) (by simp[cG]) ⟨_,_,rfl⟩ rfl (λk hk ρ ⟨x,y,e⟩=>by
   subst e;have Ct:k<n:=by simpa using hk
   have gk:(bf n)[k]=k:=nt ..;have h00:(0+(k:Int))=(k:Int):=by omega
   refine⟨.int (0+k),[some (.int (0+k)),y,some (aM n ps),some (.int n)],cG ((k:Int)+1) n,λρ=>∃y,ρ=[some (.int (k:Int)),y,some (aM n ps),some (.int n)],rfl,rfl,⟨y,by rw[h00]⟩,λρ ⟨y,e⟩=>⟨_,y,e⟩, ?_, ?_,rfl, ?_⟩
   ·rw[h00];exact z45 (A:=(k:Int)+1) (B:=(n:Int)) rfl rfl (by omega) (by omega) (by omega) (by omega)
   ·rw[gk];simp[cG];omega
   ·intro j hj ρ ⟨y,e⟩;subst e;have gj:(bf (n - ((bf n)[k]+1)))[j]=j:=nt ..;refine⟨.int ((k:Int)+1+j),[some (.int (k:Int)),some (.int ((k:Int)+1+j)),some (aM n ps),some (.int n)],rfl,rfl,⟨_,rfl⟩, ?_⟩;have t:=z44 (ρ:=[some (.int (k:Int)),some (.int ((k:Int)+1+j)),some (aM n ps),some (.int n)]) rfl rfl rfl (loose_is (n:=n) (ps:=ps) (H:=H) (a:=(k:Int)) (b:=(k:Int)+1+j));rw[gj,gk];unfold mT
    cases c:decide (Lse ps (k:Int) ((k:Int)+1+j))with
    |true=>rw[c]at t;exact⟨t,rfl⟩
    |false=>rw[c]at t;exact t) hlen
 rw[hr]at w;exact w
theorem lpairs_ok (o:Be n ps):F_qi [aM n ps] H=.ok (.ref H.length) (H++[.lst ((loose n ps).map aG)]):=by
 have hn:=need_ok (H:=H) o;have w1:cT (aF F_qq (aB (aA 0) aC)) [some (aM n ps),none] H=.nx [some (aM n ps),none] H:=by generalize aM n ps=z at hn;simp[cT,aF,aB,aA,aC,hn]
 have w2:aJ (m2 aR (aA 0) (mC (.int 0))) (aD 1) [some (aM n ps),none] H=.nx [some (aM n ps),some (.int n)] H:=rfl;show bH (rW [some (aM n ps),none] H)=_;rw[z43,bP w1,bP w2];unfold aN aZ;rw[z46 o.n6];rfl
def fP (ns:Aq) (q:Int×Int):Int:=if(ix ns q.1:Int) - ix ns q.2<0 then -((ix ns q.1:Int) - ix ns q.2)else(ix ns q.1:Int) - ix ns q.2
theorem FV (q:Int×Int):0<=fP ns q:=by unfold fP;split <;> omega
theorem z47 {ma mb:M Dv}{ρ:Ev}{A B:Int}(ea:ma ρ H=.ok (.int A) H) (eb:mb ρ H=.ok (.int B) H):aF (f1 lQ) (aB (m2 hO ma mb) aC) ρ H=.ok (.int (if A - B<0 then -(A - B)else A - B)) H:=by have hs:hO (.int A) (.int B) H=.ok (.int (A - B)) H:=rfl;have e:=iM ea eb hs;generalize A - B=C at e;generalize m2 hO ma mb=M at e;simp[aF,aB,e,aC,f1,lQ]
theorem PB {a:Nat}{m0 m1:M Dv}{ρ:Ev}{q:Int×Int}(h1:aA a ρ=λH=>.ok (.tup (ns.map Dv.int)) H) (e0:m0 ρ H=.ok (.int q.1) H) (e1:m1 ρ H=.ok (.int q.2) H) (k0:q.1∈ns) (k1:q.2∈ns):aF (f1 lQ) (aB (m2 hO (eQ (aA a) m0) (eQ (aA a) m1)) aC) ρ H=.ok (.int (fP ns q)) H:=z47 (qC h1 e0 k0) (qC h1 e1 k1)
theorem z48 {q:Int×Int}(k0:q.1∈ns) (k1:q.2∈ns):F_q6 [.tup (ns.map Dv.int),aG q] H=.ok (.int (fP ns q)) H:=by have e:=PB (H:=H) (ns:=ns) (a:=0) (m0:=m2 aR (aA 1) (mC (.int 0))) (m1:=m2 aR (aA 1) (mC (.int 1))) (ρ:=[some (.tup (ns.map Dv.int)),some (aG q)]) (q:=q) rfl rfl rfl k0 k1;show bH (uU [some (.tup (ns.map Dv.int)),some (aG q)] H)=_;unfold uU aN;rw[e];rfl
def dY (n:Nat) (ps:y') (ns:Aq):Int:=if(loose n ps).map (fP ns)=[]then 0 else cV ((loose n ps).map (fP ns))
def vU:M Aw :=bC (aX bG (aA 1)) [none,some 0] (aD 0) bT (aY (aF F_q6 (aB (aA 1) (aB (aA 0) aC))))
theorem z49:uV=aN (m1 (rV 0) (aZ vU)):=rfl
theorem z4a {F:Av}{a b v:Dv}{x y:Nat}{ρ:Ev}(ha:aA x ρ=λH=>.ok a H) (hb:aA y ρ=λH=>.ok b H) (e:F [a,b] H=.ok v H):aF F (aB (aA x) (aB (aA y) aC)) ρ H=.ok v H:=by simp[aF,aB,ha,hb,aC,e]
theorem z4b {i:Nat}(g:getL H i=some ((loose n ps).map aG)) (hn:n<=6) (hm:∀x:Int,0<=x->x<n->x∈ns):vU [some (.tup (ns.map Dv.int)),some (.ref i)] H=.ok (((loose n ps).map (fP ns)).map Dv.int) H:=by have w:vU [some (.tup (ns.map Dv.int)),some (.ref i)] H=.ok ((loose n ps).filterMap λq=>some (.int (fP ns q))) H:=gJ (loose n ps) (λq=>some (.int (fP ns q))) (λρ=>∃a,ρ=[a,some (.tup (ns.map Dv.int))]) (src:=bR i ((loose n ps).map aG).length) (by simp[aX,aA,bG,g]) (by simp[bR]) ⟨_,rfl⟩ (by simp[bR,g]) (λk hk ρ ⟨a,e⟩=>by subst e;refine⟨aG (loose n ps)[k],[some (aG (loose n ps)[k]),some (.tup (ns.map Dv.int))],by simp[bR,g,hk],rfl,⟨_,rfl⟩,rfl, ?_⟩;have r:=Cd.mp (de hk);exact z4a rfl rfl (z48 (hm _ r.1 (by omega)) (hm _ (by omega) (by omega)))) (by have:=vT (ps:=ps) hn;omega);rw[w,jg];simp[pb]
theorem ga_ok {i:Nat}(g:getL H i=some ((loose n ps).map aG)) (hn:n<=6) (hm:∀x:Int,0<=x->x<n->x∈ns):∃H',F_qd [.tup (ns.map Dv.int),.ref i] H=.ok (.int (dY n ps ns)) H'/\Fr [] H H':=by
 have e:=z4b (H:=H) g hn hm;have ea:aZ vU [some (.tup (ns.map Dv.int)),some (.ref i)] H=.ok (.ref H.length) (H++[.lst (((loose n ps).map (fP ns)).map Dv.int)]):=by unfold aZ;rw[e];rfl
 have g2:getL (H++[Ob.lst (((loose n ps).map (fP ns)).map Dv.int)]) H.length=some (((loose n ps).map (fP ns)).map Dv.int):=Cod.last_get;have f:Fr [] H (H++[Ob.lst (((loose n ps).map (fP ns)).map Dv.int)]):=Fr.app;unfold dY;generalize (loose n ps).map (fP ns)=L at ea g2 f;generalize H++[Ob.lst (L.map Dv.int)]=H1 at ea g2 f;refine⟨H1, ?_,f⟩;show bH (uV [some (.tup (ns.map Dv.int)),some (.ref i)] H)=_;rw[z49];generalize aZ vU=M at ea;generalize ns.map Dv.int=ys at ea;simp[aN,m1,ea,rV,g2,vO,bH]
end
section
variable{n:Nat}{ps:y'}{H:Hs}{ns:Aq}
theorem eq_int (a b:Int):cA (.int a) (.int b) H=.ok (.bl (decide (a=b))) H:=by
 have:(a==b)=decide (a=b):=by rw[dm];simp
 simp[cA,cH,bQ,bK,this]
theorem z4c {L:Aq}(h:∀x∈L,0<=x):cV (0::L)=if L=[]then 0 else cV L:=by
 have m1:=L2.Mr.maxI_is (ns:=0::L) (by simp)
 by_cases c:L=[]
 ·subst c;rfl
 ·rw[if_neg c];have m2:=L2.Mr.maxI_is c;have a:cV L<=cV (0::L):=m1.2 _ (au _ m2.1);have b:cV (0::L)<=cV L:=by
   rcases bh.mp m1.1 with z|z
   ·rw[z];exact h _ m2.1
   ·exact m2.2 _ z
  omega
def qE:M Aw :=bC (aX bG (aF F_qj (aB (aA 0) aC))) [none,none,some 1] (cM 2 (bA (aD 0) (bA (aD 1) cP))) bT (aY (aF (f1 lQ) (aB (m2 hO (eQ (aA 2) (aA 0)) (eQ (aA 2) (aA 1))) aC)))
theorem z4d:uX=aN (aF (f1 (fJ cV)) (aB (m2 bF (aV (aB (mC (.int 0)) aC)) (aZ qE)) aC)):=rfl
theorem z4e {F:Av}{a:Dv}{x i:Nat}{ρ:Ev}{H1:Hs}{xs:Aw}(ha:aA x ρ=λH=>.ok a H) (e:F [a] H=.ok (.ref i) H1) (g:getL H1 i=some xs):aX bG (aF F (aB (aA x) aC)) ρ H=.ok (bR i xs.length) H1:=by simp[aX,aF,aB,ha,aC,e,bG,g]
theorem z4f {m:M Dv}{ρ:Ev}{i:Nat}{Z:Aq}{H3:Hs}(em:m ρ H=.ok (.ref i) H3) (g3:getL H3 i=some (Z.map Dv.int)) (lp:0<Z.length):bH (aN (aF (f1 (fJ cV)) (aB m aC)) ρ H)=.ok (.int (cV Z)) H3:=by simp[aN,aF,aB,em,aC,f1,fJ,g3,vO,lp,bH]
theorem lspan_ok (o:Be n ps) (hm:∀x:Int,0<=x->x<n->x∈ns):∃H',F_qt [aM n ps,.tup (ns.map Dv.int)] H=.ok (.int (dY n ps ns)) H'/\Fr [] H H':=by
 have f0:Fr [] H (H++[Ob.lst [.int 0]]):=Fr.app;have g0:getL (H++[Ob.lst [.int 0]]) H.length=some ([0].map Dv.int):=Cod.last_get;have e0:aV (aB (mC (.int 0)) aC) [some (aM n ps),some (.tup (ns.map Dv.int))] H=.ok (.ref H.length) (H++[.lst [.int 0]]):=rfl;generalize H++[Ob.lst [.int 0]]=H0 at f0 g0 e0;generalize H.length=i0 at g0 e0;have e2:=z42 (n:=n) (ps:=ps) (H:=H0) (by have:=o.n6;omega);have g:getL (H0++[Ob.lst ((loose n ps).map aG)]) H0.length=some ((loose n ps).map aG):=Cod.last_get;have f:Fr [] H0 (H0++[Ob.lst ((loose n ps).map aG)]):=Fr.app;generalize H0++[Ob.lst ((loose n ps).map aG)]=H1 at e2 g f;generalize H0.length=i at e2 g;have w:qE [some (aM n ps),some (.tup (ns.map Dv.int))] H0=.ok ((loose n ps).filterMap λq=>some (.int (fP ns q))) H1:=gJ (loose n ps) (λq=>some (.int (fP ns q))) (λρ=>∃a b,ρ=[a,b,some (.tup (ns.map Dv.int))]) (z4e rfl e2 g) (by simp[bR]) ⟨_,_,rfl⟩ (by simp[bR,g]) (λk hk ρ ⟨a,b,e⟩=>by subst e;have r:=Cd.mp (de hk);exact⟨aG (loose n ps)[k],[some (.int (loose n ps)[k].1),some (.int (loose n ps)[k].2),some (.tup (ns.map Dv.int))],by simp[bR,g,hk],rfl,⟨_,_,rfl⟩,rfl,PB rfl rfl rfl (hm _ r.1 (by omega)) (hm _ (by omega) (by omega))⟩) (by have:=vT (ps:=ps) o.n6;omega);have w':qE [some (aM n ps),some (.tup (ns.map Dv.int))] H0=.ok (((loose n ps).map (fP ns)).map Dv.int) H1:=by rw[w,jg];simp[pb]
 have h0:∀x∈(loose n ps).map (fP ns),0<=x:=λx hx=>by obtain⟨q,_,rfl⟩:=cg.mp hx;exact FV q
 have hl:((loose n ps).map (fP ns)).length<=36:=by rw[ba];exact vT o.n6
 have hs:cV (0::(loose n ps).map (fP ns))=dY n ps ns:=z4c h0;generalize (loose n ps).map (fP ns)=L at w' hl hs;have ea:aZ qE [some (aM n ps),some (.tup (ns.map Dv.int))] H0=.ok (.ref H1.length) (H1++[.lst (L.map Dv.int)]):=by unfold aZ;rw[w'];rfl
 have g2:getL (H1++[Ob.lst (L.map Dv.int)]) H1.length=some (L.map Dv.int):=Cod.last_get;have f2:Fr [] H1 (H1++[Ob.lst (L.map Dv.int)]):=Fr.app;have g0':=f2.getL (f.getL g0 (by simp)) (by simp);generalize H1++[Ob.lst (L.map Dv.int)]=H2 at ea g2 f2 g0';generalize H1.length=i2 at ea g2;have a:=Cod.addL (H:=H2) g0' g2 (by simp;omega);have em:=iM e0 ea a;have hcat:[0].map Dv.int++L.map Dv.int=(0::L).map Dv.int:=rfl;rw[hcat]at em;have g3:getL (H2++[Ob.lst ((0::L).map Dv.int)]) H2.length=some ((0::L).map Dv.int):=Cod.last_get;have f3:Fr [] H2 (H2++[Ob.lst ((0::L).map Dv.int)]):=Fr.app;generalize H2++[Ob.lst ((0::L).map Dv.int)]=H3 at em g3 f3;generalize H2.length=i3 at em g3;refine⟨H3, ?_,((f0.trans f (by simp)).trans f2 (by simp)).trans f3 (by simp)⟩;show bH (uX [some (aM n ps),some (.tup (ns.map Dv.int))] H)=_;rw[z4d,<-hs];exact z4f em g3 (by simp)
end
theorem PC {α:Type}{p q:α->Bool}:∀{l:List α},(∀x∈l,p x=true->q x=true)->(∃a∈l,q a=true/\p a=false)->(l.filter p).length<(l.filter q).length
 | [],_,⟨_,h,_⟩=>nomatch h
 |x::l,h,⟨a,ha,hq,hp⟩=>by
  have le:(l.filter p).length<=(l.filter q).length:=by
   clear hq hp ha
   have h':∀x∈l,p x=true->q x=true:=λy hy=>h y (au _ hy)
   clear h
   induction l with
   |nil=>exact aj _
   |cons y l ih=>
    have i:=ih λz hz=>h' z (au _ hz);have hy:=h' y (bg ..);rw[jl,jl]
    cases c:p y with
    |true=>rw[hy c];simpa using i
    |false=>
     cases c2:q y with
     |true=>simp;omega
     |false=>simpa using i
  rw[jl,jl]
  rcases bh.mp ha with rfl|ha
  ·rw[hq,hp];simp;omega
  ·have i:=PC (l:=l) (λy hy=>h y (au _ hy)) ⟨a,ha,hq,hp⟩;have hx:=h x (bg ..)
   cases c:p x with
   |true=>rw[hx c];simpa using i
   |false=>
    cases c2:q x with
    |true=>simp;omega
    |false=>simpa using i
section
variable{n st:Nat}{ps:y'}{H:Hs}{xs:Aq}
theorem FW (o:Be n ps) {left:Aq}:∀(m:Nat) (x:Int),x∈left->(left.filter λa=>decide ((a,x)∈ps)).length<=m->∃z∈left,∀a∈left,(a,z)∉ps
 |m,x,hx,hm=>by
  by_cases c:∃a∈left,(a,x)∈ps
  ·obtain⟨a,ha,hp⟩:=c;have lt:=PC (l:=left) (p:=λb=>decide ((b,a)∈ps)) (q:=λb=>decide ((b,x)∈ps)) (λb _ hb=>by simp only[decide_eq_true_eq]at hb ⊢;exact o.tr _ hb _ hp rfl) ⟨a,ha,by simpa using hp,by simp;exact λz=>o.irr _ z rfl⟩
   match m,hm with
   |0,hm=>omega
   |m+1,hm=>exact FW o m a ha (by omega)
  ·exact⟨x,hx,λa ha hp=>c ⟨a,ha,hp⟩⟩
def fV (n:Nat) (xs:Aq):Aq:=(cE n).filter λx=>!decide (x∈xs)
theorem AI {m:M Aw }{ρ:Ev}{zs:Aq}(e:m ρ H=.ok (zs.map Dv.int) H):∃H',mB (m2 cA (aZ m) (aV aC)) ρ H=.ok (decide (zs=[])) H'/\Fr [] H H':=by
 have ea:aZ m ρ H=.ok (.ref H.length) (H++[.lst (zs.map Dv.int)]):=by unfold aZ;rw[e];rfl
 have g:getL (H++[Ob.lst (zs.map Dv.int)]) H.length=some (zs.map Dv.int):=Cod.last_get;have f:Fr [] H (H++[Ob.lst (zs.map Dv.int)]):=Fr.app;generalize H++[Ob.lst (zs.map Dv.int)]=H1 at ea g f;have g2:getL (H1++[Ob.lst []]) H1.length=some (([]:Aq).map Dv.int):=Cod.last_get;have q:=z2k (iK (l:=[Ob.lst []]) g) g2;refine⟨H1++[.lst []], ?_,f.trans (T:=[]) Fr.app (by simp)⟩;generalize aZ m=M at ea;simp[mB,m2,ea,aV,aC,lim,q,eI]
end
open L2.Mr.Cod (last_get addL gR)
section
variable{st:Nat}{H:Hs}{ρ:Ev}{ds:Aw}{a b:Nat}{y:Dv}
end
section
variable{c:Nat}(hc:c=0∨c=5) {H:Hs}{x0 x2 x3:Ax}
include hc
end
theorem z4g {ρ:Ev}{H H':Hs}{ds:Aw}(e:vL ρ H=.ok ds H'):∀x∈ds,fK x=false:=by
 have e2:Rs.ok _ _=Rs.ok ds H':=e;injection e2 with e3 e4;subst e3
 repeat' (first|exact vg _|refine uz.mpr ⟨rfl, ?_⟩)
theorem z4h {ρ:Ev}{H H':Hs}{ds:Aw}(e:vM ρ H=.ok ds H'):∀x∈ds,fK x=false:=by
 have e2:Rs.ok _ _=Rs.ok ds H':=e;injection e2 with e3 e4;subst e3
 repeat' (first|exact vg _|refine uz.mpr ⟨rfl, ?_⟩)
theorem z4i {ρ:Ev}{H H':Hs}{ds:Aw}(e:vN ρ H=.ok ds H'):∀x∈ds,fK x=false:=by
 have e2:Rs.ok _ _=Rs.ok ds H':=e;injection e2 with e3 e4;subst e3
 repeat' (first|exact vg _|refine uz.mpr ⟨rfl, ?_⟩)
def MnB (n:Nat) (H:Hs) (i:Nat):Prop:=∃ds,getL H i=some ds/\ds.length=n/\(∀x∈ds,TK 3 H x)/\∀x∈ds,fK x=false
section
variable{n m:Nat}{H H':Hs}{i j:Nat}
theorem MnB.fr0 (h:MnB n H i) (f:Fr [] H H'):MnB n H' i:=by obtain⟨ds,e,l,t,b⟩:=h;exact⟨ds,f.getL e (by simp),l,λx hx=>(t x hx).fr0 f,b⟩
theorem MnB.fr {st:Nat}(h:MnB n H i) (f:Fr [st] H H') (s:Com.St st H') (hi:i≠st):MnB n H' i:=by obtain⟨ds,e,l,t,b⟩:=h;exact⟨ds,f.getL e (by simpa using hi),l,λx hx=>(t x hx).fr f s,b⟩
theorem FX {ms:M Aw }{ρ:Ev}(h:mS (λ_ _=>True) 3 n ms) (hb:∀{ρ:Ev}{H H':Hs}{ds:Aw},ms ρ H=.ok ds H'->∀x∈ds,fK x=false) (hn:n<=500):∃i H',aV ms ρ H=.ok (.ref i) H'/\MnB n H' i/\Fr [] H H'/\H.length<=i:=by obtain⟨ds,H1,e1,f1,l1,t1⟩:=h ρ H trivial;refine⟨H1.length,H1++[.lst ds], ?_,⟨ds,last_get,l1,λx hx=>(t1 x hx).fr0 Fr.app,hb e1⟩,f1.trans (T:=[]) Fr.app (by simp),f1.le⟩;unfold aV lim;rw[e1,Rs.bind_ok,if_pos (by omega)]
theorem PD (a:MnB n H i) (b:MnB m H j) (hn:n+m<=500):∃H',bF (.ref i) (.ref j) H=.ok (.ref H.length) H'/\MnB (n+m) H' H.length/\Fr [] H H':=by
 obtain⟨ds,e1,l1,t1,b1⟩:=a;obtain⟨es,e2,l2,t2,b2⟩:=b;refine⟨_,addL e1 e2 (by omega),⟨ds++es,last_get,by simp[l1,l2],λx hx=>?_,λx hx=>?_⟩,Fr.app⟩
 ·rcases cz.mp hx with hx|hx
  ·exact(t1 x hx).fr0 Fr.app
  ·exact(t2 x hx).fr0 Fr.app
 ·rcases cz.mp hx with hx|hx
  ·exact b1 x hx
  ·exact b2 x hx
end
theorem bad_no {st:Nat}{H:Hs}(s:Com.St st H):∃d H',F_qb [.ref st] H=.ok d H'/\TK 3 H' d/\fK d=false/\Com.St st H'/\Fr [st] H H':=by
 have hP:O3 λ_ _=>True:=λ_ _ _ _ _=>trivial;have lt:=s.lt;have k1:mS (λ_ _=>True) 3 10 vL:=(by
   unfold vL
   repeat' (first|exact FI|apply FJ hP|exact FK|exact FL|exact FN|exact FO|exact FP|apply AF|apply FQ|apply FR)
   all_goals decide)
 have k2:mS (λ_ _=>True) 3 6 vM:=(by
   unfold vM
   repeat' (first|exact FI|apply FJ hP|exact FK|exact FL|exact FN|exact FO|exact FP|apply AF|apply FQ|apply FR)
   all_goals decide)
 have k3:mS (λ_ _=>True) 3 8 vN:=(by
   unfold vN
   repeat' (first|exact FI|apply FJ hP|exact FK|exact FL|exact FN|exact FO|exact FP|apply AF|apply FQ|apply FR)
   all_goals decide)
 obtain⟨i1,H1,e1,m1,f1,l1⟩:=FX (ρ:=[some (.ref st),none]) (H:=H) k1 z4g (by decide);obtain⟨j2,H2,e2,m2',f2,l2⟩:=FX (ρ:=[some (.ref st),some (.ref i1)]) (H:=H1) k2 z4h (by decide);obtain⟨H3,e3,m3,f3⟩:=PD (m1.fr0 f2) m2' (by decide);obtain⟨j4,H4,e4,m4,f4,l4⟩:=FX (ρ:=[some (.ref st),some (.ref H2.length)]) (H:=H3) k3 z4i (by decide);obtain⟨H5,e5,m5,f5⟩:=PD (m3.fr0 f4) m4 (by decide);have g:Fr [] H H5:=(((f1.trans f2 (by simp)).trans f3 (by simp)).trans f4 (by simp)).trans f5 (by simp);obtain⟨r,H6,r0,r1,t6,f6,s6⟩:=oP 24 (s.fr g (by simp));have hle:H.length<=H4.length:=((f1.trans (f2.trans (f3.trans f4 (by simp)) (by simp)) (by simp)):Fr [] H H4).le;obtain⟨ds,e7,l7,t7,b7⟩:=m5.fr f6 s6 (by omega);obtain⟨j,rfl⟩:∃j:Nat,r=j:=⟨r.toNat,by omega⟩
 have hj:j<ds.length:=by omega
 have e8:=gR e7 hj;refine⟨ds[j],H6, ?_,t7 _ (de hj),b7 _ (de hj),s6,(g.mono (T:=[st]) (by simp)).trans f6 (by simp)⟩;show bH (jN [some (.ref st),none] H)=_;have w1:aJ (aV vL) (aD 1) [some (.ref st),none] H=.nx [some (.ref st),some (.ref i1)] H1:=by unfold aJ;rw[e1];rfl
 have w2:aJ (L2.Mr.m2 bF (aA 1) (aV vM)) (aD 1) [some (.ref st),some (.ref i1)] H1=.nx [some (.ref st),some (.ref H2.length)] H3:=by unfold aJ;rw[FT rfl e2 e3];rfl
 have w3:aJ (L2.Mr.m2 bF (aA 1) (aV vN)) (aD 1) [some (.ref st),some (.ref H2.length)] H3=.nx [some (.ref st),some (.ref H4.length)] H5:=by unfold aJ;rw[FT rfl e4 e5];rfl
 rw[z3u,bP w1,bP w2,bP w3];simp[aN,L2.Mr.m2,aA,aF,aB,mC,aC,t6,e8,bH]
end L2.Mr.K05
namespace L2.Mr.Sam
open PySem PySem.Spec PyProof.Rows L2 L2.Mr L2.Mr.Gen
open L2.Mr.Com
section
variable{H:Hs}
theorem FY {n:Nat}{x:Int}:F_qs (n+1) [.int x,.int x] H=.ok (.bl true) H:=by simp[F_qs,iB,aW,bV,aH,bX,cB,m1,bB,aA,gG,pN,gF,cO,aN,dX,m2,cA,cH,bQ,bK,nF,bH]
abbrev PF (n:Nat):M Aw :=bC (aO pU (aB (aA 0) (aB (aA 1) aC))) [none,none] (cM 2 (bA (aD 0) (bA (aD 1) cP))) bT (aY (aF (F_qs n) (aB (aA 0) (aB (aA 1) aC))))
theorem PH {n:Nat}{d e:Dv}{src:Src}(zs:List (Dv×Dv)) (hi:aO pU (aB (aA 0) (aB (aA 1) aC)) [some d,some e] H=.ok src H) (hn:src.n=zs.length) (hf:src.fin H=true) (hg:∀k (hk:k<zs.length),src.get k H=some (.tup [zs[k].1,zs[k].2]))
  (hl:zs.length<=900000) (h:∀z∈zs,F_qs n [z.1,z.2] H=.ok (.bl true) H):mL kB (PF n) [some d,some e] H=.ok (.bl true) H:=by
 have hc:PF n [some d,some e] H=.ok (zs.filterMap λx=>some (.bl ((λ_=>true) x))) H:=gJ zs (λx=>some (.bl ((λ_=>true) x))) (λρ=>∃a b,ρ=[a,b]) hi hn ⟨_,_,rfl⟩ hf (λk hk ρ ⟨a,b,e⟩=>by subst e;refine⟨.tup [zs[k].1,zs[k].2],[some zs[k].1,some zs[k].2],hg k hk,rfl,⟨_,_,rfl⟩,rfl, ?_⟩;have:=h zs[k] (de hk);simp[aF,aB,aA,aC,this]) (by omega);have hz:=sE hc;have ht:zs.all (λ_=>true)=true:=by simp
 rw[ht]at hz;exact hz
theorem z4j {n:Nat}{xs:Aw}(hl:xs.length<=900000) (h:∀x∈xs,F_qs n [x,x] H=.ok (.bl true) H):F_qs (n+1) [.tup xs,.tup xs] H=.ok (.bl true) H:=by
 have hz:=PH (H:=H) (n:=n) (d:=.tup xs) (e:=.tup xs) (src:=lT xs xs) (xs.map λx=>(x,x)) rfl (by simp[lT,eK]) rfl (λk hk=>by
  have Ct:k<xs.length:=by simpa using hk
  simp[lT,eK,Ct]) (by simpa using hl) (λz hz=>by
  obtain⟨x,hx,rfl⟩:=cg.mp hz;exact h x hx)
 have e1:bB pN (.tup xs) H=.ok (.bl true) H:=rfl;have e2:bB hV (.tup xs) H=.ok (.bl true) H:=rfl;have e3:bB nG (.tup xs) H=.ok (.bl false) H:=rfl;have e4:f1 eW [.tup xs] H=.ok (.int xs.length) H:=rfl;have n1:dG (.bl true) (.bl true) H=.ok (.bl false) H:=rfl;have n2:dG (.bl false) (.bl false) H=.ok (.bl false) H:=rfl;have n3:∀i:Int,dG (.int i) (.int i) H=.ok (.bl false) H:=λi=>by simp[dG,cH,bQ,bK]
 simp[F_qs,iB,aW,bV,aH,bX,cB,m1,aA,e1,e2,e3,gF,gX,mB,m2,n1,n2,eI,cO,aF,aB,aC,e4,n3,aN,hz,bH]
theorem PJ {n i j:Nat}{xs ys:Aw}(gi:getL H i=some xs) (gj:getL H j=some ys) (hy:ys.length=xs.length) (hl:xs.length<=900000) (h:∀z∈xs.zip ys,F_qs n [z.1,z.2] H=.ok (.bl true) H):F_qs (n+1) [.ref i,.ref j] H=.ok (.bl true) H:=by
 have hb:pU [.ref i,.ref j] H=.ok (pT i j xs.length ys.length) H:=by simp[pU,gi,gj]
 have hza:mG i j xs.length ys.length H=some (xs.zip ys):=by simp[mG,gi,gj]
 have hz:=PH (H:=H) (n:=n) (d:=.ref i) (e:=.ref j) (src:=pT i j xs.length ys.length) (xs.zip ys) (by simp[aO,aB,aA,aC,hb]) (by simp[pT,hy]) (by simp[pT,hza]) (λk hk=>by simp only[pT,hza,ay hk,Option.map_some]) (by simp[hy];omega) h;have e1:bB pN (.ref j) H=.ok (.bl true) H:=by simp[bB,gG,gj,pN]
 have e2:bB hV (.ref i) H=.ok (.bl false) H:=by simp[bB,gG,gi,hV]
 have En:bB hV (.ref j) H=.ok (.bl false) H:=by simp[bB,gG,gj,hV]
 have e3:bB nG (.ref i) H=.ok (.bl true) H:=by simp[bB,gG,gi,nG]
 have e3':bB nG (.ref j) H=.ok (.bl true) H:=by simp[bB,gG,gj,nG]
 have e4:f1 eW [.ref i] H=.ok (.int xs.length) H:=by simp[f1,eW,gC,iQ,fY,gi]
 have e4':f1 eW [.ref j] H=.ok (.int xs.length) H:=by simp[f1,eW,gC,iQ,fY,gj,hy]
 have n1:dG (.bl true) (.bl true) H=.ok (.bl false) H:=rfl;have n2:dG (.bl false) (.bl false) H=.ok (.bl false) H:=rfl;have n3:∀i:Int,dG (.int i) (.int i) H=.ok (.bl false) H:=λi=>by simp[dG,cH,bQ,bK]
 simp[F_qs,iB,aW,bV,aH,bX,cB,m1,aA,e1,e2,En,e3,e3',gF,gX,mB,m2,n1,n2,eI,cO,aF,aB,aC,e4,e4',n3,aN,hz,bH]
theorem z4k {n:Nat}{xs:Aq}(hl:xs.length<=900000):F_qs (n+2) [.tup (xs.map Dv.int),.tup (xs.map Dv.int)] H=.ok (.bl true) H:=z4j (by simpa using hl) λy hy=>by obtain⟨p,_,rfl⟩:=cg.mp hy;exact FY
theorem PK {n i j:Nat}{xs:Aw}(gi:getL H i=some xs) (gj:getL H j=some xs) (hl:xs.length<=900000) (h:∀x∈xs,F_qs n [x,x] H=.ok (.bl true) H):F_qs (n+1) [.ref i,.ref j] H=.ok (.bl true) H:=
 PJ gi gj rfl hl λz hz=>by
  have:z.1∈xs/\z.1=z.2:=by obtain⟨k,hk,e⟩:=jw hz;rw[List.getElem_zip]at e;rw[<-e];exact⟨de _,rfl⟩
  rw[<-this.2];exact h z.1 this.1
theorem z4l {n i j:Nat}{xs:Aq}(gi:getL H i=some (xs.map Dv.int)) (gj:getL H j=some (xs.map Dv.int)) (hl:xs.length<=900000):F_qs (n+2) [.ref i,.ref j] H=.ok (.bl true) H:=PK gi gj (by simpa using hl) λy hy=>by obtain⟨p,_,rfl⟩:=cg.mp hy;exact FY
end
end L2.Mr.Sam
namespace L2.Mr.K04
open PySem PySem.Spec PyProof.Rows L2 L2.Mr L2.Mr.Gen
open L2.Mr.Com
open L2.Mr.Sam
open L2.Mr.Cod (last_get addL gR)
open L2.Mr.K05 (ix fV oS vR oR AH Cp vS qD AI qC)
abbrev aS (r:Aq):Dv:=.tup (r.map Dv.int)
def ext (n:Nat) (rs:Ap):Ap:=rs.flatMap λr=>(fV n r).map λx=>r++[x]
def gU (n:Nat):Nat->Ap
 |0=>[[]]
 |k+1=>ext n (gU n k)
def wt (ps:y') (r:Aq):Aq:=(ps.filter λq=>!decide (q.1∈r)).map λq=>q.2
def iD (n:Nat) (ps:y') (r:Aq):Aq:=(cE n).filter λx=>!decide (x∈r)&&!decide (x∈wt ps r)
def lI (n:Nat) (ps:y') (rs:Ap):Ap:=rs.flatMap λr=>(iD n ps r).map λx=>r++[x]
def dP (n:Nat) (ps:y'):Nat->Ap
 |0=>[[]]
 |k+1=>lI n ps (dP n ps k)
def jG (ps:y') (r:Aq):Bool:=ps.all λq=>!decide (q.2∈r)||(decide (q.1∈r)&&decide (ix r q.1<ix r q.2))
section
variable{n:Nat}{ps:y'}{r:Aq}
theorem Df:jG ps r=true↔∀q∈ps,q.2∈r->q.1∈r/\ix r q.1<ix r q.2:=by
 unfold jG;rw[gu];refine forall_congr' λq=>forall_congr' λ_=>?_
 by_cases h:q.2∈r <;> simp[h]
theorem Ey {x:Int}:x∈wt ps r↔∃q∈ps,q.1∉r/\q.2=x:=by simp only[wt,cg,gn,wg,decide_eq_false_iff_not,and_assoc]
theorem PL (o:Be n ps) {x:Int}(hx:x∉r):jG ps (r++[x])=(jG ps r&&!decide (x∈wt ps r)):=by
 rw[dm,fe,Df,Df,wg,decide_eq_false_iff_not,Ey];constructor
 ·intro h;refine⟨λq hq h2=>?_, ?_⟩
  ·obtain⟨a,b⟩:=h q hq (ic _ h2);rw[oS h2]at b;have l2:=oR h2
   rcases cz.mp a with a|a
   ·rw[oS a]at b;exact⟨a,b⟩
   ·simp only[bz]at a;rw[a,vR hx]at b;omega
  ·rintro ⟨q,hq,h1,h2⟩
   obtain⟨a,_⟩:=h q hq (by rw[h2];simp)
   rcases cz.mp a with a|a
   ·exact h1 a
   ·simp only[bz]at a;exact o.irr q hq (a.trans h2.symm)
 ·rintro ⟨h,hw⟩ q hq h2
  rcases cz.mp h2 with h2|h2
  ·obtain⟨a,b⟩:=h q hq h2;exact⟨ic _ a,by rw[oS a,oS h2];exact b⟩
  ·simp only[bz]at h2;have a:q.1∈r:=Classical.byContradiction λh1=>hw ⟨q,hq,h1,h2⟩;exact⟨ic _ a,by rw[oS a,h2,vR hx];exact oR a⟩
theorem z4m (o:Be n ps):((fV n r).map λx=>r++[x]).filter (jG ps)=if jG ps r then(iD n ps r).map λx=>r++[x]else[]:=by
 rw[List.filter_map];unfold fV iD;rw[List.filter_filter]
 cases c:jG ps r with
 |true=>
  rw[if_pos rfl]
  congr 1
  refine List.filter_congr λx _=>?_
  by_cases hx:x∈r
  ·simp[hx]
  ·simp[hx,PL o hx,c]
 |false=>
  rw[if_neg (by decide)];have:((cE n).filter λx=>(jG ps∘λx=>r++[x]) x&&!decide (x∈r))=[]:=zf.mpr λx _=>by
   by_cases hx:x∈r
   ·simp[hx]
   ·simp[hx,PL o hx,c]
  rw[this];rfl
theorem z4n (o:Be n ps) (rs:Ap):(ext n rs).filter (jG ps)=lI n ps (rs.filter (jG ps)):=by
 induction rs with
 |nil=>rfl
 |cons r rs ih=>
  have h1:ext n (r::rs)=((fV n r).map λx=>r++[x])++ext n rs:=rfl;rw[h1,List.filter_append,ih,z4m o,jl]
  cases jG ps r with
  |true=>rfl
  |false=>rfl
theorem sN (o:Be n ps):∀k,dP n ps k=(gU n k).filter (jG ps)
 |0=>by
  have:jG ps []=true:=Df.mpr λq _ h=>by simp at h
  simp[dP,gU,this]
 |k+1=>by show lI n ps (dP n ps k)=(ext n (gU n k)).filter (jG ps);rw[sN o k,z4n o]
theorem Cv {x:Int}:x∈fV n r↔(0<=x/\x<n)/\x∉r:=by unfold fV;rw[gn,Cp];simp
theorem qF:∀k,∀r∈gU n k,r.length=k/\r.Nodup/\∀x∈r,0<=x/\x<n
 |0,r,h=>by simp[gU]at h;subst h;simp
 |k+1,r,h=>by
  simp only[gU,ext,ph,cg]at h;obtain⟨s,hs,x,hx,rfl⟩:=h;obtain⟨a,b,c⟩:=qF k s hs;rw[Cv]at hx;refine⟨by simp[a], ?_,λy hy=>?_⟩
  ·rw[List.nodup_append];exact⟨b,by simp,λu hu v hv=>by simp only[bz]at hv;subst hv;intro e;exact hx.2 (e▸hu)⟩
  ·rcases cz.mp hy with hy|hy
   ·exact c y hy
   ·simp only[bz]at hy;subst hy;exact hx.1
theorem PM (hn:n<=6):(fV n r).length<=6:=by have:=lx (λx=>!decide (x∈r)) (cE n);simp[cE]at this;unfold fV;simp[cE];omega
theorem PN (hn:n<=6) (rs:Ap):(ext n rs).length<=rs.length*6:=by
 induction rs with
 |nil=>simp[ext]
 |cons r rs ih=>have h1:ext n (r::rs)=((fV n r).map λx=>r++[x])++ext n rs:=rfl;have:=PM (n:=n) (r:=r) hn;rw[h1,bw,ba,cy];omega
theorem PQ (hn:n<=6):∀k,(gU n k).length<=6 ^ k
 |0=>by simp[gU]
 |k+1=>by have h1:=PN hn (gU n k);have h2:=PQ hn k;show(ext n (gU n k)).length<=_;rw[Nat.pow_succ];omega
theorem FZ (hn:n<=6) {k:Nat}(hk:k<=n):(gU n k).length<=46656:=df (PQ hn k) (show 6 ^ k<=6 ^ 6 from Aj (by decide) (by omega))
theorem kK (o:Be n ps) {k:Nat}(hk:k<=n):(dP n ps k).length<=46656:=by rw[sN o];exact df (lx _ _) (FZ o.n6 hk)
theorem vV (o:Be n ps) {k:Nat}(h:r∈dP n ps k):r.length=k:=by rw[sN o]at h;exact(qF k r (gn.mp h).1).1
def lJ (ps:y') (r:Aq):Bool:=decide ((ps.filter λq=>decide (ix r q.1>ix r q.2))=[])
theorem z4o (o:Be n ps) (h:r∈gU n n):lJ ps r=jG ps r:=by obtain⟨a,b,c⟩:=qF n r h;have hm:∀x:Int,0<=x->x<n->x∈r:=λx h0 h1=>qD c b a h0 h1;rw[dm,Df];unfold lJ;rw[decide_eq_true_eq,zf];refine forall_congr' λq=>forall_congr' λhq=>?_;have rg:=o.rng q hq;have m1:=hm q.1 rg.1 rg.2.1;have m2:=hm q.2 rg.2.2.1 rg.2.2.2;have ne:ix r q.1≠ix r q.2:=λe=>o.irr q hq (AH m1 m2 e);simp only[m1,m2,true_and,forall_const,decide_eq_true_eq];omega
theorem z4p (o:Be n ps):(gU n n).filter (lJ ps)=dP n ps n:=by rw[sN o];exact List.filter_congr λr hr=>z4o o hr
end
abbrev AJ:M Aw :=bC (aX fZ (aA 3)) [none,none,some 1] (cM 2 (bA (aD 0) (bA (aD 1) cP))) (mB (m2 (cS true) (aA 0) (aA 2))) (aY (aA 1))
abbrev F0:M Aw :=bC (aO bY (aB (aA 2) aC)) [none,some 1,some 4] (aD 0) (jA (mB (m2 (cS true) (aA 0) (aA 1))) (mB (m2 (cS true) (aA 0) (aA 2)))) (aY (aA 0))
theorem z4q:uS=aH (aJ (aA 0) (cM 2 (bA (aD 2) (bA (aD 3) cP)))) (aH (aJ (aZ AJ) (aD 4)) (aN (aZ F0))):=rfl
section
variable{n st:Nat}{ps:y'}{H:Hs}{ρ:Ev}{r:Aq}
theorem z4r (o:Be n ps) {x0 x2 x4:Ax}:AJ [x0,some (aS r),x2,some (.tup (ps.map aG)),x4] H=.ok ((wt ps r).map Dv.int) H:=by
 have w:AJ [x0,some (aS r),x2,some (.tup (ps.map aG)),x4] H=.ok (ps.filterMap λq=>if !decide (q.1∈r)then some ((λq:Int×Int=>Dv.int q.2) q)else none) H:=
  gJ ps _ (λρ=>∃a b,ρ=[a,b,some (aS r)]) (src:=eK (ps.map aG)) rfl (by simp[eK]) ⟨_,_,rfl⟩ rfl (λk hk ρ ⟨a,b,e⟩=>by
   subst e;refine⟨aG ps[k],[some (.int ps[k].1),some (.int ps[k].2),some (aS r)],by simp[eK,hk],rfl,⟨_,_,rfl⟩, ?_⟩;have t2:cS true (.int ps[k].1) (aS r) H=.ok (.bl (!decide (ps[k].1∈r))) H:=DF true H ps[k].1 r;generalize aS r=ys at t2 ⊢
   cases c2:!decide (ps[k].1∈r)with
   |true=>rw[c2]at t2;simp[mB,m2,aA,t2,eI]
   |false=>rw[c2]at t2;simp[mB,m2,aA,t2,eI]) (by have:=o.len;omega)
 have:=w.trans (congrArg (λl=>Rs.ok l _) (vP _ _ _));unfold wt;rw[jg];exact this
theorem z4s (hn:n<=6) {x0 x3:Ax}{i:Nat}{ws:Aq}(g:getL H i=some (ws.map Dv.int)):F0 [x0,some (aS r),some (.int n),x3,some (.ref i)] H=.ok (((cE n).filter λx=>!decide (x∈r)&&!decide (x∈ws)).map Dv.int) H:=by
 have w:F0 [x0,some (aS r),some (.int n),x3,some (.ref i)] H=.ok ((cE n).filterMap λx=>if(!decide (x∈r)&&!decide (x∈ws))then some (Dv.int x)else none) H:=
  gJ (cE n) _ (λρ=>∃a,ρ=[a,some (aS r),some (.ref i)]) (src:=cG 0 n) (sM (m:=aA 2) rfl (by omega) (by omega)) (by simp[cG,cE]) ⟨_,rfl⟩ rfl (λk hk ρ ⟨a,e1⟩=>by
   subst e1;have gk:(cE n)[k]=(k:Int):=by simp[cE]
   refine⟨.int (0+k),[some (.int (0+k)),some (aS r),some (.ref i)],rfl,rfl,⟨_,rfl⟩, ?_⟩;have h00:(0+(k:Int))=(k:Int):=by omega
   rw[gk,h00];have t1:cS true (.int k) (aS r) H=.ok (.bl (!decide ((k:Int)∈r))) H:=DF true H (k:Int) r;have t2:cS true (.int k) (.ref i) H=.ok (.bl (!decide ((k:Int)∈ws))) H:=z40 true (k:Int) g;generalize aS r=ys at t1 ⊢
   cases c1:!decide ((k:Int)∈r)with
   |false=>rw[c1]at t1;simp[jA,mB,m2,aA,t1,eI]
   |true=>
    rw[c1]at t1
    cases c2:!decide ((k:Int)∈ws)with
    |true=>rw[c2]at t2;simp[jA,mB,m2,aA,t1,t2,eI]
    |false=>rw[c2]at t2;simp[jA,mB,m2,aA,t1,t2,eI]) (by simp[cE];omega)
 exact w.trans (congrArg (λl=>Rs.ok l _) (vP _ _ _))
theorem lK {C:M Aw }{xs:Aw}{H1:Hs}(e:C ρ H=.ok xs H1):aZ C ρ H=.ok (.ref H1.length) (H1++[.lst xs]):=by unfold aZ;rw[e];rfl
theorem oU {C:M Aw }{xs:Aw}{H1:Hs}(e:C ρ H=.ok xs H1):bH (aN (aZ C) ρ H)=.ok (.ref H1.length) (H1++[.lst xs]):=by unfold aN;rw[lK e];rfl
theorem z4t (o:Be n ps):∃i H',F_q4 [aM n ps,aS r] H=.ok (.ref i) H'/\getL H' i=some ((iD n ps r).map Dv.int)/\Fr [] H H':=by
 have e1:=z4r (H:=H) (r:=r) (x0:=some (aM n ps)) (x2:=some (.int n)) (x4:=none) o;obtain⟨H1,hH1⟩:∃H1,H1=H++[Ob.lst ((wt ps r).map Dv.int)]:=⟨_,rfl⟩
 have g1:getL H1 H.length=some ((wt ps r).map Dv.int):=by rw[hH1];exact last_get
 have f1:Fr [] H H1:=by rw[hH1];exact Fr.app
 have e2:=z4s (n:=n) (r:=r) (x0:=some (aM n ps)) (x3:=some (.tup (ps.map aG))) o.n6 g1;rw[show((cE n).filter λx=>!decide (x∈r)&&!decide (x∈wt ps r))=iD n ps r from rfl]at e2;refine⟨H1.length,H1++[Ob.lst ((iD n ps r).map Dv.int)], ?_,last_get,f1.trans (T:=[]) Fr.app (by simp)⟩;have w1:aJ (aA 0) (cM 2 (bA (aD 2) (bA (aD 3) cP))) [some (aM n ps),some (aS r),none,none,none] H=.nx [some (aM n ps),some (aS r),some (.int n),some (.tup (ps.map aG)),none] H:=rfl;have w2:aJ (aZ AJ) (aD 4) [some (aM n ps),some (aS r),some (.int n),some (.tup (ps.map aG)),none] H=.nx [some (aM n ps),some (aS r),some (.int n),some (.tup (ps.map aG)),some (.ref H.length)] H1:=by rw[hH1];exact AG e1 rfl
 show bH (uS [some (aM n ps),some (aS r),none,none,none] H)=_;rw[z4q,bP w1,bP w2];exact oU e2
abbrev AK:MC:=iH (aX bG (aF F_q4 (aB (aA 2) (aB (aA 0) aC)))) (aD 1) bT (aY (m2 bF (aA 0) (aL (aB (aA 1) aC))))
abbrev F1:M Aw :=bC (aX bG (aA 1)) [none,none,some 0] (aD 0) bT AK
theorem z4u:uT=aH (cT (aF F_qq (aB (aA 0) aC))) (aH (aJ (aV (aB (aL aC) aC)) (aD 1)) (aH (cX (aO bY (aB (m2 aR (aA 0) (mC (.int 0))) aC)) (aD 2) (aJ (aZ F1) (aD 1))) (aN (aA 1)))):=rfl
theorem PR {i j:Nat}{x:Int}(hr:r.length<=100) (h0:aA i ρ=λH=>.ok (aS r) H) (h1:aA j ρ=λH=>.ok (.int x) H):m2 bF (aA i) (aL (aB (aA j) aC)) ρ H=.ok (aS (r++[x])) H:=by
 have e2:aL (aB (aA j) aC) ρ H=.ok (.tup [.int x]) H:=by simp[aL,aB,h1,aC,lim]
 have a:=z3z (r.map Dv.int) [.int x] (by simp;omega) (H:=H);have e3:=iM (ma:=aA i) (H1:=H) (x:=aS r) (by rw[h0]) e2 a;have hc:r.map Dv.int++[.int x]=(r++[x]).map Dv.int:=by simp
 rw[hc]at e3;exact e3
theorem z4v {F:Av}{a b:Dv}{x y i:Nat}{H1:Hs}{xs:Aw}(ha:aA x ρ=λH=>.ok a H) (hb:aA y ρ=λH=>.ok b H) (e:F [a,b] H=.ok (.ref i) H1) (g:getL H1 i=some xs):aX bG (aF F (aB (aA x) (aB (aA y) aC))) ρ H=.ok (bR i xs.length) H1:=by simp[aX,aF,aB,ha,hb,aC,e,bG,g]
theorem z4w (o:Be n ps) (hr:r.length<=100) {b:Ax}{acc:Aw}(hl:acc.length+((iD n ps r).map λx=>aS (r++[x])).length<=900000):∃b' H',AK [some (aS r),b,some (aM n ps)] H acc=.ok ([some (aS r),b',some (aM n ps)],acc++(iD n ps r).map λx=>aS (r++[x])) H'/\Fr [] H H':=by
 obtain⟨i,H1,e1,g1,f1⟩:=z4t (H:=H) (r:=r) o;have fm:∀l:Aq,(l.flatMap λx=>[aS (r++[x])])=l.map λx=>aS (r++[x]):=λl=>by
  induction l with
  |nil=>rfl
  |cons x l ih=>rw[iz,ih];rfl
 have es:=z4v (F:=F_q4) (ρ:=[some (aS r),b,some (aM n ps)]) (x:=2) (y:=0) rfl rfl e1 g1;obtain⟨ρ',H',e,⟨b',eb⟩,eh⟩:=vD (src:=bR i ((iD n ps r).map Dv.int).length) (sg:=aD 1) (t:=bT) (m:=aY (m2 bF (aA 0) (aL (aB (aA 1) aC)))) (iD n ps r) (λx=>[aS (r++[x])]) (λρ h=>(∃b,ρ=[some (aS r),b,some (aM n ps)])/\h=H1)
  (λρ h s=>by rw[s.2];simp[bR,g1])
  (λk hk ρ h ⟨⟨b,e⟩,eh⟩=>by subst e;subst eh;refine⟨.int (iD n ps r)[k],[some (aS r),some (.int (iD n ps r)[k]),some (aM n ps)],by simp[bR,g1,hk],rfl,.inr ⟨_,rfl,λacc hl=>⟨_,_,sD (PR (i:=0) (j:=1) hr rfl rfl) hl,⟨_,rfl⟩,rfl⟩⟩⟩)
  (iD n ps r).length 0 [some (aS r),b,some (aM n ps)] H1 acc (by omega) ⟨⟨_,rfl⟩,rfl⟩ (by rw[uy,fm];exact hl)
 subst eb;subst eh;rw[uy,fm]at e;refine⟨b',H', ?_,f1⟩;unfold AK iH;rw[es];dsimp only;rw[ba]at e ⊢;exact e
theorem PU (rs:Ap):(rs.flatMap λr=>(iD n ps r).map λx=>aS (r++[x]))=(lI n ps rs).map aS:=by
 induction rs with
 |nil=>rfl
 |cons r rs ih=>have h1:lI n ps (r::rs)=((iD n ps r).map λx=>r++[x])++lI n ps rs:=rfl;rw[iz,ih,h1,gr,jg];rfl
theorem z4x (o:Be n ps) {x2:Ax}{i:Nat}{rs:Ap}(g:getL H i=some (rs.map aS)) (hr:∀r∈rs,r.length<=100) (hl:(lI n ps rs).length<=900000):∃H',F1 [some (aM n ps),some (.ref i),x2] H=.ok ((lI n ps rs).map aS) H'/\Fr [] H H':=by
 obtain⟨ρ',H',h,_,f⟩:=sC (mi:=aX bG (aA 1)) (cap:=[none,none,some 0]) (src:=bR i (rs.map aS).length) (sg:=aD 0) (t:=bT) (m:=AK) (ρ:=[some (aM n ps),some (.ref i),x2]) (H:=H) (H1:=H) rs (λr=>(iD n ps r).map λx=>aS (r++[x])) (λρ Hx=>(∃a b,ρ=[a,b,some (aM n ps)])/\Fr [] H Hx) (by simp[aX,aA,bG,g]) (by simp[bR]) ⟨⟨_,_,rfl⟩,Fr.refl⟩ (λρ Hx s=>by have gx:=s.2.getL g (by simp);simp[bR,gx])
  (λk hk ρ Hx ⟨⟨a,b,e⟩,f⟩=>by subst e;have gx:=f.getL g (by simp);refine⟨aS rs[k],[some (aS rs[k]),b,some (aM n ps)],by simp[bR,gx,hk],rfl,.inr ⟨Hx,rfl,λacc hl=>?_⟩⟩;obtain⟨b',Hy,ea,fa⟩:=z4w (H:=Hx) (b:=b) o (hr _ (de hk)) hl;exact⟨_,Hy,ea,⟨_,_,rfl⟩,f.trans fa (by simp)⟩) (by rw[PU,ba];exact hl)
 exact⟨H',by rw[<-PU];exact h,f⟩
theorem all_ok (o:Be n ps):∃i H',F_q0 [aM n ps] H=.ok (.ref i) H'/\getL H' i=some ((dP n ps n).map aS)/\Fr [] H H'/\H.length<=i:=by
 have n6:=o.n6;have w0:cT (aF F_qq (aB (aA 0) aC)) [some (aM n ps),none,none] H=.nx [some (aM n ps),none,none] H:=by have e:F_qq [aM n ps] H=.ok .non H:=Cod.need_ok o;generalize F_qq=F at e;generalize aM n ps=z at e;simp[cT,aF,aB,aA,aC,e]
 have w1:aJ (aV (aB (aL aC) aC)) (aD 1) [some (aM n ps),none,none] H=.nx [some (aM n ps),some (.ref H.length),none] (H++[.lst [aS []]]):=rfl;have hi:aO bY (aB (m2 aR (aA 0) (mC (.int 0))) aC) [some (aM n ps),some (.ref H.length),none] (H++[.lst [aS []]])=.ok (cG 0 n) (H++[.lst [aS []]]):=sM (L:=n) rfl (by omega) (by omega);have hN:(cG 0 (n:Int)).n=n:=by simp[cG]
 obtain⟨ρ',H',h1,i,y2,h2,h3,h4,h5⟩:=mD (b:=aJ (aZ F1) (aD 1)) (sg:=aD 2) hi
  (λk ρ H'=>∃(i:Nat) (y2:Ax),ρ=[some (aM n ps),some (.ref i),y2]/\getL H' i=some ((dP n ps k).map aS)/\Fr [] H H'/\H.length<=i)
  (λk ρ H' hk ⟨i,y2,e1,e2,e3,e4⟩=>by subst e1;rw[hN]at hk;have hl:(dP n ps (k+1)).length<=46656:=kK o (by omega);obtain⟨H2,b1,b2⟩:=z4x (H:=H') (x2:=some (.int (0+(k:Int)))) o e2 (λr hr=>by rw[vV o hr];omega) (show(dP n ps (k+1)).length<=900000 by omega);have f:=e3.trans b2 (T:=[]) (by simp);exact⟨.int (0+(k:Int)),[some (aM n ps),some (.ref i),some (.int (0+(k:Int)))],_,_,rfl,rfl,AG b1 rfl,H2.length,_,rfl,last_get,f.trans (T:=[]) Fr.app (by simp),f.le⟩) (λ_ _ _=>rfl) ⟨H.length,none,rfl,last_get,Fr.app,aj _⟩
 rw[hN]at h3;refine⟨i,H', ?_,h3,h4,h5⟩;show bH (uT [some (aM n ps),none,none] H)=_;rw[z4u,bP w0,bP w1,bP h1,h2];rfl
end
open L2.Mr.Cod (last_get gR)
abbrev F2:M Aw :=bC (aO bY (aB (m2 aR (aA 0) (mC (.int 0))) aC)) [none,some 4] (aD 0) (mB (m2 (cS true) (aA 0) (aA 1))) (aY (m2 bF (aA 1) (aL (aB (aA 0) aC))))
abbrev F3:MS:=aJ (m2 bF (aA 3) (aZ F2)) (aD 3)
abbrev F5:MS:=aH (aJ (aV aC) (aD 3)) (aH (cX (aX bG (aA 1)) (aD 4) F3) (aJ (aA 3) (aD 1)))
abbrev F6:M Aw :=bC (aX fZ (m2 aR (aA 1) (mC (.int 1)))) [none,none,some 0] (cM 2 (bA (aD 0) (bA (aD 1) cP))) (mB (m2 kE (eQ (aA 2) (aA 0)) (eQ (aA 2) (aA 1)))) (aY (mC (.int 1)))
abbrev PV:M Aw :=bC (aX bG (aA 1)) [none,some 0] (aD 0) (mB (m2 cA (aZ F6) (aV aC))) (aY (aA 0))
theorem z4y:uW=aH (aJ (aV (aB (aL aC) aC)) (aD 1)) (aH (cX (aO bY (aB (m2 aR (aA 0) (mC (.int 0))) aC)) (aD 2) F5) (aN (aZ PV))):=rfl
section
variable{n st:Nat}{ps:y'}{H:Hs}{ρ:Ev}{r:Aq}
theorem z4z (hn:n<=6) (hr:r.length<=100) {x1 x2 x3:Ax}:F2 [some (aM n ps),x1,x2,x3,some (aS r)] H=.ok (((fV n r).map λx=>r++[x]).map aS) H:=by
 have w:F2 [some (aM n ps),x1,x2,x3,some (aS r)] H=.ok ((cE n).filterMap λx=>if !decide (x∈r)then some ((λx=>aS (r++[x])) x)else none) H:=
  gJ (cE n) _ (λρ=>∃a,ρ=[a,some (aS r)]) (src:=cG 0 n) (sM (L:=n) rfl (by omega) (by omega)) (by simp[cG,cE]) ⟨_,rfl⟩ rfl (λk hk ρ ⟨a,e1⟩=>by
   subst e1;have gk:(cE n)[k]=(k:Int):=by simp[cE]
   refine⟨.int (0+k),[some (.int (0+k)),some (aS r)],rfl,rfl,⟨_,rfl⟩, ?_⟩;have h00:(0+(k:Int))=(k:Int):=by omega
   rw[gk,h00];have t1:cS true (.int k) (aS r) H=.ok (.bl (!decide ((k:Int)∈r))) H:=DF true H (k:Int) r;have a1:=PR (i:=1) (j:=0) (H:=H) (ρ:=[some (.int k),some (aS r)]) (x:=(k:Int)) hr rfl rfl;have tt:mB (m2 (cS true) (aA 0) (aA 1)) [some (.int k),some (aS r)] H=.ok (!decide ((k:Int)∈r)) H:=by unfold mB;rw[iM (ma:=aA 0) (mb:=aA 1) rfl rfl t1];rfl
   cases c1:!decide ((k:Int)∈r)with
   |false=>rw[c1]at tt;exact tt
   |true=>rw[c1]at tt;exact⟨tt,a1⟩) (by simp[cE];omega)
 have:=w.trans (congrArg (λl=>Rs.ok l _) (vP _ _ _));rw[jg];exact this
theorem z50 {i j:Nat}{xs ys:Aw}(e1:getL H i=some xs) (e2:getL H j=some ys) (hl:xs.length+ys.length<=900000):bF (.ref i) (.ref j) H=.ok (.ref H.length) (H++[.lst (xs++ys)]):=by simp[bF,jZ,e1,e2,lim];omega
theorem z51 (rs:Ap):ext n (rs++[r])=ext n rs++(fV n r).map λx=>r++[x]:=by simp[ext]
theorem z52 (hn:n<=6) {i j:Nat}{rs:Ap}{x2 x4:Ax}(g:getL H i=some (rs.map aS)) (gj:getL H j=some []) (hr:∀r∈rs,r.length<=100) (hl:rs.length<=46656):
  ∃j' y4 H',cX (aX bG (aA 1)) (aD 4) F3 [some (aM n ps),some (.ref i),x2,some (.ref j),x4] H=.nx [some (aM n ps),some (.ref i),x2,some (.ref j'),y4] H'/\getL H' j'=some ((ext n rs).map aS)/\Fr [] H H':=by
 have hi:aX bG (aA 1) [some (aM n ps),some (.ref i),x2,some (.ref j),x4] H=.ok (bR i rs.length) H:=by simp[aX,aA,bG,g]
 obtain⟨ρ',H',h1,j',y4,h2,h3,h4⟩:=mD (b:=F3) (sg:=aD 4) hi (λk ρ H'=>∃(j':Nat) (y4:Ax),ρ=[some (aM n ps),some (.ref i),x2,some (.ref j'),y4]/\getL H' j'=some ((ext n (rs.take k)).map aS)/\Fr [] H H')
  (λk ρ H' hk ⟨j',y4,e1,e2,e3⟩=>by
   subst e1;have Ct:k<rs.length:=hk;refine⟨aS rs[k],[some (aM n ps),some (.ref i),x2,some (.ref j'),some (aS rs[k])],[some (aM n ps),some (.ref i),x2,some (.ref (H'.length+1)),some (aS rs[k])],(H'++[Ob.lst (((fV n rs[k]).map λx=>rs[k]++[x]).map aS)])++[Ob.lst ((ext n (rs.take k)).map aS++((fV n rs[k]).map λx=>rs[k]++[x]).map aS)],zZ (e3.getL g (by simp)) Ct,rfl, ?_,H'.length+1,_,rfl, ?_,e3.trans (T:=[]) (Fr.trans (T:=[]) Fr.app Fr.app (by simp)) (by simp)⟩
   ·have ea:=lK (z4z (ps:=ps) (H:=H') (r:=rs[k]) (x1:=some (.ref i)) (x2:=x2) (x3:=some (.ref j')) hn (hr _ (de Ct)));have l1:=PN hn (rs.take k);have l2:(rs.take k).length<=46656:=by rw[ji];omega
    have l3:=PM (n:=n) (r:=rs[k]) hn;have ed:=z50 (iK (l:=[Ob.lst (((fV n rs[k]).map λx=>rs[k]++[x]).map aS)]) e2) last_get (by simp only[ba];omega);have em:=iM (ma:=aA 3) (H1:=H') (x:=.ref j') rfl ea ed;rw[bw,uv]at em;exact qB em rfl
   ·have:H'.length+1=(H'++[Ob.lst (((fV n rs[k]).map λx=>rs[k]++[x]).map aS)]).length:=by simp
    rw[this,last_get,wj Ct,z51,gr])
  (λρ H' ⟨_,_,_,_,e3⟩=>AA (e3.getL g (by simp))) ⟨j,x4,rfl,by simpa[ext]using gj,Fr.refl⟩
 rw[show(bR i rs.length).n=rs.length from rfl,List.take_length]at h3;exact⟨j',y4,H',by rw[h1,h2],h3,h4⟩
theorem z53 (o:Be n ps) (hm:∀x:Int,0<=x->x<n->x∈r):F6 [some (aS r),some (aM n ps)] H=.ok ((((ps.filter λq=>decide (ix r q.1>ix r q.2)).map λ_=>(1:Int))).map Dv.int) H:=by rw[jg];exact K05.gtC_ok o hm rfl rfl
theorem z54 (o:Be n ps) {i:Nat}{x2 x3 x4:Ax}(g:getL H i=some ((gU n n).map aS)):∃H',PV [some (aM n ps),some (.ref i),x2,x3,x4] H=.ok ((dP n ps n).map aS) H'/\Fr [] H H':=by
 have fl:∀l:Ap,(l.flatMap λy=>if lJ ps y then[aS y]else[])=(l.filter (lJ ps)).map aS:=λl=>by
  induction l with
  |nil=>rfl
  |cons y l ih=>
   rw[iz,jl,ih]
   cases c:lJ ps y <;> simp
 have pm:=qF (n:=n) n;have pl:=FZ o.n6 (aj n);rw[<-z4p o];generalize gU n n=ys at g pm pl ⊢;obtain⟨ρ',H',h,_,f⟩:=sC (mi:=aX bG (aA 1)) (cap:=[none,some 0]) (src:=bR i (ys.map aS).length) (sg:=aD 0) (t:=mB (m2 cA (aZ F6) (aV aC))) (m:=aY (aA 0)) (ρ:=[some (aM n ps),some (.ref i),x2,x3,x4]) (H:=H) (H1:=H) ys (λy=>if lJ ps y then[aS y]else[]) (λρ Hx=>(∃a,ρ=[a,some (aM n ps)])/\Fr [] H Hx) (by simp[aX,aA,bG,g]) (by simp[bR]) ⟨⟨_,rfl⟩,Fr.refl⟩ (λρ Hx s=>by have gx:=s.2.getL g (by simp);simp[bR,gx])
  (λk hk ρ Hx ⟨⟨a,e⟩,f⟩=>by
   subst e;have gx:=f.getL g (by simp);refine⟨aS ys[k],[some (aS ys[k]),some (aM n ps)],by simp[bR,gx,hk],rfl, ?_⟩;obtain⟨p1,p2,p3⟩:=pm ys[k] (de hk);obtain⟨Hy,t,fy⟩:=AI (z53 (H:=Hx) (r:=ys[k]) o λx h0 h1=>qD p3 p2 p1 h0 h1);have hd:decide (((ps.filter λq=>decide (ix ys[k] q.1>ix ys[k] q.2)).map λ_=>(1:Int))=[])=lJ ps ys[k]:=by unfold lJ;rw[dm];simp
   rw[hd]at t
   cases c:lJ ps ys[k]with
   |false=>rw[c]at t;exact .inl ⟨Hy,t,by simp,⟨_,rfl⟩,f.trans fy (by simp)⟩
   |true=>rw[c]at t;refine .inr ⟨Hy,t,λacc hl=>⟨[some (aS ys[k]),some (aM n ps)],Hy, ?_,⟨_,rfl⟩,f.trans fy (by simp)⟩⟩;simp only[if_true]at hl ⊢;exact sD rfl hl) (by
   rw[fl,ba];have:=lx (lJ ps) ys;omega)
 refine⟨H', ?_,f⟩;rw[<-fl];exact h
theorem lrows_ok (o:Be n ps):∃i H',F_qr [aM n ps] H=.ok (.ref i) H'/\getL H' i=some ((dP n ps n).map aS)/\Fr [] H H':=by
 have n6:=o.n6;obtain⟨H1,hH1⟩:∃H1,H1=H++[Ob.lst [aS []]]:=⟨_,rfl⟩
 have f1:Fr [] H H1:=by rw[hH1];exact Fr.app
 have w1:aJ (aV (aB (aL aC) aC)) (aD 1) [some (aM n ps),none,none,none,none] H=.nx [some (aM n ps),some (.ref H.length),none,none,none] H1:=by rw[hH1];rfl
 have hi:aO bY (aB (m2 aR (aA 0) (mC (.int 0))) aC) [some (aM n ps),some (.ref H.length),none,none,none] H1=.ok (cG 0 n) H1:=sM (L:=n) rfl (by omega) (by omega);have hN:(cG 0 (n:Int)).n=n:=by simp[cG]
 have g1:getL H1 H.length=some ((gU n 0).map aS):=by rw[hH1];exact last_get
 obtain⟨ρ',H',h1,i,y2,y3,y4,h2,h3,h4⟩:=mD (b:=F5) (sg:=aD 2) hi
  (λk ρ H'=>∃(i:Nat) (y2 y3 y4:Ax),ρ=[some (aM n ps),some (.ref i),y2,y3,y4]/\getL H' i=some ((gU n k).map aS)/\Fr [] H1 H')
  (λk ρ H' hk ⟨i,y2,y3,y4,e1,e2,e3⟩=>by subst e1;rw[hN]at hk;obtain⟨j',z4,H2,b1,b2,b3⟩:=z52 (ps:=ps) (x2:=some (.int (0+(k:Int)))) (x4:=y4) n6 (iK (l:=[Ob.lst []]) e2) (last_get (H:=H')) (λr hr=>by rw[(qF k r hr).1];omega) (FZ n6 (by omega));have v0:aJ (aV aC) (aD 3) [some (aM n ps),some (.ref i),some (.int (0+(k:Int))),y3,y4] H'=.nx [some (aM n ps),some (.ref i),some (.int (0+(k:Int))),some (.ref H'.length),y4] (H'++[Ob.lst []]):=rfl;refine⟨.int (0+(k:Int)),[some (aM n ps),some (.ref i),some (.int (0+(k:Int))),y3,y4],[some (aM n ps),some (.ref j'),some (.int (0+(k:Int))),some (.ref j'),z4],H2,rfl,rfl, ?_,j',_,_,_,rfl,b2,(e3.trans (T:=[]) Fr.app (by simp)).trans b3 (by simp)⟩;unfold F5;rw[bP v0,bP b1];rfl) (λ_ _ _=>rfl) ⟨H.length,none,none,none,rfl,g1,Fr.refl⟩
 rw[hN]at h3;obtain⟨H2,e5,f5⟩:=z54 (x2:=y2) (x3:=y3) (x4:=y4) o h3;refine⟨H2.length,H2++[Ob.lst ((dP n ps n).map aS)], ?_,last_get,((f1.trans h4 (by simp)).trans f5 (by simp)).trans (T:=[]) Fr.app (by simp)⟩;show bH (uW [some (aM n ps),none,none,none,none] H)=_;rw[z4y,bP w1,bP h1,h2];exact oU e5
end
def rq (a b c:Nat):Aw:=[.bl (a==c),.bl (a+1==c),.bl (a+2==c)].take b
def Bo:M Aw :=(aB (m1 (bB (cY none tbl0)) (aA 1)) (aB (m1 (bB (cY none tbl1)) (aA 1)) (aB (m1 (bB (cY none tbl2)) (aA 1)) aC)))
def Cw:M Aw :=(aB (m1 (bB (cY none tbl3)) (aA 1)) (aB (m1 (bB (cY none tbl4)) (aA 1)) (aB (m1 (bB (cY none tbl5)) (aA 1)) aC)))
def rs3:M Aw :=(aB (m1 (bB (cY none tbl6)) (aA 1)) (aB (m1 (bB (cY none tbl7)) (aA 1)) (aB (m1 (bB (cY none tbl8)) (aA 1)) aC)))
def oV:M Aw :=(aB (m1 (bB (cY none tbl9)) (aA 1)) (aB (m1 (bB (cY none Eh)) (aA 1)) aC))
def AL:M Aw :=bC (aO bY (aB (mC (.int 11)) aC)) [none,some 3] (aD 0) (cB (m2 aR (aA 1) (aA 0))) (aY (aA 0))
def PX:MS:=bX (eJ (cB (m1 (bB (cY none tblV)) (aA 1)))) (aN (mC .non)) cO
theorem z55:gD=aH (aJ (aV Bo) (aD 3)) (aH (aJ (m2 bF (aA 3) (aV Cw)) (aD 3)) (aH (aJ (m2 bF (aA 3) (aV rs3)) (aD 3)) (aH (aJ (m2 bF (aA 3) (aV oV)) (aD 3)) (aH PX (aN (aZ AL)))))):=rfl
section
variable{c:Nat}(hc:c=0) {H:Hs}{x0 x2 x3:Ax}
include hc
theorem z56:aV Bo [x0,some (.exc c),x2,x3] H=.ok (.ref H.length) (H++[.lst (rq 0 3 c)]):=by subst hc;rfl
theorem z57:aV Cw [x0,some (.exc c),x2,x3] H=.ok (.ref H.length) (H++[.lst (rq 3 3 c)]):=by subst hc;rfl
theorem z58:aV rs3 [x0,some (.exc c),x2,x3] H=.ok (.ref H.length) (H++[.lst (rq 6 3 c)]):=by subst hc;rfl
theorem z59:aV oV [x0,some (.exc c),x2,x3] H=.ok (.ref H.length) (H++[.lst (rq 9 2 c)]):=by subst hc;rfl
theorem z5a:PX [x0,some (.exc c),x2,x3] H=.nx [x0,some (.exc c),x2,x3] H:=by subst hc;rfl
theorem z5b {i:Nat}(e:getL H i=some ((bf 11).map λk=>Dv.bl (k==c))):AL [x0,some (.exc c),x2,some (.ref i)] H=.ok [.int c] H:=by
 have h:AL [x0,some (.exc c),x2,some (.ref i)] H=.ok ((bf 11).filterMap λk=>if k==c then some (.int k)else none) H:=
  gJ (bf 11) (λk=>if k==c then some (.int (k:Nat))else none) (λρ=>∃a,ρ=[a,some (.ref i)]) (src:=cG 0 11) rfl rfl ⟨_,rfl⟩ rfl (λk hk ρ ⟨a,e'⟩=>by
   subst e';have Ct:k<11:=by simpa using hk
   refine⟨.int (0+k),[some (.int (0+k)),some (.ref i)],rfl,rfl,⟨_,rfl⟩, ?_⟩;have ht:=gR (H:=H) (j:=k) e (by simpa using Ct);rw[mz,nt]at ht;have h0:(0+(k:Int))=(k:Int):=by omega
   rw[h0,nt]
   cases q:k==c with
   |true=>simp[cB,m2,aA,ht,q,gF]
   |false=>simp[cB,m2,aA,ht,q,gF]) (by simp)
 rw[h];subst hc;rfl
theorem z5c:∃i H',tT 4 11 gD (.ex c H)=.ok (.ref i) H'/\getL H' i=some [.int c]/\Fr [] H H':=by
 obtain⟨H1,hH1⟩:∃H1,H1=H++[Ob.lst (rq 0 3 c)]:=⟨_,rfl⟩
 have g1:getL H1 H.length=some (rq 0 3 c):=by rw[hH1];exact last_get
 have f1:Fr [] H H1:=by rw[hH1];exact Fr.app
 have w1:∀x0 x2 x3,aJ (aV Bo) (aD 3) [x0,some (.exc c),x2,x3] H=.nx [x0,some (.exc c),x2,some (.ref H.length)] H1:=λx0 x2 x3=>by unfold aJ;rw[z56 hc,hH1];rfl
 have step:∀(G0:Hs) (i:Nat) (xs ys:Aw) (m:M Aw ),getL G0 i=some xs->(∀x0 x2 x3 (G:Hs),aV m [x0,some (.exc c),x2,x3] G=.ok (.ref G.length) (G++[.lst ys]))->xs.length+ys.length<=500->
   ∃G' j,(∀x0 x2,aJ (m2 bF (aA 3) (aV m)) (aD 3) [x0,some (.exc c),x2,some (.ref i)] G0=.nx [x0,some (.exc c),x2,some (.ref j)] G')/\getL G' j=some (xs++ys)/\Fr [] G0 G':=by
  intro G0 i xs ys m e hm hl;refine⟨_,_,λx0 x2=>?_,last_get (H:=G0++[.lst ys]) (x:=xs++ys),Fr.trans (T:=[]) Fr.app Fr.app (by simp)⟩;have a:=addL (H:=G0++[.lst ys]) (iK e) (last_get (H:=G0) (x:=ys)) hl;unfold aJ;rw[FT rfl (hm _ _ _ _) a];rfl
 obtain⟨H2,i2,w2,g2,f2⟩:=step H1 H.length (rq 0 3 c) (rq 3 3 c) Cw g1 (λ_ _ _ _=>z57 hc) (by simp[rq]);obtain⟨H3,i3,w3,g3,f3⟩:=step H2 i2 _ (rq 6 3 c) rs3 g2 (λ_ _ _ _=>z58 hc) (by simp[rq]);obtain⟨H4,i4,w4,g4,f4⟩:=step H3 i3 _ (rq 9 2 c) oV g3 (λ_ _ _ _=>z59 hc) (by simp[rq]);have g5':getL H4 i4=some ((bf 11).map λk=>Dv.bl (k==c)):=by rw[g4];rfl
 refine⟨H4.length,H4++[.lst [.int c]], ?_,last_get,((f1.trans f2 (by simp)).trans f3 (by simp)).trans (T:=[]) (f4.trans (T:=[]) Fr.app (by simp)) (by simp)⟩;have hlt:c<11:=by omega
 show(if c<11 then tS (gD (oE 4 (.exc c)) H)else .bad)=_;rw[if_pos hlt,z55];show tS (aH _ _ [none,some (.exc c),none,none] H)=_;rw[bP (w1 _ _ _),bP (w2 _ _),bP (w3 _ _),bP (w4 _ _),bP (z5a hc)];have hr:aZ AL [none,some (.exc c),none,some (.ref i4)] H4=.ok (.ref H4.length) (H4++[.lst [.int c]]):=by unfold aZ;rw[z5b hc g5'];rfl
 unfold aN;rw[hr];rfl
end
def Calls (p t:Nat) (ks:As) (H:Hs):Prop:=∃js:As,getL H p=some (js.map Dv.ref)/\js.map (gI H)=ks.map λk=>some (k,t)
section
variable{H H':Hs}{ρ:Ev}{p t k c s:Nat}{ks js:As}{lc:Nat->Option (As×M Dv)}
theorem AM {S:As}{j:Nat}{q:Nat×Nat}(e:gI H j=some q) (f:Fr S H H') (h:j∉S):gI H' j=some q:=by
 unfold gI at e ⊢;have hj:j<H.length:=by
  cases z:H[j]? with
  |none=>rw[z]at e;cases e
  |some o=>exact(ax.mp z).1
 rw[f.at_ j hj h];exact e
theorem z5d {j:Nat}{q:Nat×Nat}(e:gI H j=some q):getL H j=none:=by
 unfold gI at e;unfold getL
 split at e
 ·rename_i k t h;rw[h]
 ·cases e
theorem PY {S:As}(e:js.map (gI H)=ks.map λk=>some (k,t)) (f:Fr S H H') (h:∀j∈js,j∉S):js.map (gI H')=ks.map λk=>some (k,t):=by
 rw[<-e];refine Am λj hj=>?_;have hs:∃q,gI H j=some q:=by
  have hm:gI H j∈ks.map λk=>some (k,t):=by rw[<-e];exact Ao hj
  obtain⟨k,_,e2⟩:=cg.mp hm;exact⟨_,e2.symm⟩
 obtain⟨q,hq⟩:=hs;rw[hq,AM hq f (h j hj)]
theorem Calls.cap (h:Calls p t ks H):∃js:As,getL H p=some (js.map Dv.ref)/\js.map (gI H)=(ks.map λk=>some (k,t))/\js.length=ks.length:=by obtain⟨js,g,e⟩:=h;exact⟨js,g,e,by have:=congrArg qc e;simpa using this⟩
theorem F7:gI (H++[.clo k t]) H.length=some (k,t):=by simp[gI]
theorem PZ (ht:t<=H.length) (h4:s<ρ.length):∃H',aJ (aV (aB (iW k t) aC)) (aD s) ρ H=.nx (ρ.set s (some (.ref (H.length+1)))) H'/\Calls (H.length+1) t [k] H'/\Fr [] H H':=by
 refine⟨(H++[.clo k t])++[.lst [.ref H.length]], ?_,⟨[H.length], ?_, ?_⟩,Fr.trans (T:=[]) Fr.app Fr.app (by simp)⟩
 ·have e:aV (aB (iW k t) aC) ρ H=.ok (.ref (H.length+1)) ((H++[.clo k t])++[.lst [.ref H.length]]):=by simp[aV,aB,iW,ht,aC,lim]
  exact qB e rfl
 ·have:(H++[Ob.clo k t]).length=H.length+1:=by simp
  rw[<-this];exact last_get
 ·simp only[da,wb];rw[AM F7 (Fr.app (S:=[])) (by simp)]
theorem AN (ht:t<=H.length) (h4:aA s ρ=λH=>.ok (.ref p) H) (h:Calls p t ks H) (hl:ks.length<=100):∃H',cT (eO (aA s) (iW k t)) ρ H=.nx ρ H'/\Calls p t (ks++[k]) H'/\Fr [p] H H':=by
 obtain⟨js,g,e,le⟩:=h.cap;have g1:getL (H++[Ob.clo k t]) p=some (js.map Dv.ref):=iK g;have hx:(js.map Dv.ref).length<1000000:=by simp;omega
 have f1:Fr [] H (H++[Ob.clo k t]):=Fr.app;have f2:Fr [p] (H++[Ob.clo k t]) ((H++[Ob.clo k t]).set p (.lst (js.map Dv.ref++[.ref H.length]))):=Fr.set;have e1:=PY e f1 (by simp);have np:∀j,(∃q,gI (H++[Ob.clo k t]) j=some q)->j∉[p]:=λj ⟨q,hq⟩ z=>by simp only[bz]at z;subst z;rw[z5d hq]at g1;cases g1
 refine⟨_, ?_,⟨js++[H.length], ?_, ?_⟩,(f1.mono (T:=[p]) (by simp)).trans f2 (by simp)⟩
 ·simp only[cT,eO,h4,Rs.bind_ok,iJ,g,zx,if_true,iW,ht,lS,g1,hx,Rs.thenS_ok]
 ·rw[gr];exact lY g1
 ·rw[gr,gr]
  congr 1
  ·refine PY e1 f2 λj hj=>np j ?_;have hm:gI (H++[Ob.clo k t]) j∈ks.map λk=>some (k,t):=by rw[<-e1];exact Ao hj
   obtain⟨k',_,e2⟩:=cg.mp hm;exact⟨_,e2.symm⟩
  ·simp only[da,wb];rw[AM F7 f2 (np _ ⟨_,F7⟩)]
def F8 (lc:Nat->Option (As×M Dv)) (ρ:Ev) (c:Nat) (H:Hs) (k:Nat):Prop:=∃caps me ds,lc k=some (caps,me)/\oF caps ρ=some ds/\∀H',Fr [] H H'->me (ds.map some) H'=.ex c H'
theorem z5e {i:Nat}{xs:Aw}(h4:aA s ρ=λH=>.ok (.ref i) H) (g:getL H i=some xs):aX bG (aA s) ρ H=.ok (bR i xs.length) H:=by simp[aX,h4,bG,g]
theorem z5f (hc:c=0) (h4:aA s ρ=λH=>.ok (.ref p) H) (h:Calls p t ks H) (hr:∀k∈ks,F8 lc ρ c H k) (hl:ks.length<=100):
  ∃(rs:As) (H':Hs),pS (aX bG (aA s)) lc t 4 11 gD ρ H=.ok (rs.map Dv.ref) H'/\Fr [] H H'/\rs.length=ks.length/\∀r∈rs,getL H' r=some [.int c]:=by
 obtain⟨js,g,e,le⟩:=h.cap;have hi:aX bG (aA s) ρ H=.ok (bR p js.length) H:=by have:=z5e h4 g;rwa [ba]at this
 obtain⟨ρ',H',C',ec,hP⟩:=xW (src:=bR p js.length) (sg:=aD 0) (t:=bT) (m:=aY (lF lc t 4 11 gD ρ)) (λk ρ' H' acc=>(∃a,ρ'=[a])/\Fr [] H H'/\∃rs:As,acc=rs.map Dv.ref/\rs.length=k/\∀r∈rs,getL H' r=some [.int c])
  (λk ρ' H' acc hk ⟨⟨a,ea⟩,f,rs,eacc,el,er⟩=>by
   subst ea;have Ct:k<js.length:=hk;refine⟨.ref js[k],[some (.ref js[k])],zZ (f.getL g (by simp)) Ct,rfl,.inr ?_⟩;have hkk:k<ks.length:=by omega
   have ej:gI H js[k]=some (ks[k],t):=by
    have h1:(js.map (gI H))[k]?=some (gI H js[k]):=by rw[dk,ay Ct];rfl
    rw[e,dk,ay hkk]at h1;exact(cw h1).symm
   obtain⟨caps,me,ds,l1,l2,l3⟩:=hr ks[k] (de hkk);have ej':=AM ej f (by simp);obtain⟨i,H2,e2,g2,f2⟩:=z5c hc (H:=H');have em:lF lc t 4 11 gD ρ [some (.ref js[k])] H'=.ok (.ref i) H2:=by
    have:lF lc t 4 11 gD ρ [some (.ref js[k])] H'=tT 4 11 gD (me (ds.map some) H'):=by simp[lF,ej',l1,l2]
    rw[this,l3 H' f,e2]
   have hacc:acc.length<1000000:=by rw[eacc,ba];omega
   refine⟨H',[some (.ref js[k])],acc++[.ref i],H2,rfl, ?_,⟨_,rfl⟩,f.trans f2 (by simp),rs++[i],by rw[eacc];simp,by simp[el],λr hr=>?_⟩
   ·unfold aY;rw[em];exact if_pos hacc
   ·rcases cz.mp hr with hr|hr
    ·exact f2.getL (er r hr) (by simp)
    ·simp only[bz]at hr;subst hr;exact g2) (λρ' H' acc ⟨_,f,_⟩=>AA (f.getL g (by simp))) js.length 0 [none] H [] rfl ⟨⟨_,rfl⟩,Fr.refl,[],rfl,rfl,by simp⟩
 obtain⟨_,f,rs,eacc,el,er⟩:=hP;refine⟨rs,H', ?_,f, ?_,er⟩
 ·show bC (aX bG (aA s)) [none] (aD 0) bT (aY (lF lc t 4 11 gD ρ)) ρ H=_;exact z41 (ρ':=ρ') hi (by show eV (bR p js.length) (aD 0) bT (aY (lF lc t 4 11 gD ρ)) js.length 0 [none] H []=_;rw[ec,eacc])
 ·have:(bR p js.length).n=js.length:=rfl;omega
theorem P0 {m i:Nat}{xs:Aw}{ts:List Dt}(g:getL H i=some xs) (h:bU (bQ m H) xs=some ts):bQ (m+1) H (.ref i)=some (.lst ts):=by unfold bQ;dsimp only;rw[g];dsimp only;rw[h]
theorem P4 {rs:As}(m:Nat) (h:∀r∈rs,getL H r=some [.int c]):bU (bQ (m+2) H) (rs.map Dv.ref)=some (bu rs.length (.lst [.int c])):=by
 induction rs with
 |nil=>rfl
 |cons r rs ih=>
  have h1:bQ (m+2) H (.ref r)=some (.lst [.int c]):=by simp[bQ,h r (bg ..),bU]
  rw[da,bU,h1,ih λr hr=>h r (au _ hr)];rfl
theorem z5g (m:Nat) (a:Dt) (h:bK a a=true):fI (bu m a) (bu m a)=true:=by
 induction m with
 |zero=>rfl
 |succ m ih=>rw[iw,fI,h,ih];rfl
abbrev qG (c n:Int):M Dv:=m2 pO (aV (aB (aV (aB (mC (.int c)) aC)) aC)) (mC (.int n))
theorem z5h {n:Nat}(hn:n<=100):∃(L:Nat) (H':Hs),qG c n ρ H=.ok (.ref L) H'/\Fr [] H H'/\bQ cH H' (.ref L)=some (.lst (bu n (.lst [.int c]))):=by
 obtain⟨H1,hH1⟩:∃H1,H1=H++[Ob.lst [.int (c:Int)]]:=⟨_,rfl⟩
 obtain⟨H2,hH2⟩:∃H2,H2=H1++[Ob.lst [.ref H.length]]:=⟨_,rfl⟩
 have e1:aV (aB (aV (aB (mC (.int c)) aC)) aC) ρ H=.ok (.ref H1.length) H2:=by rw[hH2,hH1];simp[aV,aB,mC,aC,lim]
 have g2:getL H2 H1.length=some [.ref H.length]:=by rw[hH2];exact last_get
 have g1:getL H2 H.length=some [.int (c:Int)]:=by rw[hH2,hH1];exact iK last_get
 have hr:pO (.ref H1.length) (.int (n:Int)) H2=.ok (.ref H2.length) (H2++[.lst (bu n (Dv.ref H.length))]):=by
  have c1:jP (n:Int)=true:=by simp[jP];omega
  have c2:decide ((n:Int)<9223372036854775808)=true:=decide_eq_true (by omega);have c3:decide ((-9223372036854775808:Int)<=(n:Int))=true:=decide_eq_true (by omega);have c4:decide ([Dv.ref H.length].length*(n:Int).toNat<=1000000)=true:=decide_eq_true (by have:(n:Int).toNat=n:=fi n;rw[this];show 1*n<=1000000;omega);have:∀m,(bu m [Dv.ref H.length]).flatten=bu m (Dv.ref H.length):=λm=>by
   induction m with
   |zero=>rfl
   |succ m ih=>rw[iw,kh,ih];rfl
  unfold pO;dsimp only;rw[g2];dsimp only;rw[c1,c2,c3,c4,fi,this];rfl
 refine⟨H2.length,_,iM e1 (mb:=mC (.int n)) rfl hr, ?_, ?_⟩
 ·have f1:Fr [] H H1:=by rw[hH1];exact Fr.app
  have f2:Fr [] H1 H2:=by rw[hH2];exact Fr.app
  exact(f1.trans f2 (by simp)).trans (T:=[]) Fr.app (by simp)
 ·have g3:getL (H2++[Ob.lst (bu n (Dv.ref H.length))]) H2.length=some ((bu n H.length).map Dv.ref):=by rw[List.map_replicate];exact last_get
  have hp:=P4 (H:=H2++[Ob.lst (bu n (Dv.ref H.length))]) (rs:=bu n H.length) (c:=c) 27 (λr hr=>by rw[List.mem_replicate]at hr;rw[hr.2];exact iK g1);rw[zj]at hp;exact P0 (m:=29) g3 hp
theorem P5 {n:Nat}(hc:c=0) (h4:aA s ρ=λH=>.ok (.ref p) H) (h:Calls p t ks H) (hr:∀k∈ks,F8 lc ρ c H k) (hn:ks.length=n) (hl:n<=100):
  ∃(a b:Nat) (H1 H2:Hs),aZ (pS (aX bG (aA s)) lc t 4 11 gD) ρ H=.ok (.ref a) H1/\qG c n ρ H1=.ok (.ref b) H2/\Fr [] H H2/\dG (.ref a) (.ref b) H2=.ok (.bl false) H2/\cA (.ref a) (.ref b) H2=.ok (.bl true) H2:=by
 obtain⟨rs,H1,e1,f1,l1,g1⟩:=z5f hc h4 h hr (by omega);have ea:=lK e1;obtain⟨b,H2,e2,f2,p2⟩:=z5h (c:=c) (ρ:=ρ) (H:=H1++[.lst (rs.map Dv.ref)]) hl;have ga:=f2.getL (last_get (H:=H1) (x:=rs.map Dv.ref)) (by simp);have hp:=P4 (H:=H2) (rs:=rs) (c:=c) 27 (λr hr=>f2.getL (iK (g1 r hr)) (by simp));have p1:bQ cH H2 (.ref H1.length)=some (.lst (bu n (.lst [.int c]))):=by rw[l1,hn]at hp;exact P0 (m:=29) ga hp
 have hd:bK (.lst (bu n (.lst [.int (c:Int)]))) (.lst (bu n (.lst [.int (c:Int)])))=true:=by show fI _ _=true;exact z5g n _ (by simp[bK,fI])
 refine⟨H1.length,b,_,H2,ea,e2,(f1.trans (T:=[]) Fr.app (by simp)).trans f2 (by simp), ?_, ?_⟩
 ·simp[dG,p1,p2,hd]
 ·simp[cA,p1,p2,hd]
end
end L2.Mr.K04
namespace L2.Mr.Gen
open PySem PySem.Spec PyProof.Rows L2 L2.Mr
abbrev At (ρ:Ev) (i:Nat) (d:Dv):Prop:=ρ[i]?=some (some d)
section
variable{ρ:Ev}{i j:Nat}{d:Dv}{H H':Hs}
theorem At.v (h:At ρ i d):aA i ρ=λH=>.ok d H:=by funext H;unfold aA;rw[h]
theorem At.new (h:i<ρ.length):At (ρ.set i (some d)) i d:=by simp[At,h]
theorem At.o (h:At ρ j d) {x:Ax}(hn:i≠j:=by decide):At (ρ.set i x) j d:=(dw hn).trans h
theorem At.c1 (h:At ρ i d):oF [i] ρ=some [d]:=by simp[oF,show ρ[i]?=some (some d) from h]
theorem qH {m:M Dv}{v:Dv}(e:m ρ H=.ok v H'):aJ m (aD i) ρ H=.nx (ρ.set i (some v)) H':=qB e rfl
end
end L2.Mr.Gen
namespace L2.Mr.K06
open PySem PySem.Spec PyProof.Rows L2 L2.Mr L2.Mr.Gen
open L2.Mr.Com
open L2.Mr.Sam
open L2.Mr.Cod (last_get gR loose Cd)
open L2.Mr.K04 (aS dP gU sN vV kK qF iD wt lI Ey Cv lK oU)
open L2.Mr.K05 (ix oR fV Cp vS qD dY fP FV FW vT)
section
variable{n:Nat}{ps:y'}{r:Aq}
theorem z5i (o:Be n ps) {k:Nat}(hr:r∈dP n ps k) (hk:k<n):iD n ps r≠[]:=by
 have hl:=vV o hr;have ex:∃x,x∈fV n r:=by
  by_cases c:∃x,x∈fV n r
  ·exact c
  ·exfalso
   have sub:∀x∈cE n,x∈r:=λx hx=>by
    by_cases d:x∈r
    ·exact d
    ·exact absurd ⟨x,gn.mpr ⟨hx,by simpa using d⟩⟩ c
   have:=(vS (n:=n)).length_le_of_subset sub;simp[cE]at this;omega
 obtain⟨x0,hx0⟩:=ex;obtain⟨z,hz,hmin⟩:=FW o (left:=fV n r) _ x0 hx0 (aj _);have hz':=Cv.mp hz;refine vq (a:=z) (gn.mpr ⟨Cp.mpr hz'.1, ?_⟩);have hw:z∉wt ps r:=λh=>by obtain⟨q,hq,h1,h2⟩:=Ey.mp h;have rg:=o.rng q hq;exact hmin q.1 (Cv.mpr ⟨⟨rg.1,rg.2.1⟩,h1⟩) (by rw[<-h2];exact hq)
 simp[hz'.2,hw]
theorem P6 (o:Be n ps):∀k,k<=n->dP n ps k≠[]
 |0,_=>by simp[dP]
 |k+1,h=>by obtain⟨r,hr⟩:=yp _ (P6 o k (by omega));obtain⟨x,hx⟩:=yp _ (z5i o hr (by omega));exact vq (ph.mpr ⟨r,hr,cg.mpr ⟨x,hx,rfl⟩⟩)
theorem F9 (o:Be n ps) (hr:r∈dP n ps n):∀x:Int,0<=x->x<n->x∈r:=λx h0 h1=>by rw[sN o]at hr;obtain⟨a,b,c⟩:=qF n r (gn.mp hr).1;exact qD c b a h0 h1
theorem z5j (o:Be n ps) (hr:r∈dP n ps n):0<=dY n ps r/\dY n ps r<=6:=by
 have hm:=F9 o hr;have hl:=vV o hr;have n6:=o.n6;unfold dY
 split
 ·omega
 ·rename_i h;obtain⟨q,hq,e⟩:=cg.mp (L2.Mr.maxI_is h).1;have rg:=Cd.mp hq;have i1:=oR (hm q.1 (by omega) (by omega));have i2:=oR (hm q.2 (by omega) (by omega));have a0:=FV (ns:=r) q;rw[<-e];refine⟨a0, ?_⟩;unfold fP
  split <;> omega
def cQ (n:Nat) (ps:y'):Aq:=(dP n ps n).map (dY n ps)
def oW (L:Aq):Aq:=(cE (cV L+1)).map λk=>(L.count k:Int)
def kL (n:Nat) (ps:y'):Ap:=(dP n ps n).filter λr=>decide (dY n ps r=dU (cQ n ps))
theorem qI (o:Be n ps):cQ n ps≠[]:=by have:=P6 o n (aj n);simpa[cQ]using this
theorem GA (o:Be n ps):0<=cV (cQ n ps)/\cV (cQ n ps)<=6:=by obtain⟨r,hr,e⟩:=cg.mp (L2.Mr.maxI_is (qI o)).1;rw[<-e];exact z5j o hr
theorem z5k (o:Be n ps):kL n ps≠[]:=by obtain⟨r,hr,e⟩:=cg.mp (L2.Mr.minI_is (qI o)).1;exact vq (gn.mpr ⟨hr,by simpa using e⟩)
theorem P7 (o:Be n ps):(kL n ps).length<=46656:=df (lx _ _) (kK o (aj n))
theorem P8 (o:Be n ps) (h:r∈kL n ps):r.length<=6:=by rw[vV o (gn.mp h).1];exact o.n6
theorem P9 (o:Be n ps):(oW (cQ n ps)).length<=7:=by have:=GA o;simp[oW,cE];omega
end
open L2.Mr.Cod (last_get gR loose)
open L2.Mr.K04 (aS dP kK lK oU)
open L2.Mr.K05 (dY)
section
variable{n:Nat}{ps:y'}{r:Aq}{H:Hs}{ρ:Ev}
theorem kM {F:Av}{a v:Dv}{x:Nat}{H':Hs}(ha:aA x ρ=λH=>.ok a H) (e:F [a] H=.ok v H'):aF F (aB (aA x) aC) ρ H=.ok v H':=by simp[aF,aB,ha,aC,e]
theorem QA {F:Av}{m:M Dv}{a v:Dv}{H1 H':Hs}(ha:m ρ H=.ok a H1) (e:F [a] H1=.ok v H'):aF F (aB m aC) ρ H=.ok v H':=by simp[aF,aB,ha,aC,e]
theorem GB {F:Av}{a:Dv}{x i:Nat}{H1:Hs}{xs:Aw}(ha:aA x ρ=λH=>.ok a H) (e:F [a] H=.ok (.ref i) H1) (g:getL H1 i=some xs):aX bG (aF F (aB (aA x) aC)) ρ H=.ok (bR i xs.length) H1:=by simp[aX,aF,aB,ha,aC,e,bG,g]
theorem GC {x i:Nat}{xs:Aw}(ha:aA x ρ=λH=>.ok (.ref i) H) (g:getL H i=some xs):aX bG (aA x) ρ H=.ok (bR i xs.length) H:=by simp[aX,ha,bG,g]
theorem all_ok (o:Be n ps):∃i H',F_q0 [aM n ps] H=.ok (.ref i) H'/\getL H' i=some ((dP n ps n).map aS)/\Fr [] H H'/\H.length<=i:=K04.all_ok o
theorem lpairs_ok (o:Be n ps):F_qi [aM n ps] H=.ok (.ref H.length) (H++[.lst ((loose n ps).map aG)]):=K05.lpairs_ok o
theorem ga_ok {i:Nat}(g:getL H i=some ((loose n ps).map aG)) (hn:n<=6) (hm:∀x:Int,0<=x->x<n->x∈r):∃H',F_qd [aS r,.ref i] H=.ok (.int (dY n ps r)) H'/\Fr [] H H':=K05.ga_ok g hn hm
abbrev nS (n:Nat) (ps:y') (r:Aq):Dv:=.tup [aS r,.int (dY n ps r)]
abbrev GD:M Dv:=aL (aB (aA 0) (aB (aF F_qd (aB (aA 0) (aB (aA 1) aC))) aC))
abbrev rwC:M Aw :=bC (aX bG (aF F_q0 (aB (aA 0) aC))) [none,some 1] (aD 0) bT (aY GD)
theorem z5l:yX=aH (aJ (aF F_qi (aB (aA 0) aC)) (aD 1)) (aN (aZ rwC)):=rfl
theorem AO {α:Type}(f:α->Dv) (l:List α):(l.flatMap λx=>[f x])=l.map f:=by
 induction l with
 |nil=>rfl
 |cons x l ih=>rw[iz,ih];rfl
theorem GF (o:Be n ps):∃i H',F_qa [aM n ps] H=.ok (.ref i) H'/\getL H' i=some ((dP n ps n).map (nS n ps))/\Fr [] H H'/\H.length<=i:=by
 have e1:=lpairs_ok (H:=H) o;obtain⟨H1,hH1⟩:∃H1,H1=H++[Ob.lst ((loose n ps).map aG)]:=⟨_,rfl⟩
 have f1':Fr [] H H1:=by rw[hH1];exact Fr.app
 have g1:getL H1 H.length=some ((loose n ps).map aG):=by rw[hH1];exact last_get
 rw[<-hH1]at e1;have w1:aJ (aF F_qi (aB (aA 0) aC)) (aD 1) [some (aM n ps),none] H=.nx [some (aM n ps),some (.ref H.length)] H1:=qB (kM (F:=F_qi) rfl e1) rfl;obtain⟨i,H2,e2,g2,f2,l2⟩:=all_ok (H:=H1) o;have hl:=kK o (aj n);have hf:=λr (h:r∈dP n ps n)=>F9 o h;have es:=GB (F:=F_q0) (ρ:=[some (aM n ps),some (.ref H.length)]) (x:=0) rfl e2 g2;have gp:=f2.getL g1 (by simp);obtain⟨p,hp⟩:∃p,p=H.length:=⟨_,rfl⟩
 rw[<-hp]at w1 gp es;generalize dP n ps n=R at g2 hl hf es;obtain⟨ρ',H3,h,_,f3⟩:=sC (mi:=aX bG (aF F_q0 (aB (aA 0) aC))) (cap:=[none,some 1]) (src:=bR i (R.map aS).length) (sg:=aD 0) (t:=bT) (m:=aY GD) (ρ:=[some (aM n ps),some (.ref p)]) (H:=H1) (H1:=H2) R (λr=>[nS n ps r]) (λρ Hx=>(∃a,ρ=[a,some (.ref p)])/\Fr [] H2 Hx) es (by simp[bR]) ⟨⟨_,rfl⟩,Fr.refl⟩ (λρ Hx s=>by have gx:=s.2.getL g2 (by simp);simp[bR,gx])
  (λk hk ρ Hx ⟨⟨a,e⟩,f⟩=>by subst e;have gx:=f.getL g2 (by simp);obtain⟨Hy,ey,fy⟩:=ga_ok (r:=R[k]) (f.getL gp (by simp)) o.n6 (hf _ (de hk));refine⟨aS R[k],[some (aS R[k]),some (.ref p)],by simp[bR,gx,hk],rfl,.inr ⟨Hx,rfl,λacc hl=>⟨_,Hy,sD ?_ hl,⟨_,rfl⟩,f.trans fy (by simp)⟩⟩⟩;simp[GD,aL,aB,aA,aF,aC,ey,lim]) (by rw[AO,ba];omega)
 rw[AO]at h;refine⟨H3.length,H3++[.lst (R.map (nS n ps))], ?_,last_get,((f1'.trans f2 (by simp)).trans f3 (by simp)).trans (T:=[]) Fr.app (by simp),((f1'.trans f2 (by simp)).trans (T:=[]) f3 (by simp)).le⟩;show bH (yX [some (aM n ps),none] H)=_;rw[z5l,bP w1];exact oU h
abbrev qJ (mi:M Src):M Aw :=bC mi [none,none] (cM 2 (bA (aD 0) (bA (aD 1) cP))) bT (aY (aA 1))
theorem GG {mi:M Src}{i:Nat}{R:Ap}{H1:Hs}(hi:mi ρ H=.ok (bR i (R.map (nS n ps)).length) H1) (g:getL H1 i=some (R.map (nS n ps))) (hl:R.length<=46656):qJ mi ρ H=.ok ((R.map (dY n ps)).map Dv.int) H1:=by have w:qJ mi ρ H=.ok (R.filterMap λr=>some (.int (dY n ps r))) H1:=gJ R (λr=>some (.int (dY n ps r))) (λρ=>∃a b,ρ=[a,b]) hi (by simp[bR]) ⟨_,_,rfl⟩ (by simp[bR,g]) (λk hk ρ ⟨a,b,e⟩=>by subst e;exact⟨nS n ps R[k],[some (aS R[k]),some (.int (dY n ps R[k]))],by simp[bR,g,hk],rfl,⟨_,_,rfl⟩,rfl,rfl⟩) (by omega);rw[w,jg];simp[pb]
theorem AQ {f:Aq->Int}{i:Nat}{L:Aq}(g:getL H i=some (L.map Dv.int)) (h:L≠[]):f1 (fJ f) [.ref i] H=.ok (.int (f L)) H:=by have hp:=qo.mpr h;simp[f1,fJ,g,vO,hp]
theorem z5m (o:Be n ps):∃H',F_qp [aM n ps] H=.ok (.int (dU (cQ n ps))) H'/\Fr [] H H':=by obtain⟨i,H1,e1,g1,f1',_⟩:=GF (H:=H) o;have hs:=lK (GG (GB (F:=F_qa) (ρ:=[some (aM n ps)]) (x:=0) rfl e1 g1) g1 (kK o (aj n)));have gl:=last_get (H:=H1) (x:=(cQ n ps).map Dv.int);refine⟨H1++[.lst ((cQ n ps).map Dv.int)], ?_,f1'.trans (T:=[]) Fr.app (by simp)⟩;show bH (aN (aF (f1 (fJ dU)) (aB (aZ (qJ (aX bG (aF F_qa (aB (aA 0) aC))))) aC)) [some (aM n ps)] H)=_;unfold aN;rw[QA hs (AQ gl (qI o))];rfl
abbrev cC (v:Nat):M Aw :=bC (aO bY (aB (m2 bF (aF (f1 (fJ cV)) (aB (aA v) aC)) (mC (.int 1))) aC)) [none,some v] (aD 0) bT (aY (uR (aA 1) (aA 0)))
theorem QB {v i:Nat}{L:Aq}(a:At ρ v (.ref i)) (g:getL H i=some (L.map Dv.int)) (h:L≠[]) (h0:0<=cV L) (h1:cV L<=100):cC v ρ H=.ok ((oW L).map Dv.int) H:=by
 have em:m2 bF (aF (f1 (fJ cV)) (aB (aA v) aC)) (mC (.int 1)) ρ H=.ok (.int (cV L+1)) H:=by
  have hr:gA (cV L)=true:=by simp[gA];omega
  have hr1:gA (cV L+1)=true:=by simp[gA];omega
  refine iM (mb:=mC (.int 1)) (kM (F:=f1 (fJ cV)) a.v (AQ g h)) rfl ?_;simp[bF,jZ,hr,hr1]
 have w:cC v ρ H=.ok ((cE (cV L+1)).filterMap λk=>some (.int (L.count k))) H:=
  gJ (cE (cV L+1)) (λk=>some (.int (L.count k))) (λρ=>∃a,ρ=[a,some (.ref i)]) (src:=cG 0 (cV L+1)) (sM em (by omega) (by omega)) (by simp[cG,cE]) ⟨none,by simp[iI,show ρ[v]?=some (some (.ref i)) from a]⟩ rfl (λk hk ρ ⟨a,e1⟩=>by
   subst e1;have gk:(cE (cV L+1))[k]=(k:Int):=by simp[cE]
   refine⟨.int (0+k),[some (.int (0+k)),some (.ref i)],rfl,rfl,⟨_,rfl⟩,rfl, ?_⟩;have h00:(0+(k:Int))=(k:Int):=by omega
   rw[gk,h00];simp[uR,aA,iJ,g,EC,vO]) (by simp[cE];omega)
 rw[w];simp[oW,pb]
theorem z5n (o:Be n ps):∃i H',F_q7 [aM n ps] H=.ok (.ref i) H'/\getL H' i=some ((oW (cQ n ps)).map Dv.int)/\Fr [] H H'/\H.length<=i:=by obtain⟨i,H1,e1,g1,f1',l1⟩:=GF (H:=H) o;have hs:=GG (GB (F:=F_qa) (ρ:=[some (aM n ps),none]) (x:=0) rfl e1 g1) g1 (kK o (aj n));have gl:=last_get (H:=H1) (x:=(cQ n ps).map Dv.int);have w1:aJ (aZ (qJ (aX bG (aF F_qa (aB (aA 0) aC))))) (aD 1) [some (aM n ps),none] H=.nx [some (aM n ps),some (.ref H1.length)] (H1++[.lst ((cQ n ps).map Dv.int)]):=AG hs rfl;have f2:Fr [] H (H1++[Ob.lst ((cQ n ps).map Dv.int)]):=f1'.trans (T:=[]) Fr.app (by simp);have mb:=GA o;have e2:=QB (ρ:=[some (aM n ps),some (.ref H1.length)]) (v:=1) rfl gl (qI o) mb.1 (by omega);refine⟨_,_, ?_,last_get (H:=H1++[Ob.lst ((cQ n ps).map Dv.int)]),f2.trans (T:=[]) Fr.app (by simp),f2.le⟩;show bH (aH (aJ (aZ (qJ (aX bG (aF F_qa (aB (aA 0) aC))))) (aD 1)) (aN (aZ (cC 1))) [some (aM n ps),none] H)=_;rw[bP w1];exact oU e2
abbrev GH:M Aw :=bC (aX bG (aA 1)) [none,none,some 2] (cM 2 (bA (aD 0) (bA (aD 1) cP))) (mB (m2 cA (aA 1) (aA 2))) (aY (aA 0))
theorem z5o:yY=aH (aJ (aF F_qa (aB (aA 0) aC)) (aD 1)) (aH (aJ (aF (f1 (fJ dU)) (aB (aZ (qJ (aX bG (aA 1)))) aC)) (aD 2)) (aN (aZ GH))):=rfl
theorem z5p {i:Nat}{R:Ap}{m:Int}{x0:Ax}(g:getL H i=some (R.map (nS n ps))) (hl:R.length<=46656):GH [x0,some (.ref i),some (.int m)] H=.ok ((R.filter λr=>decide (dY n ps r=m)).map aS) H:=by
 have w:GH [x0,some (.ref i),some (.int m)] H=.ok (R.filterMap λr=>if decide (dY n ps r=m)then some (aS r)else none) H:=
  gJ R _ (λρ=>∃a b,ρ=[a,b,some (.int m)]) (src:=bR i (R.map (nS n ps)).length) (GC (x:=1) rfl g) (by simp[bR]) ⟨_,_,rfl⟩ (by simp[bR,g]) (λk hk ρ ⟨a,b,e⟩=>by
   subst e;refine⟨nS n ps R[k],[some (aS R[k]),some (.int (dY n ps R[k])),some (.int m)],by simp[bR,g,hk],rfl,⟨_,_,rfl⟩, ?_⟩;have t:mB (m2 cA (aA 1) (aA 2)) [some (aS R[k]),some (.int (dY n ps R[k])),some (.int m)] H=.ok (decide (dY n ps R[k]=m)) H:=by unfold mB;rw[iM (ma:=aA 1) (mb:=aA 2) rfl rfl (K05.eq_int _ _)];rfl
   cases c:decide (dY n ps R[k]=m)with
   |true=>rw[c]at t;exact⟨t,rfl⟩
   |false=>rw[c]at t;exact t) (by omega)
 exact w.trans (congrArg (λl=>Rs.ok l _) (vP _ _ _))
theorem QC (o:Be n ps):∃i H',F_qx [aM n ps] H=.ok (.ref i) H'/\getL H' i=some ((kL n ps).map aS)/\Fr [] H H'/\H.length<=i:=by obtain⟨i,H1,e1,g1,f1',l1⟩:=GF (H:=H) o;have hl:=kK o (aj n);have w1:aJ (aF F_qa (aB (aA 0) aC)) (aD 1) [some (aM n ps),none,none] H=.nx [some (aM n ps),some (.ref i),none] H1:=qB (kM (F:=F_qa) rfl e1) rfl;have hs:=lK (GG (GC (ρ:=[some (aM n ps),some (.ref i),none]) (x:=1) rfl g1) g1 hl);have gl:=last_get (H:=H1) (x:=(cQ n ps).map Dv.int);have g2:=iK (l:=[Ob.lst ((cQ n ps).map Dv.int)]) g1;have f2:Fr [] H (H1++[Ob.lst ((cQ n ps).map Dv.int)]):=f1'.trans (T:=[]) Fr.app (by simp);have w2:aJ (aF (f1 (fJ dU)) (aB (aZ (qJ (aX bG (aA 1)))) aC)) (aD 2) [some (aM n ps),some (.ref i),none] H1=.nx [some (aM n ps),some (.ref i),some (.int (dU (cQ n ps)))] (H1++[.lst ((cQ n ps).map Dv.int)]):=qB (QA hs (AQ gl (qI o))) rfl;have e3:=z5p (x0:=some (aM n ps)) (m:=dU (cQ n ps)) g2 hl;refine⟨_,_, ?_,last_get (H:=H1++[Ob.lst ((cQ n ps).map Dv.int)]),f2.trans (T:=[]) Fr.app (by simp),f2.le⟩;show bH (yY [some (aM n ps),none,none] H)=_;rw[z5o,bP w1,bP w2];exact oU e3
theorem z5q (o:Be n ps) (hb:0<(kL n ps).length):∃H',F_qn [aM n ps] H=.ok (aS (kL n ps)[0]) H'/\Fr [] H H':=by obtain⟨i,H1,e1,g1,f1',l1⟩:=QC (H:=H) o;refine⟨H1, ?_,f1'⟩;show bH (aN (m2 aR (aF F_qx (aB (aA 0) aC)) (mC (.int 0))) [some (aM n ps)] H)=_;have x:=gR (j:=0) g1 (by simpa using hb);rw[mz]at x;unfold aN;rw[iM (mb:=mC (.int 0)) (kM (F:=F_qx) (x:=0) rfl e1) rfl x];rfl
end
open L2.Mr.K04 (aS dP kK lK oU F8 Calls PZ AN P5 qG)
section
variable{n st:Nat}{ps:y'}{r:Aq}{H:Hs}{ρ:Ev}{d:Dv}
theorem need_bad (h:TK 3 H d) (hb:fK d=false):F_qq [d] H=.ex 0 H:=Cod.need_bad h hb
theorem z5r (h:TK 3 H d) (hb:fK d=false):F_qi [d] H=.ex 0 H:=by simp[F_qi,rW,aW,bV,aH,cT,aF,aB,aA,aC,need_bad h hb,bH]
theorem GI (h:TK 3 H d) (hb:fK d=false):F_qa [d] H=.ex 0 H:=by simp[F_qa,yX,aW,bV,aH,aJ,aF,aB,aA,aC,z5r h hb,bH]
theorem z5s (h:TK 3 H d) (hb:fK d=false):F_qp [d] H=.ex 0 H:=by simp[F_qp,NV,aW,bV,aN,aF,aB,aZ,bC,aX,aA,aC,GI h hb,bH]
theorem z5t (h:TK 3 H d) (hb:fK d=false):F_q7 [d] H=.ex 0 H:=by simp[F_q7,NW,aW,bV,aH,aJ,aF,aB,aZ,bC,aX,aA,aC,GI h hb,bH]
theorem QD (h:TK 3 H d) (hb:fK d=false):F_qx [d] H=.ex 0 H:=by simp[F_qx,yY,aW,bV,aH,aJ,aF,aB,aA,aC,GI h hb,bH]
theorem z5u (h:TK 3 H d) (hb:fK d=false):F_qn [d] H=.ex 0 H:=by simp[F_qn,NX,aW,bV,aN,m2,aF,aB,aA,aC,QD h hb,bH]
theorem AR {F:Av}{a:Dv}{c:Nat}(e:F [a] H=.ex c H):aF F (aB (aA 0) aC) ([a].map some) H=.ex c H:=by simp[aF,aB,aA,aC,e]
abbrev cL:M Dv:=aZ (pS (aX bG (aA 11)) yZ 0 4 11 gD)
abbrev bJ:MS:=bX (mB (m2 dG cL (qG 0 4))) (aN (mC (.bl false))) cO
abbrev bM:MS:=aH (aJ (aV (aB (iW 0 0) aC)) (aD 11)) (aH (cT (eO (aA 11) (iW 1 0))) (aH (cT (eO (aA 11) (iW 2 0))) (aH (cT (eO (aA 11) (iW 3 0))) bJ)))
theorem z5v (td:TK 3 H d) (bd:fK d=false) (a7:At ρ 10 d) (hL:11<ρ.length):∃p H',bM ρ H=.nx (ρ.set 11 (some (.ref p))) H':=by
 obtain⟨H1,w1,c1,f1⟩:=PZ (s:=11) (k:=0) (t:=0) (ρ:=ρ) (H:=H) (ig _) hL;have hp:H.length<=H.length+1:=by omega
 generalize H.length+1=p at w1 c1 hp;have b7:At (ρ.set 11 (some (.ref p))) 10 d:=a7.o;have b8:At (ρ.set 11 (some (.ref p))) 11 (.ref p):=.new hL;refine⟨p, ?_⟩;generalize ρ.set 11 (some (.ref p))=ρ2 at w1 b7 b8;obtain⟨H2,w2,c2,f2⟩:=AN (k:=1) (ig _) b8.v c1 (by simp);obtain⟨H3,w3,c3,f3⟩:=AN (k:=2) (ig _) b8.v c2 (by simp);obtain⟨H4,w4,c4,f4⟩:=AN (k:=3) (ig _) b8.v c3 (by simp);have hw:∀x∈[p],x∈([]:As)∨H.length<=x:=λj hj=>by simp only[bz]at hj;right;omega
 have t3:=td.fr0 (((f1.trans f2 hw).trans f3 hw).trans f4 hw:Fr [] H H4);obtain⟨a,b,H5,H6,e5,e6,f6,n6,_⟩:=P5 (lc:=yZ) (c:=0) (n:=4) rfl b8.v c4 (λk hk=>by
  have Ct:k=0∨k=1∨k=2∨k=3:=by simpa using hk
  rcases Ct with rfl|rfl|rfl|rfl
  ·exact⟨[10],_,[d],rfl,b7.c1,λK f=>AR (F:=F_qp) (z5s (t3.fr0 f) bd)⟩
  ·exact⟨[10],_,[d],rfl,b7.c1,λK f=>AR (F:=F_q7) (z5t (t3.fr0 f) bd)⟩
  ·exact⟨[10],_,[d],rfl,b7.c1,λK f=>AR (F:=F_qx) (QD (t3.fr0 f) bd)⟩
  ·exact⟨[10],_,[d],rfl,b7.c1,λK f=>AR (F:=F_qn) (z5u (t3.fr0 f) bd)⟩) rfl (by decide)
 have t:mB (m2 dG cL (qG 0 4)) ρ2 H4=.ok false H6:=by unfold mB;rw[iM (show cL ρ2 H4=.ok (.ref a) H5 from e5) (show qG 0 4 ρ2 H5=.ok (.ref b) H6 from e6) n6];rfl
 refine⟨H6, ?_⟩;unfold bM;rw[bP w1,bP w2,bP w3,bP w4];exact(rP t).trans rfl
theorem QE {F:Av}{a b v:Dv}{x y:Nat}{H':Hs}(ha:aA x ρ=λH=>.ok a H) (hb:aA y ρ=λH=>.ok b H) (e:F [a,b] H=.ok v H'):aF F (aB (aA x) (aB (aA y) aC)) ρ H=.ok v H':=by simp[aF,aB,ha,hb,aC,e]
abbrev qE:M Aw :=bC (aX bG (aA 4)) [none,some 3] (aD 0) bT (aY (aF F_qt (aB (aA 1) (aB (aA 0) aC))))
theorem z5w:F_qt=K05.F_qt:=rfl
theorem lspan_ok (o:Be n ps) (hm:∀x:Int,0<=x->x<n->x∈r):∃H',F_qt [aM n ps,aS r] H=.ok (.int (dY n ps r)) H'/\Fr [] H H':=by rw[z5w];exact K05.lspan_ok o hm
theorem z5x (o:Be n ps) {i:Nat}(a3:At ρ 3 (aM n ps)) (a4:At ρ 4 (.ref i)) (g:getL H i=some ((dP n ps n).map aS)):∃H',qE ρ H=.ok ((cQ n ps).map Dv.int) H'/\Fr [] H H':=by
 have hl:=kK o (aj n);have hf:=λr (h:r∈dP n ps n)=>F9 o h;unfold cQ;generalize dP n ps n=R at g hl hf;obtain⟨ρ',H3,h,_,f3⟩:=sC (mi:=aX bG (aA 4)) (cap:=[none,some 3]) (src:=bR i (R.map aS).length) (sg:=aD 0) (t:=bT) (m:=aY (aF F_qt (aB (aA 1) (aB (aA 0) aC)))) (ρ:=ρ) (H:=H) (H1:=H) R (λr=>[.int (dY n ps r)]) (λρ Hx=>(∃a,ρ=[a,some (aM n ps)])/\Fr [] H Hx) (GC a4.v g) (by simp[bR]) ⟨⟨none,by simp[iI,show ρ[3]?=some (some (aM n ps)) from a3]⟩,Fr.refl⟩ (λρ Hx s=>by have gx:=s.2.getL g (by simp);simp[bR,gx])
  (λk hk ρ Hx ⟨⟨a,e⟩,f⟩=>by subst e;have gx:=f.getL g (by simp);obtain⟨Hy,ey,fy⟩:=lspan_ok (r:=R[k]) (H:=Hx) o (hf _ (de hk));refine⟨aS R[k],[some (aS R[k]),some (aM n ps)],by simp[bR,gx,hk],rfl,.inr ⟨Hx,rfl,λacc hl=>⟨_,Hy,sD (QE (F:=F_qt) (x:=1) (y:=0) rfl rfl ey) hl,⟨_,rfl⟩,f.trans fy (by simp)⟩⟩⟩) (by rw[AO,ba];omega)
 rw[AO]at h;exact⟨H3,by rw[jg];exact h,f3⟩
abbrev dC:M Aw :=bC (aO bY (aB (aF (f1 eW) (aB (aA 4) aC)) aC)) [none,some 4,some 6,some 5] (aD 0) (mB (m2 cA (m2 aR (aA 3) (aA 0)) (aA 2))) (aY (m2 aR (aA 1) (aA 0)))
theorem z5y {m:M Dv}{L:Int}(e:m ρ H=.ok (.int L) H) (h0:0<=L) (h1:L<=50000):aO bY (aB m aC) ρ H=.ok (cG 0 L) H:=by
 have hr:gA L=true:=by simp[gA];omega
 simp[aO,aB,e,aC,bY,hr]
theorem z5z {α β:Type}(f:α->β) (p:α->Bool) (R:List α):((bf R.length).filterMap λk=>(R[k]?).bind λr=>if p r then some (f r)else none)=(R.filter p).map f:=by
 have h:((bf R.length).filterMap λk=>(R[k]?).bind λr=>if p r then some (f r)else none)=R.filterMap λr=>if p r then some (f r)else none:=by
  induction R with
  |nil=>rfl
  |cons x R ih=>rw[cy,om,br,qv,br];simp only[tw,wk];rw[<-ih];rfl
 rw[h]
 induction R with
 |nil=>rfl
 |cons x R ih=>
  rw[br,jl];have ih':=ih (by
   clear h ih
   induction R with
   |nil=>rfl
   |cons x R ih=>rw[cy,om,br,qv,br];simp only[tw,wk];rw[<-ih];rfl)
  cases p x with
  |true=>simp only[if_true,da];rw[ih']
  |false=>simp only[cp,if_false];exact ih'
theorem z60 {i j:Nat}{R:Ap}{m:Int}(a4:At ρ 4 (.ref i)) (a5:At ρ 5 (.ref j)) (a6:At ρ 6 (.int m)) (g:getL H i=some (R.map aS)) (gj:getL H j=some ((R.map (dY n ps)).map Dv.int)) (hl:R.length<=46656):dC ρ H=.ok ((R.filter λr=>decide (dY n ps r=m)).map aS) H:=by
 have el:aF (f1 eW) (aB (aA 4) aC) ρ H=.ok (.int R.length) H:=kM (F:=f1 eW) a4.v (by simp[f1,eW,gC,iQ,fY,g]);have hc:iI [none,some 4,some 6,some 5] ρ=[none,some (.ref i),some (.int m),some (.ref j)]:=by simp[iI,show ρ[4]?=_ from a4,show ρ[5]?=_ from a5,show ρ[6]?=_ from a6]
 have w:dC ρ H=.ok ((bf R.length).filterMap λk=>(R[k]?).bind λr=>if decide (dY n ps r=m)then some (aS r)else none) H:=
  gJ (bf R.length) _ (λρ=>∃a,ρ=[a,some (.ref i),some (.int m),some (.ref j)]) (src:=cG 0 R.length) (z5y el (by omega) (by omega)) (by simp[cG]) ⟨none,hc⟩ rfl (λk hk ρ ⟨a,e⟩=>by
   subst e;have Ct:k<R.length:=by simpa using hk
   refine⟨.int (0+k),[some (.int (0+k)),some (.ref i),some (.int m),some (.ref j)],rfl,rfl,⟨_,rfl⟩, ?_⟩;have h00:(0+(k:Int))=(k:Int):=by omega
   have x1:=gR (j:=k) g (by simpa using Ct);have x2:=gR (j:=k) gj (by simpa using Ct);rw[mz]at x1;rw[mz,mz]at x2;rw[h00,nt,ay Ct];have t:mB (m2 cA (m2 aR (aA 3) (aA 0)) (aA 2)) [some (.int k),some (.ref i),some (.int m),some (.ref j)] H=.ok (decide (dY n ps R[k]=m)) H:=by unfold mB;rw[iM (mb:=aA 2) (iM (ma:=aA 3) (mb:=aA 0) rfl rfl x2) rfl (K05.eq_int _ _)];rfl
   have u:m2 aR (aA 1) (aA 0) [some (.int k),some (.ref i),some (.int m),some (.ref j)] H=.ok (aS R[k]) H:=iM (ma:=aA 1) (mb:=aA 0) rfl rfl x1;simp only[wk]
   cases c:decide (dY n ps R[k]=m)with
   |true=>rw[c]at t;exact⟨t,u⟩
   |false=>rw[c]at t;exact t) (by simp;omega)
 exact w.trans (congrArg (λl=>Rs.ok l _) (z5z _ _ _))
end
open L2.Mr.Cod (last_get gR)
open L2.Mr.K04 (aS dP kK lK qG)
section
variable{n st:Nat}{ps:y'}{r:Aq}{H:Hs}{ρ:Ev}{d:Dv}
theorem lrows_ok (o:Be n ps):∃i H',F_qr [aM n ps] H=.ok (.ref i) H'/\getL H' i=some ((dP n ps n).map aS)/\Fr [] H H':=K04.lrows_ok o
theorem GJ {S:Av}{ma mb:M Dv}{x y:Dv}{H1 H2:Hs}(ha:ma ρ H=.ok x H1) (hb:mb ρ H1=.ok y H2) (hs:S [x,y] H2=.ok (.bl true) H2):eJ (cB (aF S (aB ma (aB mb aC)))) ρ H=.ok false H2:=by simp[eJ,cB,aF,aB,ha,hb,aC,hs,gF]
theorem QF {o m:M Dv}{p:Nat}{xs:Aw}{H1:Hs}(eo:o ρ H=.ok (.ref p) H) (hp:(getL H p).isSome=true) (em:m ρ H=.ok d H1) (g:getL H1 p=some xs) (hl:xs.length<1000000):cT (eO o m) ρ H=.nx ρ (H1.set p (.lst (xs++[d]))):=by simp[cT,eO,eo,iJ,hp,em,lS,g,hl]
def Due (n:Nat) (ps:y') (p c b:Nat) (H:Hs):Prop:=getL H p=some [.ref c,.ref b]/\getL H c=some ((oW (cQ n ps)).map Dv.int)/\getL H b=some ((kL n ps).map aS)
theorem Due.fr {p c b:Nat}{H':Hs}(h:Due n ps p c b H) (f:Fr [] H H'):Due n ps p c b H':=⟨f.getL h.1 (by simp),f.getL h.2.1 (by simp),f.getL h.2.2 (by simp)⟩
theorem QG {k:Nat}(h:r.length<=6):F_qs (k+2) [aS r,aS r] H=.ok (.bl true) H:=z4k (by omega)
theorem z61 (o:Be n ps) {k i j:Nat}(gi:getL H i=some ((kL n ps).map aS)) (gj:getL H j=some ((kL n ps).map aS)):F_qs (k+3) [.ref i,.ref j] H=.ok (.bl true) H:=by have hl:=P7 o;refine PK gi gj (by rw[ba];omega) λx hx=>?_;obtain⟨q,hq,rfl⟩:=cg.mp hx;exact QG (P8 o hq)
abbrev s7:MS:=aJ (aV (aB (aZ (cC 5)) aC)) (aD 7)
abbrev s8:MS:=cT (eO (aA 7) (aZ dC))
theorem z62 (o:Be n ps) {i j:Nat}(a4:At ρ 4 (.ref i)) (a5:At ρ 5 (.ref j)) (a6:At ρ 6 (.int (dU (cQ n ps)))) (hL:7<ρ.length) (g:getL H i=some ((dP n ps n).map aS)) (gj:getL H j=some ((cQ n ps).map Dv.int)) (u:MS):∃p c b H',aH s7 (aH s8 u) ρ H=u (ρ.set 7 (some (.ref p))) H'/\Due n ps p c b H'/\Fr [] H H':=by
 have mb:=GA o;have e1:=lK (QB a5 gj (qI o) mb.1 (by omega));obtain⟨H1,hH1⟩:∃H1,H1=H++[Ob.lst ((oW (cQ n ps)).map Dv.int)]:=⟨_,rfl⟩
 rw[<-hH1]at e1;have f1':Fr [] H H1:=by rw[hH1];exact Fr.app
 have gc:getL H1 H.length=some ((oW (cQ n ps)).map Dv.int):=by rw[hH1];exact last_get
 have lt:H.length<H1.length:=by rw[hH1];simp
 obtain⟨H2,hH2⟩:∃H2,H2=H1++[Ob.lst [.ref H.length]]:=⟨_,rfl⟩
 have f2:Fr [] H1 H2:=by rw[hH2];exact Fr.app
 have e2:aV (aB (aZ (cC 5)) aC) ρ H=.ok (.ref H1.length) H2:=by rw[hH2];generalize aZ (cC 5)=M at e1;simp[aV,aB,e1,aC,lim]
 have gp:getL H2 H1.length=some [.ref H.length]:=by rw[hH2];exact last_get
 generalize hc:H.length=c at gc gp lt;generalize hp:H1.length=p at e2 gp lt;have w1:=qH (i:=7) e2;have b4:At (ρ.set 7 (some (.ref p))) 4 (.ref i):=a4.o;have b5:At (ρ.set 7 (some (.ref p))) 5 (.ref j):=a5.o;have b6:At (ρ.set 7 (some (.ref p))) 6 (.int (dU (cQ n ps))):=a6.o;have b7:At (ρ.set 7 (some (.ref p))) 7 (.ref p):=.new hL;refine⟨p,c, ?_⟩;generalize ρ.set 7 (some (.ref p))=ρ2 at w1 b4 b5 b6 b7;have f12:Fr [] H H2:=f1'.trans f2 (by simp);have e3:=lK (z60 (n:=n) (ps:=ps) b4 b5 b6 (f12.getL g (by simp)) (f12.getL gj (by simp)) (kK o (aj n)));obtain⟨H3,hH3⟩:∃H3,H3=H2++[Ob.lst ((kL n ps).map aS)]:=⟨_,rfl⟩
 have e3':aZ dC ρ2 H2=.ok (.ref H2.length) H3:=by rw[hH3];exact e3
 have f3:Fr [] H2 H3:=by rw[hH3];exact Fr.app
 have gb:getL H3 H2.length=some ((kL n ps).map aS):=by rw[hH3];exact last_get
 have Cj:=lZ gp;have w2:=QF (o:=aA 7) (by rw[b7.v]) (by rw[gp];rfl) e3' (f3.getL gp (by simp)) (by simp);have f4:Fr [p] H3 (H3.set p (.lst ([.ref c]++[.ref H2.length]))):=Fr.set;refine⟨H2.length,_, ?_,⟨?_, ?_, ?_⟩,(f12.trans f3 (by simp)).trans f4 (λx hx=>by simp only[bz]at hx;right;omega)⟩
 ·rw[bP w1,bP w2]
 ·exact lY (f3.getL gp (by simp))
 ·exact f4.getL ((f2.trans f3 (T:=[]) (by simp)).getL gc (by simp)) (by simp;omega)
 ·exact f4.getL gb (by simp;omega)
abbrev i1:MS:=bX (gX (eJ (cB (aF (F_qs 6) (aB (aF F_qp (aB (aA 3) aC)) (aB (aA 6) aC))))) (eJ (cB (aF (F_qs 6) (aB (aF F_qn (aB (aA 3) aC)) (aB (m2 aR (m2 aR (aA 7) (mC (.int 1))) (mC (.int 0))) aC)))))) (aN (mC (.bl false))) cO
theorem z63 (o:Be n ps) {p c b:Nat}(a3:At ρ 3 (aM n ps)) (a6:At ρ 6 (.int (dU (cQ n ps)))) (a7:At ρ 7 (.ref p)) (D:Due n ps p c b H):∃H',i1 ρ H=.nx ρ H'/\Fr [] H H':=by obtain⟨H1,e1,f1'⟩:=z5m (H:=H) o;have hb:=qo.mpr (z5k o);obtain⟨H2,e2,f2⟩:=z5q (H:=H1) o hb;have f:=f1'.trans f2 (T:=[]) (by simp);have D2:=D.fr f;have x1:=gR (j:=1) D2.1 (by simp);have x2:=gR (j:=0) D2.2.2 (by simpa using hb);rw[mz]at x2;have c1:=GJ (S:=F_qs 6) (mb:=aA 6) (kM (F:=F_qp) a3.v e1) (by rw[a6.v]) (FY (n:=5));have ed:m2 aR (m2 aR (aA 7) (mC (.int 1))) (mC (.int 0)) ρ H2=.ok (aS (kL n ps)[0]) H2:=iM (mb:=mC (.int 0)) (iM (ma:=aA 7) (mb:=mC (.int 1)) (by rw[a7.v]) rfl x1) rfl x2;have c2:=GJ (S:=F_qs 6) (kM (F:=F_qn) a3.v e2) ed (QG (k:=4) (P8 o (de hb)));exact⟨H2,(rP ((z3y c1).trans c2)).trans rfl,f⟩
abbrev lA:MS:=bX (eJ (cB (aF (F_qs 6) (aB (aA 9) (aB (aA 7) aC))))) (aN (mC (.bl false))) cO
abbrev lE:MS:=cT (eO (m2 aR (aA 9) (aA 8)) (mC (.int 0)))
abbrev lB:MS:=aH (aJ (aV (aB (aF F_q7 (aB (aA 3) aC)) (aB (aF F_qx (aB (aA 3) aC)) aC))) (aD 9)) (aH lA lE)
theorem z64 (o:Be n ps) {p c b k:Nat}(hk:k<2) (a3:At ρ 3 (aM n ps)) (a7:At ρ 7 (.ref p)) (a8:At ρ 8 (.int (k:Int))) (hL:9<ρ.length) (D:Due n ps p c b H):∃q H',lB ρ H=.nx (ρ.set 9 (some (.ref q))) H'/\Fr [] H H':=by
 obtain⟨s1,H1,e1,g1,f1',l1⟩:=z5n (H:=H) o;obtain⟨s2,H2,e2,g2,f2,l2⟩:=QC (H:=H1) o;have zU:=f1'.le;obtain⟨H3,hH3⟩:∃H3,H3=H2++[Ob.lst [.ref s1,.ref s2]]:=⟨_,rfl⟩
 have f3:Fr [] H2 H3:=by rw[hH3];exact Fr.app
 have em:aV (aB (aF F_q7 (aB (aA 3) aC)) (aB (aF F_qx (aB (aA 3) aC)) aC)) ρ H=.ok (.ref H2.length) H3:=by have q1:=kM (F:=F_q7) a3.v e1;have q2:=kM (F:=F_qx) a3.v e2;rw[hH3];generalize aF F_q7 (aB (aA 3) aC)=M1 at q1;generalize aF F_qx (aB (aA 3) aC)=M2 at q2;simp[aV,aB,q1,q2,aC,lim]
 have gq:getL H3 H2.length=some [.ref s1,.ref s2]:=by rw[hH3];exact last_get
 generalize H2.length=q at em gq;have g1':=(f2.trans f3 (T:=[]) (by simp)).getL g1 (by simp);have g2':=f3.getL g2 (by simp);have fA:Fr [] H H3:=(f1'.trans f2 (by simp)).trans f3 (by simp);have D3:=D.fr fA;have w1:=qH (i:=9) em;have b7:At (ρ.set 9 (some (.ref q))) 7 (.ref p):=a7.o;have b8:At (ρ.set 9 (some (.ref q))) 8 (.int (k:Int)):=a8.o;have b9:At (ρ.set 9 (some (.ref q))) 9 (.ref q):=.new hL;refine⟨q, ?_⟩;generalize ρ.set 9 (some (.ref q))=ρ2 at w1 b7 b8 b9;have sm:F_qs 6 [.ref q,.ref p] H3=.ok (.bl true) H3:=PJ (n:=5) gq D3.1 rfl (by simp) λz hz=>by
  simp only[vp,List.zip_nil_right,bh,List.not_mem_nil,or_false]at hz
  rcases hz with rfl|rfl
  ·exact z4l (n:=3) g1' D3.2.1 (by have:=P9 o;omega)
  ·exact z61 o (k:=2) g2' D3.2.2
 have c1:=GJ (S:=F_qs 6) (ρ:=ρ2) (ma:=aA 9) (mb:=aA 7) (by rw[b9.v]) (by rw[b7.v]) sm;have w2:lA ρ2 H3=.nx ρ2 H3:=(rP c1).trans rfl;have hx:∀(s:Nat) (xs:Aw),getL H3 s=some xs->xs.length<1000000->H.length<=s->aR (.ref q) (.int (k:Int)) H3=.ok (.ref s) H3->∃H',lB ρ H=.nx ρ2 H'/\Fr [] H H':=λs xs gs hl hs hx=>by
  have w3:=QF (ρ:=ρ2) (o:=m2 aR (aA 9) (aA 8)) (m:=mC (.int 0)) (d:=.int 0) (H1:=H3) (iM (ma:=aA 9) (mb:=aA 8) (by rw[b9.v]) (by rw[b8.v]) hx) (by rw[gs];rfl) rfl gs hl;have f4:Fr [s] H3 (H3.set s (.lst (xs++[.int 0]))):=Fr.set;refine⟨_, ?_,fA.trans f4 (λx hx=>by simp only[bz]at hx;right;omega)⟩
  ·unfold lB;rw[bP w1,bP w2];exact w3
 have hbl:=P7 o
 rcases(by omega:k=0∨k=1)with rfl|rfl
 ·exact hx s1 _ g1' (by have:=P9 o;rw[ba];omega) l1 (gR (j:=0) gq (by simp))
 ·exact hx s2 _ g2' (by rw[ba];omega) (by omega) (gR (j:=1) gq (by simp))
abbrev s4:MS:=aJ (aF F_qr (aB (aA 3) aC)) (aD 4)
abbrev s5:MS:=aJ (aZ qE) (aD 5)
abbrev s6:MS:=aJ (aF (f1 (fJ dU)) (aB (aA 5) aC)) (aD 6)
theorem z65 (scr:Aq):zA scr 0=aH (aJ (aF (F_ql scr) (aB (aA 0) (aB (aA 1) aC))) (aD 2)) (aH (aJ (aF F_qk (aB (aA 2) (aB (mC (.int 6)) aC))) (aD 3)) (aH s4 (aH s5 (aH s6 (aH s7 (aH s8 (aH i1 (aH (cX (aO bY (aB (mC (.int 2)) aC)) (aD 8) lB) (aH (aJ (aF F_qb (aB (aA 2) aC)) (aD 10)) bM))))))))):=rfl
theorem E8 (scr:Aq) (k:Nat) (hL:ρ.length=12) (a0:At ρ 0 .scr) (a1:At ρ 1 (.int k)):∃ρ' H',zA scr 0 ρ H=.nx ρ' H'/\ρ'.length=12/\At ρ' 0 .scr:=by
 obtain⟨H1,h1,f1',s1⟩:=z31 scr k H;obtain⟨n,ps,H2,h2,o,s2,f2⟩:=mR s1;have w1:=qH (i:=2) (QE (F:=F_ql scr) a0.v a1.v h1);generalize H.length=st at s1 s2 f2 h2 w1;have b0:At (ρ.set 2 (some (.ref st))) 0 .scr:=a0.o;have b2:At (ρ.set 2 (some (.ref st))) 2 (.ref st):=.new (by omega);have bL:(ρ.set 2 (some (.ref st))).length=12:=by simp[hL]
 rw[z65,bP w1];generalize ρ.set 2 (some (.ref st))=ρ1 at b0 b2 bL;have w2:=qH (i:=3) (show aF F_qk (aB (aA 2) (aB (mC (.int 6)) aC)) ρ1 H1=.ok (aM n ps) H2 by simp[aF,aB,b2.v,mC,aC,h2]);have c0:At (ρ1.set 3 (some (aM n ps))) 0 .scr:=b0.o;have c2:At (ρ1.set 3 (some (aM n ps))) 2 (.ref st):=b2.o;have c3:At (ρ1.set 3 (some (aM n ps))) 3 (aM n ps):=.new (by omega);have cL':(ρ1.set 3 (some (aM n ps))).length=12:=by simp[bL]
 rw[bP w2];generalize ρ1.set 3 (some (aM n ps))=ρ2 at c0 c2 c3 cL';obtain⟨i,H3,e3,g3,f3⟩:=lrows_ok (H:=H2) o;have w3:=qH (i:=4) (kM (F:=F_qr) c3.v e3);have d3:At (ρ2.set 4 (some (.ref i))) 3 (aM n ps):=c3.o;have d4:At (ρ2.set 4 (some (.ref i))) 4 (.ref i):=.new (by omega);obtain⟨H4,e4,f4⟩:=z5x (ρ:=ρ2.set 4 (some (.ref i))) o d3 d4 g3;have w4:s5 (ρ2.set 4 (some (.ref i))) H3=.nx ((ρ2.set 4 (some (.ref i))).set 5 (some (.ref H4.length))) (H4++[.lst ((cQ n ps).map Dv.int)]):=AG e4 rfl;have g4:getL (H4++[Ob.lst ((cQ n ps).map Dv.int)]) H4.length=some ((cQ n ps).map Dv.int):=last_get;have f5:Fr [] H3 (H4++[Ob.lst ((cQ n ps).map Dv.int)]):=f4.trans (T:=[]) Fr.app (by simp);generalize H4++[Ob.lst ((cQ n ps).map Dv.int)]=H5 at w4 g4 f5;generalize H4.length=j at w4 g4;have p5:At ((ρ2.set 4 (some (.ref i))).set 5 (some (.ref j))) 5 (.ref j):=.new (by simp;omega);have p4:At ((ρ2.set 4 (some (.ref i))).set 5 (some (.ref j))) 4 (.ref i):=d4.o;have p3:At ((ρ2.set 4 (some (.ref i))).set 5 (some (.ref j))) 3 (aM n ps):=d3.o;have p2:At ((ρ2.set 4 (some (.ref i))).set 5 (some (.ref j))) 2 (.ref st):=c2.o.o;have p0:At ((ρ2.set 4 (some (.ref i))).set 5 (some (.ref j))) 0 .scr:=c0.o.o;have pL:((ρ2.set 4 (some (.ref i))).set 5 (some (.ref j))).length=12:=by simp[cL']
 rw[bP w3,bP w4];generalize (ρ2.set 4 (some (.ref i))).set 5 (some (.ref j))=ρ3 at p0 p2 p3 p4 p5 pL;have w6:=qH (i:=6) (kM (F:=f1 (fJ dU)) p5.v (AQ (f:=dU) g4 (qI o)));rw[bP w6];have q6:At (ρ3.set 6 (some (.int (dU (cQ n ps))))) 6 (.int (dU (cQ n ps))):=.new (by omega);have q5:At (ρ3.set 6 (some (.int (dU (cQ n ps))))) 5 (.ref j):=p5.o;have q4:At (ρ3.set 6 (some (.int (dU (cQ n ps))))) 4 (.ref i):=p4.o;have q3:At (ρ3.set 6 (some (.int (dU (cQ n ps))))) 3 (aM n ps):=p3.o;have q2:At (ρ3.set 6 (some (.int (dU (cQ n ps))))) 2 (.ref st):=p2.o;have q0:At (ρ3.set 6 (some (.int (dU (cQ n ps))))) 0 .scr:=p0.o;have qL:(ρ3.set 6 (some (.int (dU (cQ n ps))))).length=12:=by simp[pL]
 generalize ρ3.set 6 (some (.int (dU (cQ n ps))))=ρ4 at q0 q2 q3 q4 q5 q6 qL;obtain⟨p,c,b,H6,w7,D,f6⟩:=z62 o q4 q5 q6 (by omega) (f5.getL g3 (by simp)) g4 (aH i1 (aH (cX (aO bY (aB (mC (.int 2)) aC)) (aD 8) lB) (aH (aJ (aF F_qb (aB (aA 2) aC)) (aD 10)) bM)));rw[w7];have r7:At (ρ4.set 7 (some (.ref p))) 7 (.ref p):=.new (by omega);have r6:At (ρ4.set 7 (some (.ref p))) 6 (.int (dU (cQ n ps))):=q6.o;have r3:At (ρ4.set 7 (some (.ref p))) 3 (aM n ps):=q3.o;have r2:At (ρ4.set 7 (some (.ref p))) 2 (.ref st):=q2.o;have r0:At (ρ4.set 7 (some (.ref p))) 0 .scr:=q0.o;have rL:(ρ4.set 7 (some (.ref p))).length=12:=by simp[qL]
 generalize ρ4.set 7 (some (.ref p))=ρ5 at r0 r2 r3 r6 r7 rL;obtain⟨H7,w8,f7⟩:=z63 o r3 r6 r7 D;have s7':=s2.fr (((f3.trans f5 (by simp)).trans f6 (by simp)).trans f7 (by simp):Fr [] H2 H7) (by simp);obtain⟨ρ6,H8,w9,⟨t0,t2,t3,t7,tL⟩,D8,s8'⟩:=mD (sg:=aD 8) (b:=lB) (show aO bY (aB (mC (.int 2)) aC) ρ5 H7=.ok (cG 0 2) H7 from rfl) (λ_ ρ Hx=>(At ρ 0 .scr/\At ρ 2 (.ref st)/\At ρ 3 (aM n ps)/\At ρ 7 (.ref p)/\ρ.length=12)/\Due n ps p c b Hx/\Com.St st Hx)
  (λm ρ Hx hm ⟨⟨t0,t2,t3,t7,tL⟩,D,s⟩=>by
   have Eb:m<2:=hm;have hz:(0+(m:Int))=(m:Int):=by omega
   obtain⟨q,Hy,wt,fy⟩:=z64 (ρ:=ρ.set 8 (some (.int (m:Int)))) o Eb t3.o t7.o (.new (by omega)) (by simp[tL]) D;exact⟨.int (m:Int),_,_,Hy,by simp[cG],rfl,wt,⟨t0.o.o,t2.o.o,t3.o.o,t7.o.o,by simp[tL]⟩,D.fr fy,s.fr fy (by simp)⟩)
  (λρ Hx _=>rfl) ⟨⟨r0,r2,r3,r7,rL⟩,D.fr f7,s7'⟩
 obtain⟨d,H9,h9,td,bd,s9,f9⟩:=K05.bad_no s8';obtain⟨q,H10,w10⟩:=z5v (ρ:=ρ6.set 10 (some d)) td bd (.new (by omega)) (by simp[tL]);refine⟨(ρ6.set 10 (some d)).set 11 (some (.ref q)),H10, ?_,by simp[tL],t0.o.o⟩;rw[bP w8,bP w9,bP (qH (kM (F:=F_qb) t2.v h9)),w10]
end
theorem loop (scr:Aq) (m:Int):∀(f k:Nat) (ρ:Ev) (H:Hs),ρ.length=12->At ρ 0 .scr->∃ρ' H',iU (cG 0 m) (aD 1) (zA scr 0) f k ρ H=.nx ρ' H'
 |0,k,ρ,H,_,_=>⟨_,H,rfl⟩
 |f+1,k,ρ,H,hL,a0=>by obtain⟨ρ1,H1,h,l1,b0⟩:=E8 (H:=H) (ρ:=ρ.set 1 (some (.int k))) scr k (by simp[hL]) a0.o (.new (by omega));obtain⟨ρ',H2,h2⟩:=loop scr m f (k+1) ρ1 H1 l1 b0;refine⟨ρ',H2, ?_⟩;rw[<-h2];exact LN (d:=.int k) (by simp[cG]) rfl h
theorem z66 (scr:Aq):∃hh,F_q8 scr [.scr] []=.ok (.bl true) hh:=by
 have hi:∃m:Int,aO bY (aB (aF nA (aB (mC (.int 1)) (aB (aF qZ (aB (aF (f1 (iQ scr)) (aB (aA 0) aC)) (aB (mC (.int 3)) aC))) aC))) aC) [some .scr,none,none,none,none,none,none,none,none,none,none,none] []=.ok (cG 0 m) []:=by
  generalize hz:(if(3:Int)<scr.length then(3:Int)else scr.length)=z;have z0:0<=z:=by split at hz <;> omega
  have z1:z<=3:=by split at hz <;> omega
  generalize hm:(if z>(1:Int)then z else 1)=m;have m0:1<=m:=by split at hm <;> omega
  have m1':m<=3:=by split at hm <;> omega
  have hr:gA m=true:=by simp[gA];omega
  refine⟨m, ?_⟩;have e1:qZ [.int scr.length,.int 3] []=.ok (.int z) []:=by rw[<-hz];rfl
  have e2:nA [.int 1,.int z] []=.ok (.int m) []:=by rw[<-hm];rfl
  simp[aO,aB,aF,mC,aA,aC,f1,iQ,fY,e1,e2,bY,hr]
 obtain⟨m,hi⟩:=hi;obtain⟨ρ',H',h⟩:=loop scr m (cG 0 m).n 0 [some .scr,none,none,none,none,none,none,none,none,none,none,none] [] rfl rfl;refine⟨H', ?_⟩;show bH (zB scr 0 [some .scr,none,none,none,none,none,none,none,none,none,none,none] [])=_;unfold zB N2;rw[bP ((LM hi).trans h)];rfl
open PySem.Calls PySem.W
theorem mk_of {l:OpenLaw}{w:cq}{K:Frag}{h:cx}{mg:Str->Option af}{fa:ah}(hob:ob K=obE) (hnt:noTabs K=true) (X:K.In h) (G:h.Ns dj mg) (hfa:mg "law" = some (.ref fa)):
  ∃(fd:bq) (c P:ah),(∀(s:ag) (u:af),yz s fd ⟨[u],[]⟩ [("_law_script",u)])/\tabIn K "law" = some (c,P)/\noTabs K=true /\
   ∀(base:cx) (a:ah) (ns:Aq),ns.length<=63->K.In base->base.Ns dj mg->CodeHd base c P->lV mg base->Lawful l.prog w K mg base 16 fa fd "_law_script" P a ns:=by
 have hc:obF.all (λf=>f K)=true:=congrArg fh hob;have hf:AW K=AX:=congrArg rh hob;have e:=hfa.symm.trans (mg_of X G (v:=.ref 364) (dB hc 34));cases e;refine(λ(z:∀R:Prop,(_->R)->R)=>z _ id) λR hR=>?_;obtain⟨g0,U0,B0,C0,D0⟩:=dJ hf hc 166 ED "is_whole" 165 ["thing"] 0 63 98 λ_ _ _ _ _ _=>gO λ_=>rfl;obtain⟨g1,U1,B1,C1,D1⟩:=dJ hf hc 173 EE "is_between" 172 ["thing","low","high"] 1 64 99 λ_ _ _ _ _ _=>LC λ_ _ _=>rfl;obtain⟨g2,U2,B2,C2,D2⟩:=dJ hf hc 178 zC "is_rising" 177 ["parts"] 2 65 100 λ_ _ _ _ _ _=>gO λ_=>rfl;obtain⟨g3,U3,B3,C3,D3⟩:=dJ hf hc 185 EF "is_thing" 184 ["many","thing"] 3 66 101 λ_ _ _ _ _ _=>jK λ_ _=>rfl;obtain⟨g4,U4,B4,C4,D4⟩:=dJ hf hc 190 zD "are_things" 189 ["many","thing"] 4 67 102 λ_ _ _ _ _ _=>jK λ_ _=>rfl;obtain⟨g5,U5,B5,C5,D5⟩:=dJ hf hc 197 EG "is_pair" 196 ["many","thing"] 5 68 103 λ_ _ _ _ _ _=>jK λ_ _=>rfl;obtain⟨g6,U6,B6,C6,D6⟩:=dJ hf hc 202 zE "are_pairs" 201 ["many","things"] 6 69 104 λ_ _ _ _ _ _=>jK λ_ _=>rfl;obtain⟨g7,U7,B7,C7,D7⟩:=dJ hf hc 207 zF "has_alike" 206 ["pairs"] 7 70 105 λ_ _ _ _ _ _=>gO λ_=>rfl;obtain⟨g8,U8,B8,C8,D8⟩:=dJ hf hc 212 zG "is_complete" 211 ["pairs"] 8 71 106 λ_ _ _ _ _ _=>gO λ_=>rfl;obtain⟨g9,U9,B9,C9,D9⟩:=dJ hf hc 219 EH "is_order" 218 ["thing"] 9 72 107 λ_ _ _ _ _ _=>gO λ_=>rfl;obtain⟨g10,U10,B10,C10,D10⟩:=dJ hf hc 226 EI "need_order" 225 ["order"] 10 73 108 λ_ _ _ _ _ _=>gO λ_=>rfl;obtain⟨g11,U11,B11,C11,D11⟩:=dJ hf hc 233 EJ "are_loose" 232 ["order","one","other"] 11 74 109 λ_ _ _ _ _ _=>LC λ_ _ _=>rfl;obtain⟨g12,U12,B12,C12,D12⟩:=dJ hf hc 238 zH "loose_pairs" 237 ["order"] 12 75 110 λ_ _ _ _ _ _=>gO λ_=>rfl;obtain⟨g13,U13,B13,C13,D13⟩:=dJ hf hc 243 uY "may_come" 242 ["order","begun"] 13 76 111 λ_ _ _ _ _ _=>jK λ_ _=>rfl;obtain⟨g14,U14,B14,C14,D14⟩:=dJ hf hc 248 zI "all_rows" 247 ["order"] 14 77 112 λ_ _ _ _ _ _=>gO λ_=>rfl;obtain⟨g15,U15,B15,C15,D15⟩:=dJ hf hc 255 EK "apart" 254 ["row","pair"] 15 78 113 λ_ _ _ _ _ _=>jK λ_ _=>rfl;obtain⟨g16,U16,B16,C16,D16⟩:=dJ hf hc 260 zJ "greatest_apart" 259 ["row","pairs"] 16 79 114 λ_ _ _ _ _ _=>jK λ_ _=>rfl;obtain⟨g17,U17,B17,C17,D17⟩:=dJ hf hc 265 zK "rows_with_spans" 264 ["order"] 17 80 115 λ_ _ _ _ _ _=>gO λ_=>rfl;obtain⟨g18,U18,B18,C18,D18⟩:=dJ hf hc 270 zL "least_span" 269 ["order"] 18 81 116 λ_ _ _ _ _ _=>gO λ_=>rfl;obtain⟨g19,U19,B19,C19,D19⟩:=dJ hf hc 275 uZ "spans" 274 ["order"] 19 82 117 λ_ _ _ _ _ _=>gO λ_=>rfl;obtain⟨g20,U20,B20,C20,D20⟩:=dJ hf hc 280 vA "best_rows" 279 ["order"] 20 83 118 λ_ _ _ _ _ _=>gO λ_=>rfl;obtain⟨g21,U21,B21,C21,D21⟩:=dJ hf hc 287 EL "first_best" 286 ["order"] 21 84 119 λ_ _ _ _ _ _=>gO λ_=>rfl;obtain⟨g22,U22,B22,C22,D22⟩:=dJ hf hc 294 EM "_law_cell_at" 293 ["_law_script","_law_k"] 22 85 120 λ_ _ _ _ _ _=>jK λ_ _=>rfl;obtain⟨g23,U23,B23,C23,D23⟩:=dJ hf hc 301 EN "_law_state" 300 ["_law_script","_law_k"] 23 86 121 λ_ _ _ _ _ _=>jK λ_ _=>rfl;obtain⟨g24,U24,B24,C24,D24⟩:=dJ hf hc 308 EO "_law_take" 307 ["_law_state_here","_law_many"] 24 87 122 λ_ _ _ _ _ _=>jK λ_ _=>rfl;obtain⟨g25,U25,B25,C25,D25⟩:=dJ hf hc 315 ER "_law_mixed_row" 314 ["_law_state_here","_law_things"] 25 88 123 λ_ _ _ _ _ _=>jK λ_ _=>rfl;obtain⟨g26,U26,B26,C26,D26⟩:=dJ hf hc 320 zM "_law_closed" 319 ["_law_pairs"] 26 89 124 λ_ _ _ _ _ _=>gO λ_=>rfl;obtain⟨g27,U27,B27,C27,D27⟩:=dJ hf hc 325 vB "_law_order" 324 ["_law_state_here","_law_most"] 27 90 125 λ_ _ _ _ _ _=>jK λ_ _=>rfl;obtain⟨g28,U28,B28,C28,D28⟩:=dJ hf hc 330 vC "_law_rows" 329 ["_law_order_here"] 28 91 126 λ_ _ _ _ _ _=>gO λ_=>rfl;obtain⟨g29,U29,B29,C29,D29⟩:=dJ hf hc 337 ES "_law_loose" 336 ["_law_order_here"] 29 92 127 λ_ _ _ _ _ _=>gO λ_=>rfl;obtain⟨g30,U30,B30,C30,D30⟩:=dJ hf hc 342 zN "_law_span" 341 ["_law_order_here","_law_row"] 30 93 128 λ_ _ _ _ _ _=>jK λ_ _=>rfl;obtain⟨g31,U31,B31,C31,D31⟩:=dJ hf hc 349 ET "_law_bad_order" 348 ["_law_state_here"] 31 94 129 λ_ _ _ _ _ _=>gO λ_=>rfl;obtain⟨g32,U32,B32,C32,D32⟩:=dJ hf hc 354 zO "_law_same" 353 ["_law_found","_law_due"] 32 95 130 λ_ _ _ _ _ _=>jK λ_ _=>rfl;obtain⟨g33,U33,B33,C33,D33⟩:=dJ hf hc 359 pX "_law_refused" 358 ["_law_call"] 33 96 131 λ_ _ _ _ _ _=>gO λ_=>rfl;obtain⟨g34,U34,B34,C34,D34⟩:=dJ hf hc 364 fH "law" 363 ["_law_script"] 34 97 132 λ_ _ _ _ _ _=>gO λ_=>rfl;obtain⟨t_MOST_THINGS,c_MOST_THINGS⟩:=QL (n := "MOST_THINGS") (v:=6) (qK hc 133 rfl);have ex_NoOrder:Dg K 37:=⟨dB hc 157,dB hc 158,dB hc 159,dB hc 160,dB hc 161,dB hc 162,QK (qK hc 163 rfl)⟩
 refine hR ⟨g34,363,361,λs v=>.of_eq (D34 [v] rfl),dB hc 134,hnt,λbase a ns hlen _ _ hC hB=>⟨?_⟩⟩;obtain⟨hh,hl⟩:=z66 ns;refine⟨{ K:=K,cl:=λc=>match c with|0=>37|1=>49|2=>61|3=>73|4=>85|5=>97|6=>109|7=>121|8=>133|9=>145|10=>157|_=>24,scr:=ns,sa:=a,tab:=some 361,lq:=(("law" : Str) ++ ".<locals>.") ++ "<lambda>" },F_q8 ns,hh,rfl,rfl,rfl,rfl,hl, ?_⟩;refine z2j (A:=⟨166,g0,173,g1,178,g2,185,g3,190,g4,197,g5,202,g6,207,g7,212,g8,219,g9,226,g10,233,g11,238,g12,243,g13,248,g14,255,g15,260,g16,265,g17,270,g18,275,g19,280,g20,287,g21,294,g22,301,g23,308,g24,315,g25,320,g26,325,g27,330,g28,337,g29,342,g30,349,g31,354,g32,359,g33,364,g34,37,49,61,73,85,97,109,121,133,145,157,t_MOST_THINGS,24,363,361⟩) ?_ (λ_ _ _ _ _ _=>trivial) hC hB;exact⟨rfl,U0,B0,cJ X G hc 0,U1,B1,cJ X G hc 1,U2,B2,cJ X G hc 2,U3,B3,cJ X G hc 3,U4,B4,cJ X G hc 4,U5,B5,cJ X G hc 5,U6,B6,cJ X G hc 6,U7,B7,cJ X G hc 7,U8,B8,cJ X G hc 8,U9,B9,cJ X G hc 9,U10,B10,cJ X G hc 10,U11,B11,cJ X G hc 11,U12,B12,cJ X G hc 12,U13,B13,cJ X G hc 13,U14,B14,cJ X G hc 14,U15,B15,cJ X G hc 15,U16,B16,cJ X G hc 16,U17,B17,cJ X G hc 17,U18,B18,cJ X G hc 18,U19,B19,cJ X G hc 19,U20,B20,cJ X G hc 20,U21,B21,cJ X G hc 21,U22,B22,cJ X G hc 22,U23,B23,cJ X G hc 23,U24,B24,cJ X G hc 24,U25,B25,cJ X G hc 25,U26,B26,cJ X G hc 26,U27,B27,cJ X G hc 27,U28,B28,cJ X G hc 28,U29,B29,cJ X G hc 29,U30,B30,cJ X G hc 30,U31,B31,cJ X G hc 31,U32,B32,cJ X G hc 32,U33,B33,cJ X G hc 33,U34,B34,cJ X G hc 34,mg_none_of X G (dB hc 47),mg_none_of X G (dB hc 48),mg_none_of X G (dB hc 49),mg_none_of X G (dB hc 50),mg_none_of X G (dB hc 51),mg_none_of X G (dB hc 52),mg_none_of X G (dB hc 53),mg_none_of X G (dB hc 54),mg_none_of X G (dB hc 55),mg_none_of X G (dB hc 56),mg_none_of X G (dB hc 57),mg_none_of X G (dB hc 58),mg_none_of X G (dB hc 59),mg_none_of X G (dB hc 60),mg_none_of X G (dB hc 61),mg_none_of X G (dB hc 62),mg_of X G c_MOST_THINGS,cJ X G hc 35,cJ X G hc 36,cJ X G hc 37,cJ X G hc 38,cJ X G hc 39,cJ X G hc 40,cJ X G hc 41,cJ X G hc 42,cJ X G hc 43,cJ X G hc 44,cJ X G hc 45,dB hc 35,qK hc 164 rfl,rfl,kD ⟨dB hc 165,ex_NoOrder⟩ kC,kD ⟨dB hc 146,ex_NoOrder⟩ kC,kD ⟨dB hc 147,ex_NoOrder⟩ kC,kD ⟨dB hc 148,ex_NoOrder⟩ kC,kD ⟨dB hc 149,ex_NoOrder⟩ kC,kD ⟨dB hc 150,ex_NoOrder⟩ kC,kD ⟨dB hc 151,ex_NoOrder⟩ kC,kD ⟨dB hc 152,ex_NoOrder⟩ kC,kD ⟨dB hc 153,ex_NoOrder⟩ kC,kD ⟨dB hc 154,ex_NoOrder⟩ kC,kD ⟨dB hc 155,ex_NoOrder⟩ kC,kD ⟨dB hc 156,ex_NoOrder⟩ kC,cJ X G hc 46,dB hc 166,dB hc 167,dB hc 168,kW (dB hc 135) (kW (dB hc 136) (kW (dB hc 137) (kW (dB hc 138) (kW (dB hc 139) (kW (dB hc 140) (kW (dB hc 141) (kW (dB hc 142) (kW (dB hc 143) (kW (dB hc 144) (kW (dB hc 145) YC)))))))))),rfl,rfl,C34⟩
end L2.Mr.K06
open PySem PySem.W PyProof.Rows
set_option maxRecDepth 100000 in
set_option maxHeartbeats 0 in
theorem PySem.Challenge.cw_nearorders_k06_least_spans_and_best_rows_holds : PySem.Challenge.rw_nearorders_k06_least_spans_and_best_rows.Holds := by
  w_on; o_law
  refine holds_open (XP := XL L2.Mr.K06.vw []) (YP := L2.Mr.Ys L2.Mr.K06.ob L2.Mr.K06.obE) L2.Mr.K06.left L2.Mr.ys_of L2.Mr.ys_keeps (fun s e => xl_of s (Bool.and_eq_true_iff.mp e).1) XL.keeps (by rfl) (by rfl) (by rfl) (fun s e => recFacts_of (Bool.and_eq_true_iff.mp e).2) (by rfl) (by first | assumption | decide +kernel) (by decide +kernel) ⟨rfl,rfl,rfl,rfl,rfl,by decide +kernel⟩ ?hw ?hc
  case hw => w_witness2
  case hc => exact L2.Mr.walkK2 (l := PySem.Challenge.rw_nearorders_k06_least_spans_and_best_rows) (n := 63) (k := 16) (x := "_law_script") "law" rfl (by decide) rfl ⟨rfl,by decide,by decide⟩ ⟨_,rfl,rfl⟩ (fun K w mg fa h hob hnt X G hmg => L2.Mr.K06.mk_of hob hnt X G hmg)