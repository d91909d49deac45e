import PyProof.Rows.All
import Wide.All
import OpenK.AllK
import Wide.FinOn
import Lean
import PyProof.EqAt
import PyProof.EqKinds
import PyProof.TupleCall
import PyProof.NeKinds
import PyProof.StationsW
import PyProof.ExcClass3
import PyProof.ExcBaseAll.ValueError
import PyProof.ExcArgsOwn
import KE.KIsAll
import PyProof.ZipIter
import PyProof.RulesAs
import KE.KLam
import PyProof.NsDelKeeps
import PyProof.Rows.Range3
import PyProof.SumWalkG
import PyProof.EnumMake
import PyProof.EnumFor
import PyProof.WalkInts
import PyProof.Rows.SortWalk
import KE.KSortAsk
import PySem.SetOps
import KE.KSortTup
import PyProof.Rows.SetFrom
import PyProof.SetRoads
import PyProof.Rows.CallKwBuiltin
import PySem.Challenge.RW_nearorders_k91_texts_that_write_none
open Array renaming getElem?_eq_some_iff->dh,getElem?_eq_getElem->fi,getElem?_setIfInBounds_self_of_lt->iu,getD->jz,length_toList->kv,getElem?_toList->ni,getElem?_eq_none->rj,perm_iff_toList_perm->xa,getElem?_replicate->zm,mem_toList_iff->Bc,forIn_toList->Bs
open Bool renaming and_eq_true->cf,false_eq_true->cw,eq_iff_iff->dw,false_ne_true->ik,not_true->om,and_false->pg,true_and->uh,not_eq_true'->ve,or_eq_true->wg,not_false->yg,and_eq_false_iff->Bh
open Classical renaming em->qk
open False renaming elim->gq
open ForInStep renaming yield->qp
open Int renaming toNat_natCast->gb
open List renaming mem_cons_of_mem->aq,size_toArray->au,mem_cons_self->ax,mem_cons->ay,getElem?_eq_some_iff->ba,getElem?_eq_getElem->bc,length_map->bh,range->bo,length_append->br,mem_of_getElem?->bw,mem_range->bx,mem_map->cb,filterMap_cons->cj,mem_append_right->ck,length_cons->cp,all_eq_true->cu,map_cons->cy,getElem_mem->dj,getElem?_append_left->dk,getElem?_set_self->dm,getElem?_map->dv,getElem?_append_right->dy,mem_singleton->ey,getElem?_set_ne->fh,pairwise_cons->fq,mem_append->fw,flatMap_cons->fz,pairwise_iff_getElem->gn,mem_filterMap->gz,lookup_cons->ic,not_mem_nil->ie,length_take->iq,length_nil->je,map_append->jg,map_map->jl,length->jm,nodup_cons->js,mem_append_left->ju,length_range->jv,getElem_of_mem->jx,length_set->kg,getD->kh,length_filterMap_le->lb,mem_filter->lg,append_nil->lh,filterMap_eq_map'->mw,length_drop->nq,forIn_cons->oz,perm_ext_iff_of_nodup->ph,drop_zero->pq,getElem?_zip_eq_some->qe,drop_eq_getElem_cons->qf,pairwise_map->ql,any_eq_false->qo,map_drop->qt,getElem?_replicate->qw,getElem?_cons_succ->qz,countP_cons->rf,nodup_range->rg,drop_of_length_le->sh,mem_iff_getElem->tq,map_take->ui,getElem_range->uk,append_assoc->ux,ext_getElem?->uz,eraseIdx_eq_take_drop_succ->vm,any_eq_true->vn,mem_flatMap->vz,of_mem_zip->we,replicate->xf,nodup_iff_pairwise_ne->yf,length_eraseIdx_of_lt->yh,getElem?_take_of_lt->zt,filterMap_cons_some->Ae,length_eq_zero_iff->Ai,range_succ_eq_map->Al,take_of_length_le->An,length_singleton->Az,take_append_drop->Bb,getElem?_eq_none->Bd,getElem?_toArray->Be,mem_of_mem_drop->Bm,map_congr_left->Bu
open List.Pairwise renaming imp_of_mem->ou,nil->xh
open List.Perm renaming append_left->yi
open List.cons renaming injEq->uv
open Nat renaming le_refl->ak,lt_of_lt_of_le->aw,ne_of_lt->bf,le_trans->du,lt_irrefl->gh,le_of_lt->gy,lt_or_ge->iz,zero_le->jc,lt_succ_of_lt->jf,lt_succ_self->jo,ne_of_gt->jw,le_of_eq->mz,mul_le_mul->nh,le_add_right->rh,succ_ne_self->rn,succ_mul->Bg
open Ne renaming symm->de
open Option renaming isSome_iff_exists->xg
open Option.some renaming inj->cg,injEq->zq
open Prod renaming fst->ed,snd->pj
open PyProof.Rows renaming slot_tuple_getitem->fy,callWith_type1->jb,IntsAre->mn,AllBare->rp,get?_update_seq->ub,listUpdate_at->vv,assignInOrder_cons->wa,lt_int->wo,boot_range->Aq
open PyProof.Rows.IsTup renaming push->xc
open PySem renaming wpAny_bind->aa,Value->af,Shared->ag,Addr->ah,wpAny_pure->ai,starEach->ao,Program->bg,Expr->bj,sizeLine->bp,FuncData->bu,Around->cn,World->cq,Heap->cx,mainGlobals->df,bootBuiltins->dg,mem_of_lookup->ff,wpAny_newObj_type->fj,wpAny_field->fv,IsTupleKey->gg,wpAny_callSpecial?_slot->gm,wpAny_call_entry->gr,SetTable->gv,Scope->gw,wpAny_holding->ib,Stmt->ig,wpAny_setField_rec->jd,wpAny_seqItems->jh,wpAny_truthy_bool->ji,wpAny_setState_of->jk,sizeLine_eq->jq,NameKind->ka,wpAny_mono->ki,wpAny_pyIter_tuple->kj,wpAny_passesOwn->kr,Arguments->ku,wpAny_askSetting->ll,Comprehension->md,wpAny_execs_nil->mf,Builtin->mq,wpAny_Call_Name_kw->my,codeAny_mono->nu,IsPair->oj,wpAny_execs_cons->pb,pushCells_keeps->pz,codeAny_builtin->qd,wpAny_typeOf->qh,wpAny_rule->qu,wpAny_pyIter_list->rz,wpAny_standAt->si,wpAny_onRaise->sj,wpAny_forIn_list->td,IsPart->tu,codeAny_call_builtin->uq,wpAny_updateSeq_pair->ur,TriplesOk->uw,wpAny_setEntries_of->vh,wpAny_attempt->vp,Model->wk,boot_len->wz,PassesOwn->yj,Result->yk,noFill_tuple_add->yn,wpAny_isInstance->zl,IsRangeIter->zr,wpAny_of_eq->zu,IsZip->Ac,CmpOp->As,wpAny_call->Au,typeIs_str->Aw,call_meets->Ay,wpAny_setField->Ba,seq_tuple_add->Bo,wpAny_newList->Bt
open PySem.Around renaming under_plainId->nr,frames_deeper->Ak
open PySem.Builtin.List renaming listTooLong->ow,listExtendWith->uj,listSameRef->uy,listTouch->vq
open PySem.Builtin.Range renaming rangeSize->da,small->wj
open PySem.Builtin.Slice renaming slicePlaces->kd,sliceAdjust->nv,sliceApplied->uf
open PySem.Builtin.SmallTypes renaming nextOf->fe,ownedTupleIsFree->qc,stopIteration->qr
open PySem.Builtin.Str renaming occurrences->jr
open PySem.Builtin.Tuple renaming tupleExact->kn
open PySem.Calls renaming evalArgs_plain->tj,Name_function_global->wm,callWith_builtin->Ah,call_len_list->Bj
open PySem.Challenge renaming pw_nearorders_k91_texts_that_write_none->ae
open PySem.Data renaming fields->Bi
open PySem.EntryCells renaming newEntry->zk
open PySem.F renaming args_tuple_add_2->pv,entry_tuple_add->qg,plainAttrs_list->qj,slot_tuple_add->qv,excBase_ValueError->wc
open PySem.Heap renaming get?_push_of_some->aj,lt_size->av,get?_push_size->az,size_push->dz,SameBut->ij,get?_update_other->mr,get?_update_self->nj,get?_update_ne->pf,ExtBut->Bl
open PySem.Heap.SameBut renaming update->nc,refl->zo
open PySem.IsL renaming update->Ax
open PySem.NameKind renaming free->bz,cell->di
open PySem.Obj renaming mapSeq->oh,data_mapFields->um,isFreed_of_fields->Bk
open PySem.PassesOwn renaming leaving->Am
open PySem.SeqAt renaming EqAt->ue,RcAt->Bp
open PySem.SeqAt.EqAt renaming same->qi,int_str->sr,str_int->sv,int_int->sy,none_tuple->wu,bool_tuple->wy,none_bool->xk,none_list->xm,bool_none->xr,bool_bool->xv,bool_list->ya,int_tuple->yc,str_tuple->ye,none_int->yp,none_str->yr,bool_int->yu,bool_str->yw,int_none->yy,int_bool->zb,int_list->zd,str_none->zf,str_bool->zh,str_list->zj,str_str->Aa,of_refs->Ab
open PySem.SeqAt.RcAt renaming none_tuple->wt,bool_tuple->wx,none_none->xi,none_bool->xj,none_list->xl,bool_none->xq,bool_bool->xu,bool_list->xw,int_tuple->yb,str_tuple->yd,none_int->yo,none_str->yq,bool_int->yt,bool_str->yv,int_none->yx,int_bool->yz,int_list->zc,str_none->ze,str_bool->zg,str_list->zi,int_int->zv,int_str->zw,str_int->zx,str_str->zy
open PySem.SetTable renaming insertAt->ja,turns->sd,below->sf,sizeAbove->Ao
open PySem.Shared renaming TypeIs->tw
open PySem.Str renaming ofString->iw,length->og,empty->oi
open PySem.Txt renaming slice->kz,split->lx,find->vj,join->vk
open PySem.Value renaming ref->gu,none->jn,isInt_shape->ly,builtin->ua,bool->uc,type->Bn
open PySem.W renaming Frag->ar,kitOne->cz,subIn->jt,kla_obj->jy,keepIn->km,CodeHd->kq,envX->lr,fnOf->oq,kla_fn->pd,tabObj->sk,excIn->tm,methodObj->ud,nsIn->ug,codeIn->wb,kitCls->wd,cellsFrom_some->ym,hideAll_size->Af,hideAll_none->Ag,hideAll_get->Aj,of_hideAll->Ap,callWith_K->Av
open PySem.Walks renaming tuple->Bf,list->Br
open PySem.pickOrder renaming go->xb
open Sum renaming inl->vf,inr->vg
set_option Elab.async false
set_option linter.all false
set_option maxRecDepth 100000
set_option maxHeartbeats 4000000
namespace L2.Mr
open PySem PySem.Spec PySem.Calls PyProof.Rows PySem.W
def OM (o:Obj):Bool:=match o.cls,o.data with
 | .none,.fields _=>false
 |_,_=>true
def nX (h:cx):List ah->Frag
 | []=>[]
 |a::as=>match h.get? a with
  |some o=>match OM o with
   |true=>(a,o)::nX h as
   |false=>nX h as
  |none=>nX h as
def sF (h:cx):Frag:=nX h (bo h.objs.size)
theorem vB (h:cx):∀as,(nX h as).In h
 | [],_,_,e=>nomatch e
 |a::as,b,o,e=>by
  unfold nX at e
  split at e
  ·rename_i o' q
   split at e
   ·rw[ic]at e
    cases z:b==a with
    |true=>rw[z]at e;cases e;rw[eq_of_beq z];exact q
    |false=>rw[z]at e;exact vB h as b o e
   ·exact vB h as b o e
  ·exact vB h as b o e
theorem vC (h:cx):∀as,noTabs (nX h as)=true
 | []=>rfl
 |a::as=>by
  unfold nX
  split
  ·split
   ·rename_i q;show(_&&_)=true;rw[cf];refine⟨?_,vC h as⟩;exact q
   ·exact vC h as
  ·exact vC h as
def cW (K:Frag) (f:ah):Option bu:=match K.lookup f with
 |some o=>match o.data with
  | .func fd=>some { fd with kwdefaults:=.none,doc:=.none,pyModule:=.none,annotations:=none,closureTuple:=.none }
  |_=>none
 |none=>none
theorem ON {K:Frag}{f:ah}{n q:Str}{A:ku}{B:List ig}{S:gw}{dV cd:af}(h:cW K f=some (fnOf n q A B S dV .none .none .none none cd .none)):
  ∃(oc:af) (od:Option ah) (kV dc pm:af) (an:Option ah) (ct:af) (sl:Array (Option af)),K.lookup f=some ⟨oc,od,.func (fnOf n q A B S dV kV dc pm an cd ct),sl⟩:=by
 unfold cW at h
 split at h
 ·rename_i o e
  split at h
  ·rename_i fd q;obtain⟨oc,od,dt,sl⟩:=o;cases fd;simp only[zq,FuncData.mk.injEq]at h;obtain⟨rfl,rfl,rfl,rfl,rfl,rfl,rfl,rfl,_,_,_,_,rfl,_,rfl⟩:=h;simp only at q;subst q;exact⟨_,_,_,_,_,_,_,_,e⟩
  ·cases h
 ·cases h
theorem mP {F:List (Frag->Bool)}{K:Frag}(h:F.all (λf=>f K)=true) (i:Nat) {f:Frag->Bool}(e:F[i]?=some f):f K=true:=cu.mp h f (bw e)
theorem OO {l m:List (Option bu)}(h:l=m) (i:Nat) {a b:Option bu}(e:l[i]?=some a) (e':m[i]?=some b):a=b:=by subst h;rw[e]at e';exact cg e'
def vD (K:Frag) (q:ah):Bool:=match K.lookup q with
 |some ⟨_,_,.cls _,_⟩=>true
 |_=>false
theorem FG {K:Frag}{q:ah}(h:vD K q=true):∃lo ld lc ls,K.lookup q=some ⟨lo,ld,.cls lc,ls⟩:=by
 unfold vD at h
 split at h
 ·exact⟨_,_,_,_,by assumption⟩
 ·cases h
def zT (K:Frag) (n:Str) (v:Int):Bool:=match nsIn K df n with
 |some (some (.int i _))=>i==v
 |_=>false
theorem OP {K:Frag}{n:Str}{v:Int}(h:zT K n v=true):∃t,nsIn K df n=some (some (.int v t)):=by
 unfold zT at h
 split at h
 ·rename_i i t e;rw[eq_of_beq h]at e;exact⟨t,e⟩
 ·cases h
theorem zU (p:bg) (w:cq) (N:Nat) {α:Type}(f:ag->α):(openEnds treeTable p w N).map f=(((Fast.tw10274390034422433532 Fast.tw14364793385576792824 (opening p) w N (PySem.start (opening p)).1 (PySem.start (opening p)).2).bind (Fast.tw14289696077712309145 p)).bind λs₀=>match s₀.heap.isNs df&&s₀.gens.size==0 with
 |true=>(Fast.tw14082659384304107361 Fast.tw14364793385576792824 p w s₀.heap.objs.size (s₀.heap.nsMap df "__annotations__") N s₀ (topStub p)).bind λs₁=>match staticsOk (importedModules p.main.body) s₀.heap s₁.heap&&namesBound p s₁.heap&&gensDone s₁&&laidKept s₀.heap s₁.heap with
   |true=>some s₁
   |false=>none
 |false=>none).map f:=by
 rw[<-Fast.te10274390034422433532,<-Fast.te14364793385576792824,<-Fast.te14289696077712309145,<-Fast.te14082659384304107361];rfl
abbrev FH:List af:=[.type "ValueError",.type "Exception",.type "BaseException",.type "object"]
def OQ (s:ig) (cd:ah):Option bu:=match s with
 | .FunctionDef n a b _ _ _ sc _ _ _=>some (fnOf n n a b sc .none .none .none .none none (.ref cd) .none)
 |_=>none
def fE (p:bg) (i:Nat) (cd:ah):Option bu:=OQ (p.main.body.getD i (.Pass ⟨0,0,0,0⟩)) cd
def nR (K:Frag) (n:Str) (a:ah):Bool:=decide (nsIn K df n=some (some (.ref a)))
def nN (K:Frag) (n:Str):Bool:=decide (nsIn K df n=some none)
def sI (K:Frag) (a b:af) (v:Bool):Bool:=decide (subIn K a b=some v)
def kI (K:Frag) (a b:ah) (v:Bool):Bool:=decide (kitOne K (.ref a) (.ref b)=some v)
theorem dA {F:List (Frag->Bool)}{K:Frag}(h:F.all (λf=>f K)=true) (i:Nat) {g:Frag->Prop}[∀K,Decidable (g K)] (e:F[i]?=some (λK=>decide (g K))):g K:=of_decide_eq_true (mP h i e)
def zV (K:Frag) (n v:Str):Bool:=match nsIn K df n with
 |some (some (.str i _))=>decide (i=v)
 |_=>false
theorem OR {K:Frag}{n v:Str}(h:zV K n v=true):∃t,nsIn K df n=some (some (.str v t)):=by
 unfold zV at h
 split at h
 ·rename_i i t e;rw[of_decide_eq_true h]at e;exact⟨t,e⟩
 ·cases h
end L2.Mr
namespace L2.Mr.K91
open PySem PySem.Spec PySem.Calls PySem.W PyProof.Rows L2.Mr
def vw:bg:={ ae with main:={ ae.main with body:=List.filterMap (λi=>ae.main.body[i]?) [1,2,3,4,5,6,7,8,9,10,11,12,14,15,16,18,19,20,21,22,23,24,25,26,28,29,30,31,33,34,35,36,37,38,39,40,41,42,43,44,45] } }
def Xw:ag->Bool:=λs=>xlAt vw [] s&&recOk (RowW.records (OpenRow.toRowW PySem.Challenge.rw_nearorders_k91_texts_that_write_none.row)) s
def obF:List (Frag->Bool):=[(nR · "is_whole" 166),(nR · "is_between" 173),(nR · "is_rising" 178),(nR · "is_thing" 185),(nR · "are_things" 190),(nR · "is_pair" 197),(nR · "are_pairs" 202),(nR · "has_alike" 207),(nR · "is_complete" 212),(nR · "is_order" 219),(nR · "need_order" 226),(nR · "order_text" 231),(nR · "written_pairs" 236),(nR · "read_order" 243),(nR · "_law_cell_at" 250),(nR · "_law_state" 257),(nR · "_law_take" 264),(nR · "_law_mixed_row" 271),(nR · "_law_closed" 276),(nR · "_law_order" 281),(nR · "_law_whole" 288),(nR · "_law_is_order" 293),(nR · "_law_same" 298),(nR · "_law_refused" 303),(nR · "_law_order_in" 310),(nR · "_law_bent" 317),(nR · "law" 322),(nR · "NoOrder" 37),(nR · "NoNumber" 49),(nR · "NoPairs" 61),(nR · "Round" 73),(nR · "NoThing" 85),(nR · "NoRow" 97),(nR · "TooMany" 109),(nR · "TooFew" 121),(nR · "NoText" 133),(nR · "NoLine" 145),(nR · "NoDeed" 157),(nR · "NearError" 24),(nN · "ValueError"),(nN · "all"),(nN · "any"),(nN · "bool"),(nN · "int"),(nN · "isinstance"),(nN · "len"),(nN · "list"),(nN · "max"),(nN · "min"),(nN · "range"),(nN · "set"),(nN · "sorted"),(nN · "str"),(nN · "tuple"),(nN · "zip"),(codeIn · (.ref 165) "is_whole"),(codeIn · (.ref 172) "is_between"),(codeIn · (.ref 177) "is_rising"),(codeIn · (.ref 184) "is_thing"),(codeIn · (.ref 189) "are_things"),(codeIn · (.ref 196) "is_pair"),(codeIn · (.ref 201) "are_pairs"),(codeIn · (.ref 206) "has_alike"),(codeIn · (.ref 211) "is_complete"),(codeIn · (.ref 218) "is_order"),(codeIn · (.ref 225) "need_order"),(codeIn · (.ref 230) "order_text"),(codeIn · (.ref 235) "written_pairs"),(codeIn · (.ref 242) "read_order"),(codeIn · (.ref 249) "_law_cell_at"),(codeIn · (.ref 256) "_law_state"),(codeIn · (.ref 263) "_law_take"),(codeIn · (.ref 270) "_law_mixed_row"),(codeIn · (.ref 275) "_law_closed"),(codeIn · (.ref 280) "_law_order"),(codeIn · (.ref 287) "_law_whole"),(codeIn · (.ref 292) "_law_is_order"),(codeIn · (.ref 297) "_law_same"),(codeIn · (.ref 302) "_law_refused"),(codeIn · (.ref 309) "_law_order_in"),(codeIn · (.ref 316) "_law_bent"),(codeIn · (.ref 321) "law"),(keepIn · (.ref 166)),(keepIn · (.ref 173)),(keepIn · (.ref 178)),(keepIn · (.ref 185)),(keepIn · (.ref 190)),(keepIn · (.ref 197)),(keepIn · (.ref 202)),(keepIn · (.ref 207)),(keepIn · (.ref 212)),(keepIn · (.ref 219)),(keepIn · (.ref 226)),(keepIn · (.ref 231)),(keepIn · (.ref 236)),(keepIn · (.ref 243)),(keepIn · (.ref 250)),(keepIn · (.ref 257)),(keepIn · (.ref 264)),(keepIn · (.ref 271)),(keepIn · (.ref 276)),(keepIn · (.ref 281)),(keepIn · (.ref 288)),(keepIn · (.ref 293)),(keepIn · (.ref 298)),(keepIn · (.ref 303)),(keepIn · (.ref 310)),(keepIn · (.ref 317)),(keepIn · (.ref 322)),(zT · "MOST_THINGS" 6),(zV · "FIGURES" "0123456789"),λK=>decide (tabIn K "law" = some (321,319)),(sI · (.ref 37) (.ref 24) true),(sI · (.ref 49) (.ref 24) true),(sI · (.ref 61) (.ref 24) true),(sI · (.ref 73) (.ref 24) true),(sI · (.ref 85) (.ref 24) true),(sI · (.ref 97) (.ref 24) true),(sI · (.ref 109) (.ref 24) true),(sI · (.ref 121) (.ref 24) true),(sI · (.ref 133) (.ref 24) true),(sI · (.ref 145) (.ref 24) true),(sI · (.ref 157) (.ref 24) true),(kI · 37 37 true),(kI · 37 49 false),(kI · 37 61 false),(kI · 37 73 false),(kI · 37 85 false),(kI · 37 97 false),(kI · 37 109 false),(kI · 37 121 false),(kI · 37 133 false),(kI · 37 145 false),(kI · 37 157 false),(kI · 133 37 false),(kI · 133 49 false),(kI · 133 61 false),(kI · 133 73 false),(kI · 133 85 false),(kI · 133 97 false),(kI · 133 109 false),(kI · 133 121 false),(kI · 133 133 true),(kI · 133 145 false),(kI · 133 157 false),λK=>decide (findIn K (.ref 37) "__getattribute__" = some (some (.builtin "BaseException.__getattribute__"))),λK=>decide (findIn K (.ref 37) "__getattr__" = some none),λK=>decide (findIn K (.ref 37) "__class__" = some (some (.builtin "object.__class__"))),λK=>decide (mroIn K 37 (.type "object")=some true),(sI · (.ref 37) (.type "BaseException") true),λK=>decide (kitCls K (.ref 37) (.ref 37)=some true),(vD · 37),λK=>decide (findIn K (.ref 133) "__getattribute__" = some (some (.builtin "BaseException.__getattribute__"))),λK=>decide (findIn K (.ref 133) "__getattr__" = some none),λK=>decide (findIn K (.ref 133) "__class__" = some (some (.builtin "object.__class__"))),λK=>decide (mroIn K 133 (.type "object")=some true),(sI · (.ref 133) (.type "BaseException") true),λK=>decide (kitCls K (.ref 133) (.ref 133)=some true),(vD · 133),(excIn · 37 FH "ValueError.__new__"),(excIn · 133 FH "ValueError.__new__"),λK=>decide (kitOne K (.ref 37) (.type "ValueError")=some true),λK=>decide (kitOne K (.ref 133) (.type "ValueError")=some true),(sI · (.ref 24) (.type "BaseException") true),(sI · (.type "type") (.type "tuple") false),λK=>decide (kitCls K (.ref 24) (.ref 24)=some true)]
def zW (K:Frag):List (Option bu):=[cW K 166,cW K 173,cW K 178,cW K 185,cW K 190,cW K 197,cW K 202,cW K 207,cW K 212,cW K 219,cW K 226,cW K 231,cW K 236,cW K 243,cW K 250,cW K 257,cW K 264,cW K 271,cW K 276,cW K 281,cW K 288,cW K 293,cW K 298,cW K 303,cW K 310,cW K 317,cW K 322]
def zX:List (Option bu):=[fE ae 14 165,fE ae 15 172,fE ae 16 177,fE ae 19 184,fE ae 20 189,fE ae 21 196,fE ae 22 201,fE ae 23 206,fE ae 24 211,fE ae 25 218,fE ae 26 225,fE ae 29 230,fE ae 30 235,fE ae 31 242,fE ae 33 249,fE ae 34 256,fE ae 35 263,fE ae 36 270,fE ae 37 275,fE ae 38 280,fE ae 39 287,fE ae 40 292,fE ae 41 297,fE ae 42 302,fE ae 43 309,fE ae 44 316,fE ae 45 321]
def ob (K:Frag):Bool×List (Option bu):=(obF.all (λf=>f K),zW K)
abbrev obE:Bool×List (Option bu):=(true,zX)
theorem FI {α β γ:Type}{o:Option α}{f:α->β}{g:α->γ}{a:β}{b:γ}(h1:o.map f=some a) (h2:o.map g=some b):o.map (λs=>(f s,g s))=some (a,b):=by
 cases o with
 |none=>cases h1
 |some s=>cases h1;cases h2;rfl
theorem OS (w:cq):(openEnds treeTable ae w 8000).map (λs=>openSeen vw [] (importedModules (ae).main.body) Xw true s)=some (openGood vw []):=by rw[zU,Fast.te4187177175401517315];kernel_rfl
theorem OT (w:cq):(openEnds treeTable ae w 8000).map (λs=>obF.all (λf=>f (sF s.heap)))=some true:=by rw[zU];kernel_rfl
theorem OU (w:cq):(openEnds treeTable ae w 8000).map (λs=>zW (sF s.heap))=some zX:=by rw[zU];kernel_rfl
theorem left:LeftO ae vw [] Xw (λs=>ob (sF s.heap)) (λ_=>obE) 8000:=λw=>FI (OS w) (FI (OT w) (OU w))
end L2.Mr.K91
namespace L2
open PySem PySem.Spec PyProof.Rows
abbrev hX:=Sum Int Str
def FJ:hX->af->Bool
 | .inl k,v=>Value.isInt k v
 | .inr x,v=>Value.isStrOf x v
def OV (w:cq):hX->Int
 | .inl k=>hashInt k
 | .inr x=>hashStr w x
theorem mQ:∀{k:hX}{v:af},FJ k v=true->(∃i t,k=vf i/\v=Value.int i t)∨(∃x t,k=vg x/\v=Value.str x t)
 | .inl i,v,h=>by obtain⟨t,e⟩:=ly (k:=i) (v:=v) h;exact .inl ⟨i,t,rfl,e⟩
 | .inr x,v,h=>by obtain⟨t,e⟩:=Value.isStrOf_shape (x:=x) (v:=v) h;exact .inr ⟨x,t,rfl,e⟩
theorem OW (a b:Int):decide ((vf a:hX)=vf b)=(a==b):=by
 by_cases e:a=b
 ·subst e;simp
 ·have h:¬ (vf a:hX)=vf b:=λq=>e (Sum.inl.inj q);rw[decide_eq_false h];exact(beq_eq_false_iff_ne.mpr e).symm
theorem OX (a b:Str):decide ((vg a:hX)=vg b)=decide (a=b):=by
 by_cases e:a=b
 ·subst e;simp
 ·have h:¬ (vg a:hX)=vg b:=λq=>e (Sum.inr.inj q);rw[decide_eq_false h,decide_eq_false e]
theorem OY (a:Int) (b:Str):decide ((vf a:hX)=vg b)=false:=decide_eq_false (λq=>nomatch q)
theorem OZ (a:Str) (b:Int):decide ((vg a:hX)=vf b)=false:=decide_eq_false (λq=>nomatch q)
def zY (prog:bg) (w:cq):PySem.KeyKind prog w hX where
 is:=FJ
 hash:=OV w
 inj:=λv a b ha hb=>by
  rcases mQ ha with⟨i,t,rfl,rfl⟩|⟨x,t,rfl,rfl⟩
  ·rcases mQ hb with⟨j,u,rfl,e⟩|⟨y,u,rfl,e⟩
   ·injection e with e1 _;rw[e1]
   ·exact nomatch e
  ·rcases mQ hb with⟨j,u,rfl,e⟩|⟨y,u,rfl,e⟩
   ·exact nomatch e
   ·injection e with e1 _;rw[e1]
 byValue:=λk v h=>by rcases mQ h with⟨i,t,rfl,rfl⟩|⟨x,t,rfl,rfl⟩ <;> rfl
 pyHash:=λhv h=>by
  rcases mQ hv with⟨i,t,rfl,rfl⟩|⟨x,t,rfl,rfl⟩
  ·exact wpAny_pyHash_int h
  ·exact wpAny_pyHash_str h
 eqBool:=λhu hv h=>by
  rcases mQ hu with⟨i,t,rfl,rfl⟩|⟨x,t,rfl,rfl⟩
  ·rcases mQ hv with⟨j,u,rfl,rfl⟩|⟨y,u,rfl,rfl⟩
   ·rw[OW]at h;exact wpAny_eqBool_int h
   ·rw[OY]at h;exact sr i t y u _ _ _ _ h
  ·rcases mQ hv with⟨j,u,rfl,rfl⟩|⟨y,u,rfl,rfl⟩
   ·rw[OZ]at h;exact sv x t j u _ _ _ _ h
   ·rw[OX]at h;exact wpAny_eqBool_str h
 «strs»:=λk x t v h=>by
  rcases mQ h with⟨i,u,rfl,e⟩|⟨y,u,rfl,e⟩
  ·exact nomatch e
  ·injection e with e1 _;subst e1
   cases v <;> rfl
inductive V where
 |non|bl (b:Bool)|int (i:Int)|str (x:Str)|byt (b:Array UInt8)|flt (b:UInt64)|ref (a:ah)|ty (n:String)
 deriving DecidableEq
def RelV:V->af->Prop
 | .non,u=>u=jn
 | .bl b,u=>u=uc b
 | .int i,u=>∃t,u=Value.int i t
 | .str x,u=>∃t,u=Value.str x t
 | .byt b,u=>∃t,u=Value.bytes b t
 | .flt b,u=>∃t,u=Value.float b t
 | .ref a,u=>u=gu a
 | .ty n,u=>u=Bn n
abbrev Vals:List V->List af->Prop:=Paired RelV
theorem Vals.length {xs:List V}{us:List af}(r:Vals xs us):xs.length=us.length:=Paired.length r
theorem Vals.get:∀{xs:List V}{us:List af}{i:Nat}{x:V},Vals xs us->xs[i]?=some x->∃u,us[i]?=some u/\RelV x u
 |_,_,_,_,.nil,e=>by simp at e
 |_,_,0,_,.cons r _,e=>by simp at e;subst e;exact⟨_,rfl,r⟩
 |_,_,i+1,x,.cons _ t,e=>by obtain⟨u,h1,h2⟩:=Vals.get (i:=i) (x:=x) t (by simpa using e);exact⟨u,by simpa using h1,h2⟩
theorem Vals.set {x:V}{u:af}(r:RelV x u):∀{xs:List V}{us:List af}(i:Nat),Vals xs us->Vals (xs.set i x) (us.set i u)
 |_,_,_,.nil=>.nil
 |_,_,0,.cons _ t=>.cons r t
 |_,_,i+1,.cons q t=>.cons q (Vals.set r i t)
theorem Vals.append:∀{xs ys:List V}{us ws:List af},Vals xs us->Vals ys ws->Vals (xs++ys) (us++ws)
 |_,_,_,_,.nil,s=>s
 |_,_,_,_,.cons r t,s=>.cons r (Vals.append t s)
theorem Vals.take:∀{xs:List V}{us:List af}(n:Nat),Vals xs us->Vals (xs.take n) (us.take n)
 |_,_,0,_=>.nil
 |_,_,_+1,.nil=>.nil
 |_,_,n+1,.cons r t=>.cons r (Vals.take n t)
theorem Vals.drop:∀{xs:List V}{us:List af}(n:Nat),Vals xs us->Vals (xs.drop n) (us.drop n)
 |_,_,0,r=>r
 |_,_,_+1,.nil=>.nil
 |_,_,n+1,.cons _ t=>Vals.drop n t
def FK:Option V->Option af->Prop
 |some v,some u=>RelV v u
 |none,none=>True
 |_,_=>False
def KV {κ:Type}:List (κ×V)->List (κ×af)->Prop:=Paired λ(p:κ×V) (q:κ×af)=>p.1=q.1/\RelV p.2 q.2
def kV:hX->V
 | .inl i=>.int i
 | .inr x=>.str x
inductive HO where
 |lst (xs:List V)
 |tup (xs:List V)
 |dK (kvs:List (hX×V))|dT (kvs:List (List hX×V))
 |set (S:Int->Bool) (n:Nat)
 |ins (C dx:ah) (fs:List (Str×V))
 |own (x:ah)
 |xd (fs:List (Str×V))
 |met (f x:ah)
 |rng (lo hi:Int)
 |frz (o:Obj) (u:HO)
 |tbl (ps:Array af)
 |ext (φ:cx->Prop)
abbrev Hp:=ah->Option HO
def aQ (H:Hp) (a:ah) (o:HO):Hp:=λb=>if b=a then some o else H b
theorem cK {H:Hp}{a:ah}{o:HO}:aQ H a o a=some o:=by unfold aQ;rw[if_pos rfl]
theorem bK {H:Hp}{a b:ah}{o:HO}(h:b≠a):aQ H a o b=H b:=by unfold aQ;rw[if_neg h]
theorem nY {H:Hp}{a b:ah}{o u:HO}(h:H a=some o) (h':H b=some u) (d:o≠u):a≠b:=by intro e;subst e;rw[h]at h';exact d (cg h')
theorem dX {H:Hp}{a b:ah}{o:HO}(h:H a=some o) (h':H b=none):a≠b:=by intro e;subst e;rw[h]at h';cases h'
def IsTupX (h:cx) (a:ah) (items:Array af):Prop:=∃o,h.get? a=some o/\o.cls=.type "tuple"/\o.dict=none/\∃n,o.data=.seq items n
theorem IsTupX.tup {h:cx}{a:ah}{items:Array af}(x:IsTupX h a items):IsTup h a items:=let ⟨o,e,c,_,d⟩:=x;⟨o,e,c,d⟩
theorem IsTupX.lt {h:cx}{a:ah}{items:Array af}(x:IsTupX h a items):a<h.objs.size:=let ⟨_,e,_⟩:=x;av e
theorem IsTupX.new (h:cx) (items:Array af):IsTupX (h.push { cls:=.type "tuple",data:=.seq items }) h.objs.size items:=⟨_,az _ rfl,rfl,rfl,_,rfl⟩
section
variable(P:bg) (w:cq)
def ObjOk (H:Hp) (h:cx) (a:ah):HO->Prop
 | .lst xs=>xs.length<=bp/\∃(its:List af) (n:Nat),Vals xs its/\h.get? a=some { cls:=.type "list",data:=.seq its.toArray n }
 | .tup xs=>xs.length<=bp/\∃its:List af,Vals xs its/\IsTupX h a its.toArray
 | .dK kvs=>kvs.length<=bp/\(a==sysModules)=false/\∃vs,KV kvs vs/\h.DictOf (zY P w) a vs
 | .dT kvs=>kvs.length<=bp/\(a==sysModules)=false/\∃xs:List (List hX×ah×af),
   Paired (λ(p:List hX×V) (q:List hX×ah×af)=>p.1=q.1/\H q.2.1=some (.tup (p.1.map kV))/\RelV p.2 q.2.2) kvs xs /\
   ∃o es ep,h.get? a=some o/\o.ExactDict/\o.data=.dict es ep/\es.toList=xs.map (entryOfKey (tupleKind (zY P w)))/\(xs.map (·.1)).Nodup
 | .set S n=>h.SetOf (intKind P w) a S n
 | .ins C dx fs=>H dx=some (.own a)/\fs.length<=1000/\dx≠a/\h.get? a=some (PySem.W.instObj C dx) /\
   ∃mA,h.Ns1 dx mA/\(∀f,FK (fs.lookup f) (mA f))/\PySem.Within mA (fs.map (·.1))
 | .own _=>∃o,h.get? a=some o
 | .xd fs=>∃mA,h.Ns1 a mA/\∀f,FK (fs.lookup f) (mA f)
 | .rng lo hi=>∃t u v,h.get? a=some { cls:=.type "range",data:=.fields #[.int lo t,.int hi u,.int 1 v] }
 | .frz o u=>h.get? a=some o/\ObjOk H h a u
 | .tbl ps=>h.get? a=some { cls:=.none,data:=.fields ps }
 | .met f x=>h.get? a=some (ud (.ref f) (.ref x))
 | .ext φ=>φ h/\(∃o,h.get? a=some o)/\∀h1 h2:cx,φ h1->(∀o,h1.get? a=some o->h2.get? a=some o)->φ h2
def HOk (H:Hp) (h:cx):Prop:=∀a o,H a=some o->ObjOk P w H h a o
end
section
variable{P:bg}{w:cq}{H H':Hp}{h h':cx}{a:ah}{o:HO}
theorem ObjOk.lt (x:ObjOk P w H h a o):a<h.objs.size:=by
 cases o with
 |lst xs=>obtain⟨_,_,_,_,e⟩:=x;exact av e
 |tup xs=>obtain⟨_,_,_,p⟩:=x;exact p.lt
 |dK kvs=>obtain⟨_,_,_,_,o,_,_,e,_⟩:=x;exact av e
 |dT kvs=>obtain⟨_,_,_,_,o,_,_,e,_⟩:=x;exact av e
 |set S n=>obtain⟨o,_,_,_,e,_⟩:=x;exact av e
 |ins C dx fs=>obtain⟨_,_,_,e,_⟩:=x;exact av e
 |own y=>obtain⟨_,e⟩:=x;exact av e
 |xd fs=>obtain⟨_,⟨_,_,_,e,_⟩,_⟩:=x;exact av e
 |rng lo hi=>obtain⟨_,_,_,e⟩:=x;exact av e
 |frz ob u=>obtain⟨e,_⟩:=x;exact av e
 |tbl ps=>exact av (show h.get? a=some _ from x)
 |met f y=>exact av (show h.get? a=some _ from x)
 |ext φ=>obtain⟨_,⟨_,e⟩,_⟩:=x;exact av e
theorem Paired.mapP {α β:Type}{F G:α->β->Prop}:∀{l₁:List α}{l₂:List β},Paired F l₁ l₂->(∀a b,F a b->G a b)->Paired G l₁ l₂
 |_,_,.nil,_=>.nil
 |_,_,.cons r t,f=>.cons (f _ _ r) (Paired.mapP t f)
theorem ObjOk.stay (x:ObjOk P w H h a o) (k:∀b u,(b=a∨H b=some (.own a))->h.get? b=some u->h'.get? b=some u)
  (ho:∀b,H b=some (.own a)->H' b=some (.own a)) (ht:∀b xs,H b=some (.tup xs)->H' b=some (.tup xs)):ObjOk P w H' h' a o:=by
 induction o with
 |lst xs=>obtain⟨z,its,n,r,e⟩:=x;exact⟨z,its,n,r,k _ _ (.inl rfl) e⟩
 |tup xs=>obtain⟨z,its,r,ob,e,c⟩:=x;exact⟨z,its,r,ob,k _ _ (.inl rfl) e,c⟩
 |dK kvs=>obtain⟨z,y,vs,r,ob,es,ep,e,c⟩:=x;exact⟨z,y,vs,r,ob,es,ep,k _ _ (.inl rfl) e,c⟩
 |dT kvs=>obtain⟨z,y,xs,r,ob,es,ep,e,c⟩:=x;exact⟨z,y,xs,Paired.mapP r λp q z=>⟨z.1,ht _ _ z.2.1,z.2.2⟩,ob,es,ep,k _ _ (.inl rfl) e,c⟩
 |set S n=>obtain⟨ob,es,ep,t,e,c⟩:=x;exact⟨ob,es,ep,t,k _ _ (.inl rfl) e,c⟩
 |ins C dx fs=>obtain⟨d,z,ne,e,mA,⟨od,es,ep,e2,c⟩,r⟩:=x;exact⟨ho _ d,z,ne,k _ _ (.inl rfl) e,mA,⟨od,es,ep,k _ _ (.inr d) e2,c⟩,r⟩
 |own y=>obtain⟨ob,e⟩:=x;exact⟨ob,k _ _ (.inl rfl) e⟩
 |xd fs=>obtain⟨mA,⟨od,es,ep,e,c⟩,r⟩:=x;exact⟨mA,⟨od,es,ep,k _ _ (.inl rfl) e,c⟩,r⟩
 |rng lo hi=>obtain⟨t,u,v,e⟩:=x;exact⟨t,u,v,k _ _ (.inl rfl) e⟩
 |frz ob u ih=>obtain⟨e,q⟩:=x;exact⟨k _ _ (.inl rfl) e,ih q⟩
 |tbl ps=>have e:h.get? a=some { cls:=.none,data:=.fields ps }:=x;show h'.get? a=some { cls:=.none,data:=.fields ps };exact k a _ (.inl rfl) e
 |met f y=>have e:h.get? a=some (ud (.ref f) (.ref y)):=x;show h'.get? a=some (ud (.ref f) (.ref y));exact k a _ (.inl rfl) e
 |ext φ=>obtain⟨p,⟨o,e⟩,st⟩:=x;exact⟨st _ _ p λo q=>k _ _ (.inl rfl) q,⟨o,k _ _ (.inl rfl) e⟩,st⟩
theorem HOk.lt (x:HOk P w H h) (e:H a=some o):a<h.objs.size:=(x a o e).lt
theorem HOk.fresh (x:HOk P w H h) (e:h.objs.size<=a):H a=none:=by
 cases q:H a with
 |none=>rfl
 |some u=>exact absurd (aw (x.lt q) e) (gh _)
theorem HOk.kept (x:HOk P w H h) (k:∀b u,h.get? b=some u->h'.get? b=some u):HOk P w H h':=λa o e=>(x a o e).stay (λb u _ q=>k b u q) (λ_ q=>q) λ_ _ q=>q
theorem HOk.laid (x:HOk P w H h) (k:∀b u,h.get? b=some u->h'.get? b=some u) (hp:h.objs.size<=a) (new:ObjOk P w (aQ H a o) h' a o):HOk P w (aQ H a o) h':=λb u e=>by
 have hn:=x.fresh hp
 by_cases hb:b=a
 ·subst hb;rw[cK]at e;cases e;exact new
 ·rw[bK hb]at e;exact(x b u e).stay (λc v _ q=>k c v q) (λc q=>by rw[bK (dX q hn)];exact q) λc xs q=>by rw[bK (dX q hn)];exact q
end
def Rd (H:Hp) (a:ah) (u:HO):Prop:=H a=some u∨∃o,H a=some (.frz o u)
theorem Rd.ok {P:bg}{w:cq}{H:Hp}{h:cx}{a:ah}{u:HO}(r:Rd H a u) (x:HOk P w H h):ObjOk P w H h a u:=by
 rcases r with r|⟨o,r⟩
 ·exact x a u r
 ·obtain⟨_,q⟩:=x a _ r;exact q
def vE:Option HO->Prop
 |some (.lst _)=>True
 |some (.dK _)=>True
 |some (.dT _)=>True
 |some (.set _ _)=>True
 |some (.ins _ _ _)=>True
 |some (.ext _)=>True
 |_=>False
section
variable{P:bg}{w:cq}{H:Hp}{h h':cx}{x e:ah}{o':HO}
theorem HOk.write (ok:HOk P w H h) (mu:vE (H x)) (he:e=x∨H e=some (.own x)) (k:∀b u,b≠e->h.get? b=some u->h'.get? b=some u) (heo:∃u,h'.get? e=some u)
  (new:ObjOk P w (aQ H x o') h' x o'):HOk P w (aQ H x o') h':=λb u q=>by
 have nown:∀c y,H c=some (.own y)->c≠x:=λc y r z=>by subst z;rw[r]at mu;exact mu
 have ntup:∀c xs,H c=some (.tup xs)->c≠x:=λc xs r z=>by subst z;rw[r]at mu;exact mu
 by_cases hb:b=x
 ·subst hb;rw[cK]at q;cases q;exact new
 ·rw[bK hb]at q
  by_cases hbe:b=e
  ·have q':H b=some (.own x):=by
    rcases he with z|z
    ·exact absurd (hbe.trans z) hb
    ·rw[hbe];exact z
   rw[q]at q';cases q';obtain⟨v,hv⟩:=heo;exact⟨v,by rw[hbe];exact hv⟩
  ·refine(ok b u q).stay (λc v hc r=>k c v ?_ r) (λc r=>by rw[bK (nown c b r)];exact r) λc xs r=>by rw[bK (ntup c xs r)];exact r
   rcases hc with rfl|hc
   ·exact hbe
   ·rintro rfl
    rcases he with z|z
    ·exact nown c b hc z
    ·rw[hc]at z;cases z;exact hb rfl
end
structure Un (fs ex:List ah) (H H':Hp) (h h':cx):Prop where
 keep:∀b o,h.get? b=some o->H b=none->b∉fs->b∉ex->h'.get? b=some o
 slot:∀b o,h.get? b=some o->H b=none->b∈fs->b∉ex->∃sl,h'.get? b=some { o with slots:=sl }
 free:∀b o,h.get? b=some o->H b=none->b∉ex->H' b=none
 there:∀b o,h.get? b=some o->b∉ex->∃o',h'.get? b=some o'
 tups:∀b xs,H b=some (.tup xs)->H' b=some (.tup xs)
 frzs:∀b o u,H b=some (.frz o u)->H' b=some (.frz o u)
 tbls:∀b ps,H b=some (.tbl ps)->∃more,H' b=some (.tbl (ps++more))
section
variable{fs fs' ex ex':List ah}{H H1 H2:Hp}{h h1 h2 h':cx}{a x e:ah}{o:HO}
theorem Un.any (u:Un fs ex H H1 h h1) {b:ah}{ob:Obj}(q:h.get? b=some ob) (n:H b=none) (hx:b∉ex):∃sl,h1.get? b=some { ob with slots:=sl }:=by
 by_cases hb:b∈fs
 ·exact u.slot b ob q n hb hx
 ·exact⟨ob.slots,u.keep b ob q n hb hx⟩
theorem Un.kept (k:∀b u,h.get? b=some u->h'.get? b=some u):Un fs ex H H h h':=⟨λb ob q _ _ _=>k b ob q,λb ob q _ _ _=>⟨ob.slots,k b ob q⟩,λ_ _ _ n _=>n,λb ob q _=>⟨ob,k b ob q⟩,λ_ _ q=>q,λ_ _ _ q=>q,λ_ ps q=>⟨#[],by rw[q];simp⟩⟩
theorem Un.refl:Un fs ex H H h h:=Un.kept λ_ _ q=>q
theorem Un.laid (k:∀b u,h.get? b=some u->h'.get? b=some u) (hp:h.objs.size<=a) (hn:H a=none):Un fs ex H (aQ H a o) h h' where
 keep:=λb u q _ _ _=>k b u q
 slot:=λb u q _ _ _=>⟨u.slots,k b u q⟩
 free:=λb u q n _=>by rw[bK (bf (aw (av q) hp))];exact n
 there:=λb u q _=>⟨u,k b u q⟩
 tups:=λb xs q=>by rw[bK (dX q hn)];exact q
 frzs:=λb u xs q=>by rw[bK (dX q hn)];exact q
 tbls:=λb ps q=>⟨#[],by rw[bK (dX q hn),q];simp⟩
theorem Un.write (mu:vE (H x)) (he:e=x∨H e=some (.own x)) (k:∀b u,b≠e->h.get? b=some u->h'.get? b=some u) (heo:∃u,h'.get? e=some u):Un fs ex H (aQ H x o) h h':=by
 have hx:∀b,H b=none->b≠x:=λb n z=>by subst z;rw[n]at mu;exact mu
 have hb:∀b,H b=none->b≠e:=λb n z=>by
  subst z
  rcases he with r|r
  ·exact hx b n r
  ·rw[n]at r;cases r
 have hm:∀b u,H b=some u->¬ vE (some u)->b≠x:=λb u q nm z=>by subst z;rw[q]at mu;exact nm mu
 refine⟨λb u q n _ _=>k b u (hb b n) q,λb u q n _ _=>⟨u.slots,k b u (hb b n) q⟩,λb u q n _=>by rw[bK (hx b n)];exact n,λb u q _=>?_,
  λb xs q=>by rw[bK (hm b _ q λz=>z)];exact q,λb u xs q=>by rw[bK (hm b _ q λz=>z)];exact q,λb ps q=>⟨#[],by rw[bK (hm b _ q λz=>z),q];simp⟩⟩
 by_cases hbe:b=e
 ·subst hbe;exact heo
 ·exact⟨u,k b u hbe q⟩
end
def vF (h:cx) (H:Hp):List ah:=(bo h.objs.size).filter λa=>(H a).isSome
def kJ (h:cx) (H:Hp):cx:=PySem.W.hideAll h (vF h H)
theorem O2 (h:cx) (H:Hp):(kJ h H).objs.size=h.objs.size:=Af _ _
theorem O3 {h:cx}{H:Hp}{b:ah}{o:Obj}(e:h.get? b=some o) (n:H b=none):(kJ h H).get? b=some o:=Aj _ e λhm=>by have q:(H b).isSome=true:=(lg.mp hm).2;rw[n]at q;simp at q
theorem O4 {h:cx}{H:Hp}{b:ah}{o:Obj}(e:(kJ h H).get? b=some o):h.get? b=some o/\H b=none:=by
 have e':h.get? b=some o:=Ap (vF h H) e;refine⟨e', ?_⟩
 cases q:H b with
 |none=>rfl
 |some x=>have hm:b∈vF h H:=lg.mpr ⟨bx.mpr (av e'),by simp[q]⟩;have z:(kJ h H).get? b=none:=Ag (vF h H) hm;rw[z]at e;cases e
structure Mod (K:ar) (mg:Str->Option af) (base:cx):Prop where
 kin:K.In base
 glob:base.Ns df mg
 blt:∃mb,base.Ns builtinsNs mb/\∀x:Str,x ≠ "__name__"->mb x=dg x
 nolimit:base.NoLimit
structure Cx where
 prog:bg
 w:cq
 K:ar
 mg:Str->Option af
 base:cx
 A:cn
 N:List Str
 s₀:ag
 H₀:Hp
 env:Env
 outer:List Env
 stack:List Env
 ex:List ah
 fn:Str->Bool
 calm:Bool
 pn:List (ah×Obj)
 xe:af->ag->Prop
def dD (l:List Env):List ah:=l.filterMap (·.frame)
abbrev Cx.fs (X:Cx):List ah:=dD X.outer
def qP (sc:gw) (x:Str):Prop:=sc.names.lookup x=some .local∨sc.names.lookup x=some .cell∨sc.names.lookup x=some .free
def mR (sc:gw) (x:Str):Prop:=sc.names.lookup x=some .local∨sc.names.lookup x=some .cell
def FL (env:Env) (h:cx) (m:Str->Option af) (x:Str) (u:af):Prop:=(env.kindOf x=some .local/\m x=some u)∨((env.kindOf x=some .cell∨env.kindOf x=some .free)/\∃c,env.cells.lookup x=some c/\h.IsCell c (some u))
structure Cx.Ok (X:Cx):Prop where
 mod:Mod X.K X.mg X.base
 kind:X.env.scope.kind=.function
 glob:X.env.globals=df
 blt:X.env.builtins=builtinsNs
 above:X.s₀.heap.objs.size<=X.env.locals
 inj:∀x y c,X.env.cells.lookup x=some c->X.env.cells.lookup y=some c->x=y
 has:∀x,(X.env.kindOf x=some .cell∨X.env.kindOf x=some .free)->∃c,X.env.cells.lookup x=some c
 cab:∀x c,X.fn x=true->X.env.cells.lookup x=some c->X.s₀.heap.objs.size<=c
 hd:X.calm=true->X.A.handled=none
 frames:X.A.frames=some X.stack
 stk:X.stack=X.outer∨(X.stack=X.env::X.outer/\X.env.frame=some X.env.locals)
 exf:∀b∈X.ex,b≠X.env.locals/\∀x c,X.env.cells.lookup x=some c->c≠b
 bs:∀b o,X.base.get? b=some o->X.s₀.heap.get? b=some o/\X.H₀ b=none
 bsz:X.base.objs.size<=X.s₀.heap.objs.size
 noex:∀b o,X.base.get? b=some o->b∉X.ex
 exfs:∀b∈X.ex,b∉X.fs
 funs:X.s₀.heap.FunFrames X.base X.outer
 frf:∀b∈X.fs,X.H₀ b=none
structure Inv (X:Cx) (pins:List (ah×Obj)) (σ:List (Option V)) (H:Hp) (s:ag):Prop where
 ok:X.Ok
 os:s.os=X.s₀.os
 bare:rp s.gens
 base:Un X.fs X.ex X.H₀ H X.s₀.heap s.heap
 loc:∃m,s.heap.Ns X.env.locals m/\∀(i:Nat) (x:Str) (v:V),X.N[i]?=some x->σ[i]?=some (some v)->qP X.env.scope x->∃u,RelV v u/\FL X.env s.heap m x u
 cell:∀x c,X.env.cells.lookup x=some c->∃v,s.heap.IsCell c v
 free:H X.env.locals=none
 freeC:∀x c,X.env.cells.lookup x=some c->H c=none
 pin:∀p∈X.pn++pins,s.heap.get? p.1=some p.2/\H p.1=none/\p.1≠X.env.locals/\p.1∉X.fs/\∀v,p.2.data≠.cell v
 hok:HOk X.prog X.w H s.heap
 len:σ.length=X.N.length
section
variable{X:Cx}{pins:List (ah×Obj)}{σ:List (Option V)}{H H':Hp}{s:ag}{h':cx}
theorem Cx.Ok.nofr (ok:X.Ok) {b:ah}{o:Obj}(e:X.base.get? b=some o):b∉X.fs:=λhb=>by have:=(ok.funs.mem hb).1;rw[e]at this;cases this
theorem Inv.bs (I:Inv X pins σ H s):∀b o,X.base.get? b=some o->s.heap.get? b=some o/\H b=none:=λb o e=>⟨I.base.keep b o (I.ok.bs b o e).1 (I.ok.bs b o e).2 (I.ok.nofr e) (I.ok.noex b o e),I.base.free b o (I.ok.bs b o e).1 (I.ok.bs b o e).2 (I.ok.noex b o e)⟩
theorem Inv.bk (I:Inv X pins σ H s):∀b o,X.base.get? b=some o->s.heap.get? b=some o:=λb o e=>(I.bs b o e).1
theorem Inv.mod (I:Inv X pins σ H s):Mod X.K X.mg X.base:=I.ok.mod
theorem Inv.kIn (I:Inv X pins σ H s):X.K.In s.heap:=I.ok.mod.kin.keeps I.bk
theorem Inv.lt (I:Inv X pins σ H s):X.env.locals<s.heap.objs.size:=let ⟨_,hn,_⟩:=I.loc;hn.lt
theorem Inv.sz (I:Inv X pins σ H s):X.s₀.heap.objs.size<=s.heap.objs.size:=du I.ok.above (gy I.lt)
theorem Inv.nofs (I:Inv X pins σ H s) {a:ah}(h:s.heap.objs.size<=a):a∉X.fs:=λhb=>by obtain⟨_,o,ho,_⟩:=I.ok.funs.mem hb;exact absurd (aw (av ho) (du I.sz h)) (gh _)
theorem Inv.cne (I:Inv X pins σ H s):∀x c,X.env.cells.lookup x=some c->c≠X.env.locals:=λx c e z=>by obtain⟨v,o,ho,hd⟩:=I.cell x c e;obtain⟨m,⟨o',es,ep,ho',hd',_⟩,_⟩:=I.loc;rw[z,ho']at ho;cases ho;rw[hd']at hd;cases hd
theorem Inv.funs (I:Inv X pins σ H s):s.heap.FunFrames X.base X.outer:=by
 have all:∀(l:List Env),(∀b∈dD l,b∈X.fs)->X.s₀.heap.FunFrames X.base l->s.heap.FunFrames X.base l:=by
  intro l
  induction l with
  |nil=>intro _ _;trivial
  |cons env r ih=>intro hs hl;obtain⟨hk,⟨L,o,hf,hn,ho,hd⟩,hr⟩:=hl;have hL:L∈X.fs:=hs L (by unfold dD;rw[cj,hf];exact ax);obtain⟨sl,e⟩:=I.base.slot L o ho (I.ok.frf L hL) hL λz=>I.ok.exfs L z hL;exact⟨hk,⟨L,_,hf,hn,e,hd⟩,ih (λb hb=>hs b (by unfold dD;rw[cj,hf];exact aq _ hb)) hr⟩
 exact all X.outer (λ_ hb=>hb) I.ok.funs
theorem Inv.stack (I:Inv X pins σ H s):s.heap.FunFrames X.base X.stack:=by
 rcases I.ok.stk with e|⟨e,hf⟩
 ·rw[e];exact I.funs
 ·rw[e];obtain⟨m,hn,_⟩:=I.loc;refine .cons (by rw[I.ok.kind];decide) hf hn ?_ I.funs;exact Heap.get?_none_of_le (du I.ok.bsz I.ok.above)
theorem Inv.stkSub (I:Inv X pins σ H s):∀b∈dD X.stack,b∈X.env.locals::X.fs:=λb hb=>by
 rcases I.ok.stk with e|⟨e,hf⟩
 ·rw[e]at hb;exact aq _ hb
 ·rw[e]at hb;unfold dD at hb;rw[cj,hf]at hb;exact hb
theorem Inv.stkFree (I:Inv X pins σ H s):∀b∈dD X.stack,H b=none:=λb hb=>by
 rcases ay.mp (I.stkSub b hb)with e|hb
 ·rw[e];exact I.free
 ·obtain⟨_,o,ho,_⟩:=I.ok.funs.mem hb;exact I.base.free b o ho (I.ok.frf b hb) λz=>I.ok.exfs b z hb
theorem Inv.step {g':Array GenState}{t':Nat}{d':Drawn}{ch:List ah}(I:Inv X pins σ H s)
  (hch:∀b∈ch,(b∈X.ex∨X.s₀.heap.objs.size<=b)/\b≠X.env.locals/\(∀x c,X.env.cells.lookup x=some c->c≠b)/\∀p∈X.pn++pins,p.1≠b)
  (keep:∀b o,b≠X.env.locals->b∉X.fs->b∉ch->s.heap.get? b=some o->H b=none->h'.get? b=some o)
  (slot:∀b o,b≠X.env.locals->b∈X.fs->b∉ch->s.heap.get? b=some o->H b=none->∃sl,h'.get? b=some { o with slots:=sl }) (free:∀b o,b∉ch->s.heap.get? b=some o->H b=none->H' b=none)
  (there:∀b o,b∉ch->s.heap.get? b=some o->∃o',h'.get? b=some o')
  (tups:∀b xs,H b=some (.tup xs)->H' b=some (.tup xs)) (frzs:∀b o u,H b=some (.frz o u)->H' b=some (.frz o u)) (tbls:∀b ps,H b=some (.tbl ps)->∃more,H' b=some (.tbl (ps++more)))
  (ns:∀m,s.heap.Ns X.env.locals m->h'.Ns X.env.locals m) (hok:HOk X.prog X.w H' h') (hg:rp g'):
  Inv X pins σ H' { s with heap:=h',gens:=g',drawn:=d',toks:=t' }:=by
 have neL:∀b o,X.s₀.heap.get? b=some o->b≠X.env.locals:=λb o e=>bf (aw (av e) I.ok.above);have neC:∀b o,X.s₀.heap.get? b=some o->b∉X.ex->b∉ch:=λb o e hx hb=>by
  rcases(hch b hb).1 with z|z
  ·exact hx z
  ·exact absurd (aw (av e) z) (gh _)
 have cellK:∀x c,X.env.cells.lookup x=some c->∀v,s.heap.IsCell c v->h'.IsCell c v:=λx c e v ⟨o,ho,hd⟩=>by
  have nch:c∉ch:=λz=>(hch c z).2.2.1 x c e rfl
  by_cases hc:c∈X.fs
  ·obtain⟨sl,q⟩:=slot c o (I.cne x c e) hc nch ho (I.freeC x c e);exact⟨_,q,hd⟩
  ·exact⟨o,keep c o (I.cne x c e) hc nch ho (I.freeC x c e),hd⟩
 refine⟨I.ok,I.os,hg,⟨λb o e n hb hx=>?_,λb o e n hb hx=>?_,λb o e n hx=>?_,λb o e hx=>?_,λb xs e=>tups b xs (I.base.tups b xs e),λb o xs e=>frzs b o xs (I.base.frzs b o xs e),λb ps e=>?_⟩, ?_,λx c e=>?_, ?_,λx c e=>?_,λp hp=>?_,hok,I.len⟩
 ·exact keep b o (neL b o e) hb (neC b o e hx) (I.base.keep b o e n hb hx) (I.base.free b o e n hx)
 ·obtain⟨sl,e1⟩:=I.base.slot b o e n hb hx;obtain⟨sl',e2⟩:=slot b _ (neL b o e) hb (neC b o e hx) e1 (I.base.free b o e n hx);exact⟨sl',e2⟩
 ·obtain⟨o',e1⟩:=I.base.there b o e hx;exact free b o' (neC b o e hx) e1 (I.base.free b o e n hx)
 ·obtain⟨o',e1⟩:=I.base.there b o e hx;exact there b o' (neC b o e hx) e1
 ·obtain⟨m1,e1⟩:=I.base.tbls b ps e;obtain⟨m2,e2⟩:=tbls b _ e1;exact⟨m1++m2,by rw[e2,Array.append_assoc]⟩
 ·obtain⟨m,hn,hl⟩:=I.loc;refine⟨m,ns m hn,λi x v e1 e2 e3=>?_⟩;obtain⟨u,r,l⟩:=hl i x v e1 e2 e3;refine⟨u,r, ?_⟩
  rcases l with l|⟨k,c,e,z⟩
  ·exact .inl l
  ·exact .inr ⟨k,c,e,cellK x c e _ z⟩
 ·obtain⟨v,z⟩:=I.cell x c e;exact⟨v,cellK x c e v z⟩
 ·obtain⟨m,⟨o,_,_,ho,_⟩,_⟩:=I.loc;exact free _ o (λz=>(hch _ z).2.1 rfl) ho I.free
 ·obtain⟨v,o,ho,hd⟩:=I.cell x c e;exact free c o (λz=>(hch c z).2.2.1 x c e rfl) ho (I.freeC x c e)
 ·obtain⟨e,n,ne,nf,d⟩:=I.pin p hp;have nch:p.1∉ch:=λz=>(hch p.1 z).2.2.2 p hp rfl;exact⟨keep p.1 p.2 ne nf nch e n,free p.1 p.2 nch e n,ne,nf,d⟩
theorem Inv.un {t':Nat}(I:Inv X pins σ H s) (u:Un X.fs [] H H' s.heap h') (hok:HOk X.prog X.w H' h'):Inv X pins σ H' { s with heap:=h',toks:=t' }:=by obtain⟨m,⟨o,es,ep,ho,r⟩,_⟩:=id I.loc;obtain⟨sl,hL⟩:=u.any ho I.free (by simp);exact I.step (g':=s.gens) (d':=s.drawn) (ch:=[]) (λ_ z=>nomatch z) (λb o _ hb _ e n=>u.keep b o e n hb (by simp)) (λb o _ hb _ e n=>u.slot b o e n hb (by simp)) (λb o _ e n=>u.free b o e n (by simp)) (λb o _ e=>u.there b o e (by simp)) u.tups u.frzs u.tbls (λm' hm=>by obtain⟨o',es',ep',ho',r'⟩:=hm;rw[ho]at ho';cases ho';exact⟨_,es',ep',hL,r'⟩) hok I.bare
theorem Inv.call {g':Array GenState}{t':Nat}{d':Drawn}{ch:List ah}(I:Inv X pins σ H s) (u:Un (dD X.stack) ch H H' s.heap h') (hok:HOk X.prog X.w H' h') (hg:rp g')
  (hch:∀b∈ch,(b∈X.ex∨X.s₀.heap.objs.size<=b)/\b≠X.env.locals/\(∀x c,X.env.cells.lookup x=some c->c≠b)/\∀p∈X.pn++pins,p.1≠b):
  Inv X pins σ H' { s with heap:=h',gens:=g',drawn:=d',toks:=t' }:=by
 obtain⟨m,⟨o,es,ep,ho,r⟩,_⟩:=id I.loc;obtain⟨sl,hL⟩:=u.any ho I.free λz=>(hch _ z).2.1 rfl;exact I.step (ch:=ch) hch (λb o hL hb hc e n=>u.keep b o e n (λz=>(ay.mp (I.stkSub b z)).elim hL hb) hc) (λb o _ _ hc e n=>u.any e n hc) (λb o hc e n=>u.free b o e n hc) (λb o hc e=>u.there b o e hc) u.tups u.frzs u.tbls (λm' hm=>by obtain⟨o',es',ep',ho',r'⟩:=hm;rw[ho]at ho';cases ho';exact⟨_,es',ep',hL,r'⟩) hok hg
theorem Inv.turned {t':Nat}{it:ah}(I:Inv X pins σ H s) (k:∀b o,b≠it->s.heap.get? b=some o->h'.get? b=some o) (hn:H it=none) (hL:it≠X.env.locals)
  (h1:it∈X.ex∨X.s₀.heap.objs.size<=it) (h2:∀x c,X.env.cells.lookup x=some c->c≠it) (h3:∀p∈X.pn++pins,p.1≠it):Inv X pins σ H { s with heap:=h',toks:=t' }:=by
 have nit:∀b u,H b=some u->b≠it:=λb u e z=>by rw[z,hn]at e;cases e
 refine I.step (g':=s.gens) (d':=s.drawn) (ch:=[it]) (λb hb=>?_) (λb o _ _ hc e _=>k b o (λz=>hc (by simp[z])) e) (λb o _ _ hc e _=>⟨o.slots,k b o (λz=>hc (by simp[z])) e⟩) (λ_ _ _ _ n=>n)
  (λb o hc e=>⟨o,k b o (λz=>hc (by simp[z])) e⟩) (λ_ _ e=>e) (λ_ _ _ e=>e) (λb ps e=>⟨#[],by rw[e];simp⟩) (λm hm=>?_) (λb u e=>?_) I.bare
 ·have e:b=it:=by simpa using hb
  subst e;exact⟨h1,hL,h2,h3⟩
 ·obtain⟨o,es,ep,ho,r⟩:=hm;exact⟨o,es,ep,k _ o (de hL) ho,r⟩
 ·refine(I.hok b u e).stay (λc v hc q=>k c v ?_ q) (λ_ q=>q) λ_ _ q=>q
  rcases hc with z|z
  ·rw[z];exact nit b u e
  ·exact nit c _ z
theorem Inv.tok (I:Inv X pins σ H s) (t:Nat):Inv X pins σ H { s with toks:=t }:=I.un (h':=s.heap) (t':=t) Un.refl I.hok
theorem Inv.kept {t':Nat}(I:Inv X pins σ H s) (k:∀b u,s.heap.get? b=some u->h'.get? b=some u):Inv X pins σ H { s with heap:=h',toks:=t' }:=I.un (Un.kept k) (I.hok.kept k)
theorem Inv.laid {a:ah}{o:HO}{t':Nat}(I:Inv X pins σ H s) (k:∀b u,s.heap.get? b=some u->h'.get? b=some u) (hp:s.heap.objs.size<=a) (new:ObjOk X.prog X.w (aQ H a o) h' a o):
  Inv X pins σ (aQ H a o) { s with heap:=h',toks:=t' }:=I.un (Un.laid k hp (I.hok.fresh hp)) (I.hok.laid k hp new)
theorem Inv.write {x e:ah}{o:HO}{t':Nat}(I:Inv X pins σ H s) (mu:vE (H x)) (he:e=x∨H e=some (.own x)) (k:∀b u,b≠e->s.heap.get? b=some u->h'.get? b=some u) (heo:∃u,h'.get? e=some u)
  (new:ObjOk X.prog X.w (aQ H x o) h' x o):Inv X pins σ (aQ H x o) { s with heap:=h',toks:=t' }:=I.un (Un.write mu he k heo) (I.hok.write mu he k heo new)
theorem Inv.pins_of {pins':List (ah×Obj)}(I:Inv X pins σ H s) (h:∀p∈pins',s.heap.get? p.1=some p.2/\H p.1=none/\p.1≠X.env.locals/\p.1∉X.fs/\∀v,p.2.data≠.cell v):Inv X pins' σ H s:=⟨I.ok,I.os,I.bare,I.base,I.loc,I.cell,I.free,I.freeC,λp hp=>(fw.mp hp).elim (λz=>I.pin p (ju _ z)) (h p),I.hok,I.len⟩
theorem zZ {N:List Str}(hN:N.Nodup) {i j:Nat}{x:Str}(a:N[i]?=some x) (b:N[j]?=some x):i=j:=by obtain⟨h1,e1⟩:=ba.mp a;obtain⟨h2,e2⟩:=ba.mp b;exact(List.getElem_inj hN).mp (e1.trans e2.symm)
theorem O5 {M:wk}{A:cn}{E:af->ag->Prop}{i:Nat}{x:Str}{v:V}{u:af}{Q:Unit->ag->Prop}(I:Inv X pins σ H s) (hN:X.N.Nodup) (hi:X.N[i]?=some x) (hx:mR X.env.scope x) (r:RelV v u)
  (h:∀s',Inv X pins (σ.set i (some v)) H s'->(∃a,ij a s.heap s'.heap/\(a=X.env.locals∨X.env.cells.lookup x=some a))->Q () s') (hf:X.fn x=true∨X.env.scope.names.lookup x=some .local:=by first|exact .inl rfl|exact .inr rfl|assumption):wpAny M A (storeName X.env x u) Q E s:=by
 obtain⟨m,hn,hl⟩:=id I.loc;have hcls:(X.env.scope.kind==.class||(X.env.scope.kind==.module&&X.env.locals != X.env.globals))=false:=by rw[I.ok.kind];rfl
 have hiσ:i<σ.length:=by rw[I.len];exact(ba.mp hi).1
 have cne:=I.cne;have tracked:∀{a:ah}{h':cx},(∃o,s.heap.get? a=some o/\H a=none)->ij a s.heap h'->HOk X.prog X.w H h':=λ{a h'} ha hs b ob e=>by
  obtain⟨_,_,hfree⟩:=ha;refine(I.hok b ob e).stay (λc w' hc q=>(hs.2 c ?_).trans q) (λ_ q=>q) λ_ _ q=>q
  rintro rfl
  rcases hc with rfl|hc
  ·rw[hfree]at e;cases e
  ·rw[hfree]at hc;cases hc
 rcases hx with hk|hk
 ·refine wpAny_storeName_local hk hn (λh' hn' hs=>?_) hcls;obtain⟨oL,_,_,hoL,_⟩:=id hn;refine h _ ⟨I.ok,I.os,I.bare,⟨λb o e n hb hx=>?_,λb o e n hb hx=>?_,I.base.free,λb o e hx=>?_,I.base.tups,I.base.frzs,I.base.tbls⟩,⟨_,hn',λj y v' e1 e2 e3=>?_⟩,λy c e=>?_,I.free,I.freeC,λp hp=>?_,tracked ⟨oL,hoL,I.free⟩ hs,by simpa using I.len⟩ ⟨_,hs,.inl rfl⟩
  ·exact(hs.2 b (bf (aw (av e) I.ok.above))).trans (I.base.keep b o e n hb hx)
  ·obtain⟨sl,e1⟩:=I.base.slot b o e n hb hx;exact⟨sl,(hs.2 b (bf (aw (av e) I.ok.above))).trans e1⟩
  ·obtain⟨o',e1⟩:=I.base.there b o e hx;exact⟨o',(hs.2 b (bf (aw (av e) I.ok.above))).trans e1⟩
  ·by_cases hj:j=i
   ·subst hj;rw[hi]at e1;cases e1;rw[dm hiσ]at e2;cases e2;exact⟨u,r,.inl ⟨hk,by simp⟩⟩
   ·rw[fh (de hj)]at e2;obtain⟨u',r',q⟩:=hl j y v' e1 e2 e3;refine⟨u',r', ?_⟩
    rcases q with⟨k,e⟩|⟨k,c,e,z⟩
    ·refine .inl ⟨k, ?_⟩;have:y≠x:=λe=>hj (zZ hN e1 (e▸hi));simp[this,e]
    ·exact .inr ⟨k,c,e,z.sameBut hs (cne y c e)⟩
  ·obtain⟨w',z⟩:=I.cell y c e;exact⟨w',z.sameBut hs (cne y c e)⟩
  ·obtain⟨e,n,ne,nf,d⟩:=I.pin p hp;exact⟨(hs.2 p.1 ne).trans e,n,ne,nf,d⟩
 ·have hfn:X.fn x=true:=by
   rcases hf with z|z
   ·exact z
   ·rw[z]at hk;cases hk
  obtain⟨c,hc⟩:=I.ok.has x (.inl hk);obtain⟨w',z⟩:=I.cell x c hc;refine wpAny_storeName_cell I.ok.kind hk hc z (λh' hc' hs=>?_);obtain⟨oc,hoc,hocd⟩:=id z;refine h { s with heap:=h' } ⟨I.ok,I.os,I.bare,⟨λb o e n hb hx=>?_,λb o e n hb hx=>?_,I.base.free,λb o e hx=>?_,I.base.tups,I.base.frzs,I.base.tbls⟩,⟨m,hn.sameBut hs (de (cne x c hc)),λj y v' e1 e2 e3=>?_⟩,λy c' e=>?_,I.free,I.freeC,λp hp=>?_,tracked ⟨oc,hoc,I.freeC x c hc⟩ hs,by simpa using I.len⟩ ⟨c,hs,.inr hc⟩
  ·exact(hs.2 b (bf (aw (av e) (I.ok.cab x c hfn hc)))).trans (I.base.keep b o e n hb hx)
  ·obtain⟨sl,e1⟩:=I.base.slot b o e n hb hx;exact⟨sl,(hs.2 b (bf (aw (av e) (I.ok.cab x c hfn hc)))).trans e1⟩
  ·obtain⟨o',e1⟩:=I.base.there b o e hx;exact⟨o',(hs.2 b (bf (aw (av e) (I.ok.cab x c hfn hc)))).trans e1⟩
  ·by_cases hj:j=i
   ·subst hj;rw[hi]at e1;cases e1;rw[dm hiσ]at e2;cases e2;exact⟨u,r,.inr ⟨.inl hk,c,hc,hc'⟩⟩
   ·rw[fh (de hj)]at e2;obtain⟨u',r',q⟩:=hl j y v' e1 e2 e3;refine⟨u',r', ?_⟩
    rcases q with q|⟨k,c',e,z'⟩
    ·exact .inl q
    ·refine .inr ⟨k,c',e,z'.sameBut hs ?_⟩
     rintro rfl
     exact hj (zZ hN e1 (I.ok.inj _ _ _ e hc▸hi))
  ·by_cases hcc:c'=c
   ·subst hcc;exact⟨_,hc'⟩
   ·obtain⟨w2,z2⟩:=I.cell y c' e;exact⟨w2,z2.sameBut hs hcc⟩
  ·obtain⟨e,n,ne,nf,d⟩:=I.pin p hp;refine⟨(hs.2 p.1 ?_).trans e,n,ne,nf,d⟩;intro q;rw[q,hoc]at e;have q':oc=p.2:=cg e;exact d w' (by rw[<-q'];exact hocd)
theorem sG {M:wk}{A:cn}{E:af->ag->Prop}{i:Nat}{x:Str}{v:V}{u:af}{Q:Unit->ag->Prop}(I:Inv X pins σ H s) (hN:X.N.Nodup) (hi:X.N[i]?=some x) (hx:mR X.env.scope x) (r:RelV v u)
  (h:∀s',Inv X pins (σ.set i (some v)) H s'->Q () s') (hf:X.fn x=true∨X.env.scope.names.lookup x=some .local:=by first|exact .inl rfl|exact .inr rfl|assumption):wpAny M A (storeName X.env x u) Q E s:=
 O5 I hN hi hx r (λs' I' _=>h s' I') hf
theorem Inv.call' {s':ag}{ch:List ah}(I:Inv X pins σ H s) (ho:s'.os=s.os) (u:Un (dD X.stack) ch H H' s.heap s'.heap) (hok:HOk X.prog X.w H' s'.heap) (hg:rp s'.gens)
  (hch:∀b∈ch,(b∈X.ex∨X.s₀.heap.objs.size<=b)/\b≠X.env.locals/\(∀x c,X.env.cells.lookup x=some c->c≠b)/\∀p∈X.pn++pins,p.1≠b):Inv X pins σ H' s':=by
 obtain⟨h',g',d',t',o'⟩:=s';have e:o'=s.os:=ho;subst e;exact I.call (g':=g') (t':=t') (d':=d') u hok hg hch
end
abbrev XK:=af->Option ah->Hp->Prop
abbrev St:=List (Option V)
abbrev VK:=V->Hp->Prop
abbrev TE:=St->Hp->VK->Prop
abbrev TT:=St->Hp->(Bool->Hp->Prop)->Prop
abbrev TA:=St->Hp->(List V->Hp->Prop)->Prop
structure Ends where
 nx:St->Hp->Prop
 rt:VK
 bk:St->Hp->Prop:=λ_ _=>False
 ct:St->Hp->Prop:=λ_ _=>False
abbrev TS:=Ends->St->Hp->Prop
def EP (X:Cx) (pins:List (ah×Obj)) (σ:St) (Q:VK) (u:af) (s':ag):Prop:=∃v H',Inv X pins σ H' s'/\RelV v u/\Q v H'
def TP (X:Cx) (pins:List (ah×Obj)) (σ:St) (Q:Bool->Hp->Prop) (b:Bool) (s':ag):Prop:=∃H',Inv X pins σ H' s'/\Q b H'
def AP (X:Cx) (pins:List (ah×Obj)) (σ:St) (Q:List V->Hp->Prop) (us:List af) (s':ag):Prop:=∃vs H',Inv X pins σ H' s'/\Vals vs us/\Q vs H'
def SP (X:Cx) (pins:List (ah×Obj)) (D:Ends) (f:Flow) (s':ag):Prop:=
 match f with
 | .next=>∃σ' H',Inv X pins σ' H' s'/\D.nx σ' H'
 | .brk=>∃σ' H',Inv X pins σ' H' s'/\D.bk σ' H'
 | .cont=>∃σ' H',Inv X pins σ' H' s'/\D.ct σ' H'
 | .ret u=>∃v σ' H',Inv X pins σ' H' s'/\RelV v u/\D.rt v H'
def PE (X:Cx) (e:bj) (t:TE):Prop:=∀(pins:List (ah×Obj)) (s:ag) (σ:St) (H:Hp) (Q:VK),Inv X pins σ H s->t σ H Q->wpAny (model X.prog X.w) X.A (eval e X.env) (EP X pins σ Q) X.xe s
def PT (X:Cx) (e:bj) (t:TT):Prop:=∀(pins:List (ah×Obj)) (s:ag) (σ:St) (H:Hp) (Q:Bool->Hp->Prop),Inv X pins σ H s->t σ H Q->wpAny (model X.prog X.w) X.A (isTrue e X.env (eval e X.env)) (TP X pins σ Q) X.xe s
def PW (X:Cx) (e:bj) (t:TT):Prop:=∀(whole:Sem af) (pins:List (ah×Obj)) (s:ag) (σ:St) (H:Hp) (Q:Bool->Hp->Prop),Inv X pins σ H s->t σ H Q->wpAny (model X.prog X.w) X.A (isTrue e X.env whole) (TP X pins σ Q) X.xe s
theorem PW.pt {X:Cx}{e:bj}{t:TT}(h:PW X e t):PT X e t:=h _
def PA (X:Cx) (es:List bj) (t:TA):Prop:=∀(pos:Pos) (pins:List (ah×Obj)) (s:ag) (σ:St) (H:Hp) (Q:List V->Hp->Prop),Inv X pins σ H s->t σ H Q->wpAny (model X.prog X.w) X.A (spliced (backTo pos (ao es X.env))) (AP X pins σ Q) X.xe s
def PS (X:Cx) (st:ig) (t:TS):Prop:=∀(pins:List (ah×Obj)) (s:ag) (σ:St) (H:Hp) (D:Ends),Inv X pins σ H s->t D σ H->wpAny (model X.prog X.w) X.A (exec st X.env) (SP X pins D) X.xe s
def PSs (X:Cx) (st:List ig) (t:TS):Prop:=∀(pins:List (ah×Obj)) (s:ag) (σ:St) (H:Hp) (D:Ends),Inv X pins σ H s->t D σ H->wpAny (model X.prog X.w) X.A (execs st X.env) (SP X pins D) X.xe s
theorem aW {α:Type}{t:Sem α}{Q Q':α->ag->Prop}{M:wk}{A:cn}{E:af->ag->Prop}{s:ag}(h:wpAny M A t Q E s) (hQ:∀a s,Q a s->Q' a s):wpAny M A t Q' E s:=ki h hQ λ_ _ x=>x
section
variable{X:Cx}
def O6 (i:Nat):TE:=λσ H Q=>∃v,σ[i]?=some (some v)/\Q v H
def tC (v:V):TE:=λ_ H Q=>Q v H
theorem AA {i:Nat}{x:Str}{pos:Pos}(hN:X.N[i]?=some x) (hv:qP X.env.scope x) (hd:(x==("__debug__" : Str))=false:=by decide) (hcd:(x==("__classdict__" : Str))=false:=by decide):PE X (.Name x pos) (O6 i):=by
 intro pins s σ H Q I h;obtain⟨v,e,h⟩:=h;obtain⟨m,hn,hl⟩:=I.loc;obtain⟨u,r,l⟩:=hl i x v hN e hv;have fin:EP X pins σ Q u s:=⟨v,H,I,r,h⟩
 rcases l with⟨hk,hm⟩|⟨hk,c,hc,hcell⟩
 ·exact wpAny_Name (wpAny_loadName_local I.ok.kind hk hn hm fin) hd
 ·rcases hk with hk|hk
  ·exact wpAny_Name (wpAny_loadName_cell I.ok.kind hk hc hcell fin) hd
  ·exact wpAny_Name (wpAny_loadName_free I.ok.kind hk hc hcell fin hcd) hd
theorem O7 {i j pos}:PE X (.Constant (.int i) j pos) (tC (.int i)):=λ_ _ _ H _ I h=>wpAny_Constant_int ⟨.int i,H,I.tok _,⟨_,rfl⟩,h⟩
theorem O8 {b j pos}:PE X (.Constant (.bool b) j pos) (tC (.bl b)):=λ_ _ _ H _ I h=>Constant_bool ⟨.bl b,H,I,rfl,h⟩
theorem FN {j pos}:PE X (.Constant .none j pos) (tC .non):=λ_ _ _ H _ I h=>Constant_none ⟨.non,H,I,rfl,h⟩
theorem O9 {x j pos}:PE X (.Constant (.str x) j pos) (tC (.str x)):=λ_ _ _ H _ I h=>Calls.Constant_str ⟨.str x,H,I.tok _,⟨_,rfl⟩,h⟩
def Gl (X:Cx) (x:Str):Prop:=X.env.kindOf x=some .globalImplicit
theorem sH {E:af->ag->Prop}{pins:List (ah×Obj)}{s:ag}{σ:St}{H:Hp}{x:Str}{u:af}{pos:Pos}{Q:af->ag->Prop}(I:Inv X pins σ H s) (hg:Gl X x) (hm:X.mg x=some u) (h:Q u s)
  (hd:(x==("__debug__" : Str))=false:=by decide):wpAny (model X.prog X.w) X.A (eval (.Name x pos) X.env) Q E s:=
 wm I.ok.kind hg (Calls.loadGlobal_global (by rw[I.ok.glob];exact I.mod.glob.keeps I.bk) hm h) hd
theorem pO {E:af->ag->Prop}{pins:List (ah×Obj)}{s:ag}{σ:St}{H:Hp}{x:Str}{u:af}{pos:Pos}{Q:af->ag->Prop}(I:Inv X pins σ H s) (hg:Gl X x) (hm:X.mg x=none) (hv:dg x=some u) (h:Q u s)
  (hn:x ≠ "__name__" := by decide) (hd:(x==("__debug__" : Str))=false:=by decide):wpAny (model X.prog X.w) X.A (eval (.Name x pos) X.env) Q E s:=by
 obtain⟨mb,h1,h2⟩:=I.mod.blt;exact wm I.ok.kind hg (Calls.loadGlobal_builtin (by rw[I.ok.glob];exact I.mod.glob.keeps I.bk) hm (by rw[I.ok.blt];exact h1.keeps I.bk) ((h2 x hn).trans hv) h) hd
theorem AB {x:Str}{v:V}{u:af}{pos:Pos}(hg:Gl X x) (hm:X.mg x=some u) (r:RelV v u) (hd:(x==("__debug__" : Str))=false:=by decide):PE X (.Name x pos) (tC v):=λ_ _ _ H _ I h=>sH I hg hm ⟨v,H,I,r,h⟩ hd
variable{a b:bj}{ta tb:TE}{pos:Pos}
def tB (t:TE):TT:=λσ H Q=>t σ H λx H1=>∃c,x=.bl c/\Q c H1
variable{tA tB':TT}{rest:List bj}
def FO (t u:TT):TT:=λσ H Q=>t σ H λc H1=>if c=true then Q true H1 else u σ H1 Q
def PB (t:TT):TT:=λσ H Q=>t σ H λc H1=>Q (!c) H1
theorem PC (ha:PT X a tA):PW X (.BoolOp .Or [a] pos) tA:=by
 intro wh pins s σ H Q I h;refine isTrue_or (aW (ha pins s σ H Q I h) λc s1 e=>?_)
 cases c with
 |false=>exact isTrue_or_nil e
 |true=>exact e
theorem PD (ha:PT X a tA) (hb:PW X (.BoolOp .Or (b::rest) pos) tB'):PW X (.BoolOp .Or (a::b::rest) pos) (FO tA tB'):=by
 intro wh pins s σ H Q I h;refine isTrue_or (aW (ha pins s σ H _ I h) λc s1 ⟨H1,I1,q1⟩=>?_)
 cases c with
 |true=>exact⟨H1,I1,q1⟩
 |false=>exact hb wh pins s1 σ H1 Q I1 q1
theorem PF (ha:PT X a tA):PT X (.UnaryOp .Not a pos) (PB tA):=by intro pins s σ H Q I h;exact isTrue_not (ha pins s σ H (λc H1=>Q (!c) H1) I h)
def PH (ta tb:TE):TE:=λσ H Q=>ta σ H λx H1=>∃c,x=.bl c/\if c=true then tb σ H1 Q else Q (.bl false) H1
def PK (ta:TE):TE:=λσ H Q=>ta σ H λx H1=>∃c,x=.bl c/\Q (.bl (!c)) H1
theorem PL {op} {t:TE}(h:PE X a t):PE X (.BoolOp op [a] pos) t:=λpins s σ H Q I hw=>BoolOp_one (h pins s σ H Q I hw)
theorem PM (ha:PE X a ta) (hb:PE X (.BoolOp .And (b::rest) pos) tb):PE X (.BoolOp .And (a::b::rest) pos) (PH ta tb):=by
 intro pins s σ H Q I h;refine BoolOp_and (aW (ha pins s σ H _ I h) λv s1 ⟨x,H1,I1,r1,q1⟩=>?_);obtain⟨c,rfl,q1⟩:=q1;cases r1;refine ji ?_
 cases c with
 |true=>exact hb pins s1 σ H1 Q I1 q1
 |false=>exact⟨.bl false,H1,I1,rfl,q1⟩
theorem PN (ha:PE X a ta):PE X (.UnaryOp .Not a pos) (PK ta):=by intro pins s σ H Q I h;refine UnaryOp_ (aW (ha pins s σ H _ I h) λv s1 ⟨x,H1,I1,r1,q1⟩=>?_);obtain⟨c,rfl,q1⟩:=q1;cases r1;exact not_of (ji ⟨.bl (!c),H1,I1,rfl,q1⟩)
def PQ (t:TT) (ta tb:TE):TE:=λσ H Q=>t σ H λc H1=>if c=true then ta σ H1 Q else tb σ H1 Q
theorem PR {c:bj}(hc:PT X c tA) (ha:PE X a ta) (hb:PE X b tb):PE X (.IfExp c a b pos) (PQ tA ta tb):=by
 intro pins s σ H Q I h;refine wpAny_IfExp (aW (hc pins s σ H _ I h) λd s1 ⟨H1,I1,q1⟩=>?_)
 cases d with
 |true=>exact ha pins s1 σ H1 Q I1 q1
 |false=>exact hb pins s1 σ H1 Q I1 q1
end
def SqL (K:ar) (H:Hp) (a:ah) (xs:List V):Prop:=
 Rd H a (.lst xs) ∨
  ∃(o:Obj) (its:Array af) (n:Nat),K.lookup a=some o/\o.cls=.type "list"/\o.dict=none/\o.data=.seq its n/\its.size<=bp/\Vals xs its.toList
def SqT (K:ar) (H:Hp) (a:ah) (xs:List V):Prop:=
 Rd H a (.tup xs) ∨
  ∃(o:Obj) (its:Array af) (n:Nat),K.lookup a=some o/\o.cls=.type "tuple"/\o.data=.seq its n/\its.size<=bp/\Vals xs its.toList
def PU:af->Option V
 | .none=>some .non
 | .bool b=>some (.bl b)
 | .int i _=>some (.int i)
 | .str x _=>some (.str x)
 | .bytes b _=>some (.byt b)
 | .float b _=>some (.flt b)
 | .ref a=>some (.ref a)
 | .type n=>some (.ty n)
 |_=>none
theorem RelV.abs {x:V}{u:af}(r:RelV x u):PU u=some x:=by
 cases x with
 |non=>cases r;rfl
 |bl _=>cases r;rfl
 |int _=>obtain⟨t,rfl⟩:=r;rfl
 |str _=>obtain⟨t,rfl⟩:=r;rfl
 |byt _=>obtain⟨t,rfl⟩:=r;rfl
 |flt _=>obtain⟨t,rfl⟩:=r;rfl
 |ref _=>cases r;rfl
 |ty _=>cases r;rfl
theorem RelV.inj {x y:V}{u:af}(r:RelV x u) (q:RelV y u):x=y:=cg (r.abs.symm.trans q.abs)
theorem Vals.inj:∀{xs ys:List V}{us:List af},Vals xs us->Vals ys us->xs=ys
 |_,_,_,.nil,.nil=>rfl
 |_,_,_,.cons r t,.cons r' t'=>by rw[r.inj r',Vals.inj t t']
section
variable{X:Cx}{pins:List (ah×Obj)}{σ:St}{H:Hp}{s:ag}{a:ah}{xs ys:List V}
theorem SqL.of {K:ar}(h:H a=some (.lst xs)):SqL K H a xs:=.inl (.inl h)
theorem SqT.of {K:ar}(h:H a=some (.tup xs)):SqT K H a xs:=.inl (.inl h)
theorem Inv.list (I:Inv X pins σ H s) (h:SqL X.K H a xs):∃its:List af,Vals xs its/\PlainL s.heap a its.toArray/\xs.length<=bp:=by
 rcases h with h|⟨o,its,n,hk,hc,hd,hs,hz,r⟩
 ·obtain⟨z,its,n,r,e⟩:=h.ok I.hok;exact⟨its,r,⟨_,n,e,rfl,rfl,rfl⟩,z⟩
 ·refine⟨its.toList,r,⟨o,n,I.kIn a o hk,hc,hd,by simpa using hs⟩, ?_⟩;have e:=r.length;simp only[kv]at e;omega
theorem Inv.tuple (I:Inv X pins σ H s) (h:SqT X.K H a xs):∃its:List af,Vals xs its/\IsTup s.heap a its.toArray/\xs.length<=bp:=by
 rcases h with h|⟨o,its,n,hk,hc,hs,hz,r⟩
 ·obtain⟨z,its,r,p⟩:=h.ok I.hok;exact⟨its,r,p.tup,z⟩
 ·refine⟨its.toList,r,⟨o,I.kIn a o hk,hc,n,by simpa using hs⟩, ?_⟩;have e:=r.length;simp only[kv]at e;omega
theorem Inv.list_inj (I:Inv X pins σ H s) (h:SqL X.K H a xs) (h':SqL X.K H a ys):xs=ys:=by
 obtain⟨its,r,⟨o,n,e,_,_,d⟩,_⟩:=I.list h;obtain⟨its',r',⟨o',n',e',_,_,d'⟩,_⟩:=I.list h';rw[e]at e';cases e';rw[d]at d';injection d' with d1 _;have:its=its':=by simpa using congrArg Array.toList d1
 subst this;exact r.inj r'
theorem Inv.tuple_inj (I:Inv X pins σ H s) (h:SqT X.K H a xs) (h':SqT X.K H a ys):xs=ys:=by
 obtain⟨its,r,⟨o,e,_,n,d⟩,_⟩:=I.tuple h;obtain⟨its',r',⟨o',e',_,n',d'⟩,_⟩:=I.tuple h';rw[e]at e';cases e';rw[d]at d';injection d' with d1 _;have:its=its':=by simpa using congrArg Array.toList d1
 subst this;exact r.inj r'
end
abbrev Cx.wish (X:Cx) (E:af->ag->Prop):Cx:={ X with xe:=E }
abbrev Cx.nox (X:Cx):Cx:=X.wish λ_ _=>False
theorem Cx.Ok.wish {X:Cx}(ok:X.Ok) (E:af->ag->Prop):(X.wish E).Ok:=⟨ok.mod,ok.kind,ok.glob,ok.blt,ok.above,ok.inj,ok.has,ok.cab,ok.hd,ok.frames,ok.stk,ok.exf,ok.bs,ok.bsz,ok.noex,ok.exfs,ok.funs,ok.frf⟩
theorem Cx.Ok.unwish {X:Cx}{E:af->ag->Prop}(ok:(X.wish E).Ok):X.Ok:=⟨ok.mod,ok.kind,ok.glob,ok.blt,ok.above,ok.inj,ok.has,ok.cab,ok.hd,ok.frames,ok.stk,ok.exf,ok.bs,ok.bsz,ok.noex,ok.exfs,ok.funs,ok.frf⟩
section
variable{X:Cx}{pins:List (ah×Obj)}{σ:St}{H:Hp}{s:ag}{E:af->ag->Prop}
theorem Inv.wish (I:Inv X pins σ H s) (E:af->ag->Prop):Inv (X.wish E) pins σ H s:=⟨I.ok.wish E,I.os,I.bare,I.base,I.loc,I.cell,I.free,I.freeC,I.pin,I.hok,I.len⟩
theorem Inv.unwish (I:Inv (X.wish E) pins σ H s):Inv X pins σ H s:=⟨I.ok.unwish,I.os,I.bare,I.base,I.loc,I.cell,I.free,I.freeC,I.pin,I.hok,I.len⟩
end
section
variable{X:Cx}{st:ig}{rest:List ig}{t u:TS}{e:bj}{te:TE}{pos:Pos}
def PV:TS:=λD σ H=>D.nx σ H
def PX (t u:TS):TS:=λD σ H=>t { D with nx:=u D } σ H
theorem PY:PSs X [] PV:=λ_ _ σ H _ I h=>mf ⟨σ,H,I,h⟩
theorem PZ (h1:PS X st t) (h2:PSs X rest u):PSs X (st::rest) (PX t u):=by
 intro pins s σ H D I h;refine pb (aW (h1 pins s σ H { D with nx:=u D } I h) λf s1 q=>?_)
 cases f with
 |next=>obtain⟨σ',H',I',q⟩:=q;exact h2 pins s1 σ' H' D I' q
 |ret v=>exact q
 |brk=>exact q
 |cont=>exact q
theorem FP (h1:PS X st t):PSs X [st] t:=by
 intro pins s σ H D I h;refine pb (aW (h1 pins s σ H D I h) λf s1 q=>?_)
 cases f with
 |next=>exact mf q
 |ret v=>exact q
 |brk=>exact q
 |cont=>exact q
theorem Inv.quiet {pins:List (ah×Obj)}{σ:St}{H:Hp}{s:ag}(I:Inv X pins σ H s):interactive X.env=false:=by simp[interactive,I.ok.kind]
def P0 (te:TE):TS:=λD σ H=>te σ H λ_ H1=>D.nx σ H1
theorem P4 (he:PE X e te) (hs:swapsWith e none pos.line X.env=pure false:=by rfl):PS X (.Expr e pos) (P0 te):=by intro pins s σ H D I h;exact wpAny_Expr_any (aW (he pins s σ H _ I h) λv s1 ⟨x,H1,I1,r1,q1⟩=>⟨σ,H1,I1,q1⟩) I.quiet hs
def P5 (te:TE):TS:=λD σ H=>te σ H D.rt
theorem P6 (he:PE X e te):PS X (.Return (some e) pos) (P5 te):=by intro pins s σ H D I h;exact wpAny_Return_some (aW (he pins s σ H _ I h) λv s1 ⟨x,H1,I1,r1,q1⟩=>⟨x,σ,H1,I1,r1,q1⟩)
def P7 (c:TT) (t u:TS):TS:=λD σ H=>c σ H λb H1=>if b=true then t D σ H1 else u D σ H1
theorem P8 {c:bj}{a b:List ig}{tc:TT}(hc:PT X c tc) (ha:PSs X a t) (hb:PSs X b u):PS X (.If c a b pos) (P7 tc t u):=by
 intro pins s σ H D I h;refine wpAny_If (aW (hc pins s σ H _ I h) λd s1 ⟨H1,I1,q1⟩=>?_)
 cases d with
 |true=>exact ha pins s1 σ H1 D I1 q1
 |false=>exact hb pins s1 σ H1 D I1 q1
end
abbrev TG:=V->St->Hp->(St->Hp->Prop)->Prop
abbrev mS:=List V->St->Hp->(St->Hp->Prop)->Prop
def PG (X:Cx) (target:bj) (t:TG):Prop:=
 ∀(pins:List (ah×Obj)) (s:ag) (σ:St) (H:Hp) (v:V) (u:af) (Q:St->Hp->Prop),Inv X pins σ H s->RelV v u->t v σ H Q->
  wpAny (model X.prog X.w) X.A (assign target X.env u) (λ_ s'=>∃σ' H',Inv X pins σ' H' s'/\Q σ' H') X.xe s
def PGs (X:Cx) (ts:List bj) (t:mS):Prop:=
 ∀(pins:List (ah×Obj)) (s:ag) (σ:St) (H:Hp) (vs:List V) (us:List af) (Q:St->Hp->Prop),Inv X pins σ H s->Vals vs us->t vs σ H Q->
  wpAny (model X.prog X.w) X.A (assignInOrder ((assignEach ts X.env).map (·.2)) us) (λ_ s'=>∃σ' H',Inv X pins σ' H' s'/\Q σ' H') X.xe s
abbrev AD:=V->V->V->Hp->(Hp->Prop)->Prop
def FQ (X:Cx) (t:AD):Prop:=
 ∀(pins:List (ah×Obj)) (s:ag) (σ:St) (H:Hp) (o i v:V) (ov iv u:af) (Q:Hp->Prop),Inv X pins σ H s->RelV o ov->RelV i iv->RelV v u->t o i v H Q->
  wpAny (model X.prog X.w) X.A (setItem ov iv u) (λ_ s'=>∃H',Inv X pins σ H' s'/\Q H') X.xe s
section
variable{X:Cx}{pos:Pos}
def FR (i:Nat):TG:=λv σ H Q=>Q (σ.set i (some v)) H
theorem P9 {i:Nat}{x:Str}(hN:X.N.Nodup) (hi:X.N[i]?=some x) (hx:mR X.env.scope x) (hf:X.fn x=true∨X.env.scope.names.lookup x=some .local:=by first|exact .inl rfl|exact .inr rfl|assumption):PG X (.Name x pos) (FR i):=by intro pins s σ H v u Q I r h;exact wpAny_assign_Name (sG I hN hi hx r (λs' I'=>⟨_,H,I',h⟩) hf)
def QA:mS:=λvs σ H Q=>vs=[]/\Q σ H
def QB (t:TG) (u:mS):mS:=λvs σ H Q=>∃v r,vs=v::r/\t v σ H λσ' H'=>u r σ' H' Q
theorem QC:PGs X [] QA:=by intro pins s σ H vs us Q I r h;obtain⟨e,h⟩:=h;subst e;cases r;exact assignInOrder_nil ⟨σ,H,I,h⟩
theorem QD {e:bj}{es:List bj}{t:TG}{u:mS}(h1:PG X e t) (h2:PGs X es u)
  (hs:(assignEach (e::es) X.env).map (·.2)=assign e X.env::(assignEach es X.env).map (·.2):=by rfl):PGs X (e::es) (QB t u):=by
 intro pins s σ H vs us Q I r h;obtain⟨v,vr,e1,h⟩:=h;subst e1
 cases r with
 |cons r rr=>rw[hs];refine wa (aW (h1 pins s σ H _ _ _ I r h) λ_ s1 ⟨σ1,H1,I1,q1⟩=>?_);exact h2 pins s1 σ1 H1 _ _ Q I1 rr q1
def QE (K:ar) (n:Nat) (t:mS):TG:=λv σ H Q=>∃a xs,v=.ref a/\SqT K H a xs/\xs.length=n/\t xs σ H Q
theorem QF {es:List bj}{k:Nat}{t:mS}{n:Nat}(hc:X.calm=true) (h:PGs X es t)
  (hn:(assignEach es X.env).length=n:=by rfl) (hst:(assignEach es X.env).findIdx? (·.1)=none:=by rfl):PG X (.Tuple es k pos) (QE X.K n t):=by
 intro pins s σ H v u Q I r hw;obtain⟨a,xs,e1,hq,hl,hw⟩:=hw;subst e1;cases r;obtain⟨its,rv,ht,hz⟩:=I.tuple hq;refine assign_Tuple_tuple (I.ok.hd hc) ht (by simp[hn,<-hl,rv.length]) hst λh' hx=>?_;have I1:Inv X pins σ H { s with heap:=h' }:=I.kept (t':=s.toks) λb o e=>hx b o (bf (av e)) e;exact h pins _ σ H xs _ Q I1 (by simpa using rv) hw
def QG (to ti:TE) (t:AD):TG:=λv σ H Q=>to σ H λo H1=>ti σ H1 λi H2=>t o i v H2 λH3=>Q σ H3
theorem QH {o i:bj}{to ti:TE}{t:AD}(ho:PE X o to) (hi:PE X i ti) (hs:FQ X t)
  (ha:∀v,assign (.Subscript o i pos) X.env v=(do
   let ov <-holding [v] (eval o X.env)
   let iv <-holding [v,ov] (eval i X.env)
   standAt pos
   holding [v,ov,iv] (setItem ov iv v)
   release [v,ov,iv] []):=by intro _;rfl):PG X (.Subscript o i pos) (QG to ti t):=by
 intro pins s σ H v u Q I r h;rw[ha];refine aa (ib (aW (ho pins s σ H _ I h) λov s1 ⟨x,H1,I1,r1,q1⟩=>?_));refine aa (ib (aW (hi pins s1 σ H1 _ I1 q1) λiv s2 ⟨y,H2,I2,r2,q2⟩=>?_));refine aa (si (aa (ib (aW (hs pins s2 σ H2 x y v ov iv u _ I2 r1 r2 r q2) λ_ s3 ⟨H3,I3,q3⟩=>?_))));exact wpAny_release ⟨σ,H3,I3,q3⟩
def AE (te:TE) (g:TG):TS:=λD σ H=>te σ H λx H1=>g x σ H1 D.nx
theorem FT {tg e:bj}{te:TE}{g:TG}(he:PE X e te) (hg:PG X tg g) (hs:swapsWithSole [tg] e pos.line X.env=pure false:=by rfl) (hw:swappedStores [tg] e X.env=pure none:=by rfl)
  (h1:(assignEach [tg] X.env).map (·.2)=[assign tg X.env]:=by rfl):PS X (.Assign [tg] e pos) (AE te g):=by
 intro pins s σ H D I h;refine wpAny_Assign_stores (aW (he pins s σ H _ I h) λv s1 ⟨x,H1,I1,r1,q1⟩=>?_) hs hw;rw[h1];exact aW (hg pins s1 σ H1 x v _ I1 r1 q1) λ_ s2 q=>q
theorem AF {i:Nat}{x:Str}{e:bj}{te:TE}{pos':Pos}(hN:X.N.Nodup) (hi:X.N[i]?=some x) (hx:mR X.env.scope x) (he:PE X e te) (hs:swapsWith e (some (.Name x pos')) pos.line X.env=pure false:=by rfl) (hf:X.fn x=true∨X.env.scope.names.lookup x=some .local:=by first|exact .inl rfl|exact .inr rfl|assumption):
  PS X (.Assign [.Name x pos'] e pos) (AE te (FR i)):=by
 intro pins s σ H D I h;refine wpAny_Assign_Name (aW (he pins s σ H _ I h) λv s1 ⟨y,H1,I1,r1,q1⟩=>?_) hs;exact sG I1 hN hi hx r1 (λs2 I2=>⟨_,H1,I2,q1⟩) hf
def QI (i j:Nat) (ta:TA):TS:=λD σ H=>ta σ H λvs H1=>∃v w,vs=[v,w]/\D.nx ((σ.set i (some v)).set j (some w)) H1
theorem QJ {i j:Nat}{x y:Str}{a b:bj}{ta:TA}{px py pt:Pos}{kt k2 pt2} (hc:X.calm=true) (hN:X.N.Nodup) (hi:X.N[i]?=some x) (hj:X.N[j]?=some y) (hij:i≠j)
  (hx:X.env.scope.names.lookup x=some .local) (hy:X.env.scope.names.lookup y=some .local) (ha:PA X [a,b] ta)
  (hw:swappedStores [.Tuple [.Name x px,.Name y py] kt pt] (.Tuple [a,b] k2 pt2) X.env=pure (some [x,y]))
  (hs:swapsWithSole [.Tuple [.Name x px,.Name y py] kt pt] (.Tuple [a,b] k2 pt2) pos.line X.env=pure false:=by rfl):
  PS X (.Assign [.Tuple [.Name x px,.Name y py] kt pt] (.Tuple [a,b] k2 pt2) pos) (QI i j ta):=by
 intro pins s σ H D I h;rw[exec_Assign_arm];refine aa (si ?_);rw[hs];refine aa (ai ?_);rw[if_neg (by decide)];refine aa (Tuple_ (aW (ha _ pins s σ H _ I h) λus s1 ⟨vs,H1,I1,r1,q1⟩=>?_));obtain⟨v,w,e1,q1⟩:=q1;subst e1;obtain⟨u1,u2,rfl,rv,rw'⟩:∃u1 u2,us=[u1,u2]/\RelV v u1/\RelV w u2:=by
  cases r1 with
  |cons p q=>
   cases q with
   |cons p' q'=>cases q';exact⟨_,_,rfl,p,p'⟩
 refine fj ?_ (by show 2<=bp;decide);have I2:Inv X pins σ H1 { s1 with heap:=s1.heap.push { cls:=.type "tuple",data:=.seq [u1,u2].toArray } }:=I1.kept (t':=s1.toks) λb o e=>aj _ e;rw[hw];refine aa (ai ?_);show wpAny (model X.prog X.w) X.A (do rule "assign.swapped-stores"; let items <-unpackItems (.ref s1.heap.objs.size) 2 none;assignInOrder [λv=>bindName X.env y v,λv=>bindName X.env x v] items.reverse;pure Flow.next) _ _ _;refine aa (qu (aa (unpackItems_tuple (items:=#[u1,u2]) (I.ok.hd hc) (IsTup.new s1.heap _) λh' hx'=>?_)));have I3:=I2.kept (h':=h') (t':=s1.toks) λb o e=>hx' b o (bf (av e)) e;show wpAny _ _ (assignInOrder [λv=>bindName X.env y v,λv=>bindName X.env x v] [u2,u1] >>= λ_=>pure Flow.next) _ _ _;refine aa (wa (wpAny_bindName (sG I3 hN hj (.inl hy) rw' (λs2 I4=>?_) (.inr hy))));refine wa (wpAny_bindName (sG I4 hN hi (.inl hx) rv (λs3 I5=>assignInOrder_nil (ai ?_)) (.inr hx)));rw[List.set_comm _ _ (de hij)]at I5;exact⟨_,H1,I5,q1⟩
end
section
variable{X:Cx}{pos:Pos}
def QK (c:TT) (tb:TS):TS:=λD σ H=>∃W:Nat->St->Hp->Prop,(∃m,W m σ H)/\∀m σ H,W m σ H->
 c σ H λb H1=>if b=true then ∃N:St->Hp->Prop,(∀σ' H',N σ' H'->∃m',m'<m/\W m' σ' H')/\tb { D with nx:=N,ct:=N,bk:=D.nx } σ H1 else D.nx σ H1
theorem QL {c:bj}{body:List ig}{tc:TT}{tb:TS}(hp:yj (model X.prog X.w) X.A X.env X.xe) (hc:PT X c tc) (hb:PSs X body tb):PS X (.While c body [] pos) (QK tc tb):=by
 intro pins s σ H D I h;obtain⟨W,⟨m0,w0⟩,turn⟩:=h;refine wpAny_While (codeAny_whileLoop (λn s'=>∃σ' H',Inv X pins σ' H' s'/\W n σ' H') ?_ m0 ⟨σ,H,I,w0⟩)
 rintro n s1 ⟨σ1,H1,I1,w1⟩
 refine kr hp (aW (hc pins s1 σ1 H1 _ I1 (turn n σ1 H1 w1)) λb s2 ⟨H2,I2,q2⟩=>?_)
 cases b with
 |true=>
  obtain⟨N,hN,q2⟩:=q2;rw[if_pos rfl];refine kr hp (aW (hb pins s2 σ1 H2 _ I2 q2) λf s3 q3=>?_)
  cases f with
  |next=>obtain⟨σ3,H3,I3,n3⟩:=q3;obtain⟨m',hm,w3⟩:=hN σ3 H3 n3;exact⟨m',hm,σ3,H3,I3,w3⟩
  |cont=>obtain⟨σ3,H3,I3,n3⟩:=q3;obtain⟨m',hm,w3⟩:=hN σ3 H3 n3;exact⟨m',hm,σ3,H3,I3,w3⟩
  |brk=>exact q3
  |ret v=>exact q3
 |false=>rw[if_neg ik];exact mf ⟨σ1,H2,I2,q2⟩
end
structure It where
 go:Nat->Hp->Prop
 yld:Nat->Hp->V->Hp->Prop
 stop:Nat->Hp->Prop
def cX (X:Cx) (pins:List (ah×Obj)) (H:Hp) (b:ah):Prop:=H b=none/\b≠X.env.locals/\b∉X.fs/\(b∈X.ex∨X.s₀.heap.objs.size<=b)/\(∀x c,X.env.cells.lookup x=some c->c≠b)/\∀p∈X.pn++pins,p.1≠b
theorem Inv.fpOk {X:Cx}{pins:List (ah×Obj)}{σ:St}{H H':Hp}{s:ag}{b:ah}(I:Inv X pins σ H s) (hb:s.heap.objs.size<=b) (hn:H' b=none):cX X pins H' b:=by
 refine⟨hn,jw (aw I.lt hb),I.nofs hb,.inr (du I.sz hb),λx c e z=>?_,λp hp z=>?_⟩
 ·obtain⟨v,q⟩:=I.cell x c e;exact absurd (aw q.lt (by rw[z];exact hb)) (gh _)
 ·exact absurd (aw (av (I.pin p hp).1) (by rw[z];exact hb)) (gh _)
structure Turn (P:bg) (w:cq) (K:ar) (tg:bj) (J:It) (fp:List ah) (it:ah) (tn:Nat->cx->Prop):Prop where
 mem:it∈fp
 obj:∀i h,tn i h->∀b∈fp,∃o,h.get? b=some o/\∀v,o.data≠.cell v
 keep:∀i h h',tn i h->(∀b∈fp,∀o,h.get? b=some o->h'.get? b=some o)->tn i h'
 item:∀(X:Cx),X.prog=P->X.w=w->X.K=K->X.calm=true->∀(i:Nat) (pins:List (ah×Obj)) (s:ag) (σ:St) (H:Hp) (E:af->ag->Prop),Inv X pins σ H s->(∀b∈fp,cX X pins H b)->tn i s.heap->J.go i H->
  wpAny (model P w) X.A (pyNext (.ref it)) (λr s1=>∃u,r=some u /\
   wpAny (model P w) X.A (letOwnedTupleGo tg (.ref it) u) (λ_ s2=>∃x H',Inv X pins σ H' s2/\RelV x u/\J.yld i H x H'/\tn (i+1) s2.heap/\∀b∈fp,H' b=none) E s1) E s
 done:∀(X:Cx),X.prog=P->X.w=w->X.K=K->X.calm=true->∀(i:Nat) (pins:List (ah×Obj)) (s:ag) (σ:St) (H:Hp) (E:af->ag->Prop),Inv X pins σ H s->(∀b∈fp,cX X pins H b)->tn i s.heap->J.stop i H->
  wpAny (model P w) X.A (pyNext (.ref it)) (λr s1=>r=none/\Inv X pins σ H s1) E s
 self:∀(A:cn) (i:Nat) (s:ag) (Q:af->ag->Prop) (E:af->ag->Prop),tn i s.heap->Q (.ref it) s->wpAny (model P w) A (pyIter (.ref it)) Q E s
abbrev TI:=St->Hp->(It->Hp->Prop)->Prop
def FU (X:Cx) (pins:List (ah×Obj)) (σ:St) (tg:bj) (R:It->Hp->Prop) (itv:af) (s2:ag):Prop:=∃(it:ah) (fp:List ah) (tn:Nat->cx->Prop) (J:It) (H':Hp),itv=.ref it/\Inv X pins σ H' s2/\Turn X.prog X.w X.K tg J fp it tn/\tn 0 s2.heap/\(∀b∈fp,cX X pins H' b)/\R J H'
def PI (X:Cx) (tg iter:bj) (wi:TI):Prop:=
 ∀(pins:List (ah×Obj)) (s:ag) (σ:St) (H:Hp) (R:It->Hp->Prop),Inv X pins σ H s->wi σ H R->
  wpAny (model X.prog X.w) X.A (eval iter X.env) (λv s1=>wpAny (model X.prog X.w) X.A (pyIter v) (FU X pins σ tg R) X.xe s1) X.xe s
theorem vG {M:wk}{A:cn}{E:af->ag->Prop}{s:ag}{tg:bj}{it:ah}{u:af}{o:Obj}{n:String}{vs:Array af}{Q:Unit->ag->Prop}(ho:s.heap.get? it=some o) (hc:o.cls=.type n) (hd:o.data=.fields vs)
  (hn:["enumerate","zip","dict_itemiterator","dict_reverseitemiterator","odict_iterator","itertools.zip_longest","itertools.pairwise"].contains n=false) (hQ:Q () s):wpAny M A (letOwnedTupleGo tg (.ref it) u) Q E s:=by
 unfold letOwnedTupleGo
 cases tg <;> first
  |exact ai hQ
  |(cases u <;> first
    |exact ai hQ
    |(refine aa (wpAny_load ho ?_);rw[hc,hd];show wpAny M A (if(["enumerate","zip","dict_itemiterator","dict_reverseitemiterator","odict_iterator","itertools.zip_longest","itertools.pairwise"].contains n&&vs[0]?==some (rawInt _))=true then _ else _) Q E s;rw[if_neg (by intro h;rw[hn,Bool.false_and]at h;cases h)];exact ai hQ))
def FV (K:ar) (a:ah):It:=⟨λi H=>∃xs x,SqL K H a xs/\xs[i]?=some x,λi H x H'=>H'=H/\∀xs,SqL K H a xs->xs[i]?=some x,λi H=>∃xs,SqL K H a xs/\xs.length<=i⟩
def AG (K:ar) (a:ah):It:=⟨λi H=>∃xs x,SqT K H a xs/\xs[i]?=some x,λi H x H'=>H'=H/\∀xs,SqT K H a xs->xs[i]?=some x,λi H=>∃xs,SqT K H a xs/\xs.length<=i⟩
def sJ (lo:Int) (n:Nat):It:=⟨λi _=>i<n,λi H x H'=>H'=H/\x=.int (lo+i),λi _=>n<=i⟩
theorem QM {P:bg}{w:cq}{K:ar}{tg:bj}(a it:ah):Turn P w K tg (FV K a) [it] it (λi h=>h.IsListIter it a i) where
 mem:=by simp
 obj:=λi h st b hb=>by
  have e:b=it:=by simpa using hb
  subst e;obtain⟨o,e,c,d⟩:=st;exact⟨o,e,λv z=>by rw[d]at z;cases z⟩
 keep:=λi h h' st k=>st.at λo e=>k it (by simp) o e
 item:=by intro X hP hw hK hc i pins s σ H E I hf st hg;subst hP hw hK;obtain⟨xs,x,hq,hx⟩:=hg;obtain⟨its,rv,p,hz⟩:=I.list hq;obtain⟨u,hu,ru⟩:=rv.get hx;obtain⟨f0,f1,f2,f3,f4,f5⟩:=hf it (by simp);refine wpAny_pyNext_list_item st p.isList (x:=u) (by simpa using hu) λh' st' sb=>?_;have I1:Inv X pins σ H { s with heap:=h' }:=I.turned (t':=s.toks) (λb o hb e=>(sb.2 b hb).trans e) f0 f1 f3 f4 f5;obtain⟨o,e,c,d⟩:=id st';exact⟨u,rfl,vG (s:={ s with heap:=h' }) e c d (by decide) ⟨x,H,I1,ru,⟨rfl,λys hy=>by rw[I.list_inj hy hq];exact hx⟩,st',λb hb=>(hf b hb).1⟩⟩
 done:=by intro X hP hw hK hc i pins s σ H E I hf st hg;subst hP hw hK;obtain⟨xs,hq,hx⟩:=hg;obtain⟨its,rv,p,hz⟩:=I.list hq;obtain⟨f0,f1,f2,f3,f4,f5⟩:=hf it (by simp);have hl:=rv.length;exact wpAny_pyNext_list_end (I.ok.hd hc) st p.isList (by simp;omega) λh' eb=>⟨rfl,I.turned (t':=s.toks) (λb o hb e=>eb b o hb e) f0 f1 f3 f4 f5⟩
 self:=λ_ _ _ _ _ st h=>wpAny_pyIter_listiter st h
theorem QN {P:bg}{w:cq}{K:ar}{tg:bj}(a it:ah):Turn P w K tg (AG K a) [it] it (λi h=>h.IsTupleIter it a i) where
 mem:=by simp
 obj:=λi h st b hb=>by
  have e:b=it:=by simpa using hb
  subst e;obtain⟨o,e,c,d⟩:=st;exact⟨o,e,λv z=>by rw[d]at z;cases z⟩
 keep:=λi h h' st k=>st.at λo e=>k it (by simp) o e
 item:=by intro X hP hw hK hc i pins s σ H E I hf st hg;subst hP hw hK;obtain⟨xs,x,hq,hx⟩:=hg;obtain⟨its,rv,p,hz⟩:=I.tuple hq;obtain⟨u,hu,ru⟩:=rv.get hx;obtain⟨f0,f1,f2,f3,f4,f5⟩:=hf it (by simp);refine wpAny_pyNext_tuple_item st (show s.heap.IsTuple a its.toArray from p) (x:=u) (by simpa using hu) λh' st' sb=>?_;have I1:Inv X pins σ H { s with heap:=h' }:=I.turned (t':=s.toks) (λb o hb e=>(sb.2 b hb).trans e) f0 f1 f3 f4 f5;obtain⟨o,e,c,d⟩:=id st';exact⟨u,rfl,vG (s:={ s with heap:=h' }) e c d (by decide) ⟨x,H,I1,ru,⟨rfl,λys hy=>by rw[I.tuple_inj hy hq];exact hx⟩,st',λb hb=>(hf b hb).1⟩⟩
 done:=by intro X hP hw hK hc i pins s σ H E I hf st hg;subst hP hw hK;obtain⟨xs,hq,hx⟩:=hg;obtain⟨its,rv,p,hz⟩:=I.tuple hq;obtain⟨f0,f1,f2,f3,f4,f5⟩:=hf it (by simp);have hl:=rv.length;exact wpAny_pyNext_tuple_end (I.ok.hd hc) st (show s.heap.IsTuple a its.toArray from p) (by simp;omega) λh' eb=>⟨rfl,I.turned (t':=s.toks) (λb o hb e=>eb b o hb e) f0 f1 f3 f4 f5⟩
 self:=λ_ _ _ _ _ st h=>wpAny_pyIter_tupleiter st h
theorem QO {P:bg}{w:cq}{K:ar}{tg:bj}(it:ah) (lo:Int) (n:Nat):Turn P w K tg (sJ lo n) [it] it (λi h=>zr h it (lo+(i:Nat)*1) ((n:Int) - (i:Nat)) 1) where
 mem:=by simp
 obj:=λi h st b hb=>by
  have e:b=it:=by simpa using hb
  subst e;exact⟨_,st,λv z=>by
   have z':Bi _=Data.cell v:=z
   cases z'⟩
 keep:=λi h h' st k=>k it (by simp) _ st
 item:=by intro X hP hw hK hc i pins s σ H E I hf st hg;subst hP hw hK;obtain⟨f0,f1,f2,f3,f4,f5⟩:=hf it (by simp);have W:=Walks.range (prog:=X.prog) (w:=X.w) (I.ok.hd hc) it lo 1 n;refine W.item i s _ _ hg st λv h' tk hv st' kk=>?_;obtain⟨t,rfl⟩:=hv;have I1:Inv X pins σ H { s with heap:=h',toks:=tk }:=I.turned (λb o hb e=>kk b o (by simpa using hb) e) f0 f1 f3 f4 f5;refine⟨_,rfl,vG (s:={ s with heap:=h',toks:=tk }) (n := "range_iterator") st' rfl rfl (by decide) ⟨.int (lo+i),H,I1,⟨t, ?_⟩,⟨rfl,rfl⟩,st',λb hb=>(hf b hb).1⟩⟩;rw[Int.mul_one]
 done:=by intro X hP hw hK hc i pins s σ H E I hf st hg;subst hP hw hK;obtain⟨f0,f1,f2,f3,f4,f5⟩:=hf it (by simp);exact wpAny_pyNext_range_end (I.ok.hd hc) st (by have:n<=i:=hg;omega) λh' eb=>⟨rfl,I.turned (t':=s.toks) (λb o hb e=>eb b o hb e) f0 f1 f3 f4 f5⟩
 self:=λ_ _ _ _ _ st h=>wpAny_pyIter_rangeiter st h
section
variable{X:Cx}{tg:bj}
def QP (K:ar) (tl:TE):TI:=λσ H R=>tl σ H λx H1=>∃a,x=.ref a/\(∃xs,SqL K H1 a xs)/\R (FV K a) H1
def QQ (K:ar) (tl:TE):TI:=λσ H R=>tl σ H λx H1=>∃a,x=.ref a/\(∃xs,SqT K H1 a xs)/\R (AG K a) H1
theorem QR {l:bj}{tl:TE}(hl:PE X l tl):PI X tg l (QP X.K tl):=by
 intro pins s σ H R I h;refine aW (hl pins s σ H _ I h) λv s1 ⟨x,H1,I1,r1,q1⟩=>?_;obtain⟨a,e,⟨xs,hq⟩,q⟩:=q1;subst e;cases r1;obtain⟨its,rv,p,hz⟩:=I1.list hq;refine rz p.isList ?_;refine⟨s1.heap.objs.size,[s1.heap.objs.size],_,_,H1,rfl,I1.kept (t':=s1.toks) λb o e=>aj _ e,QM a _,⟨_,az _ rfl,rfl,rfl⟩,λb hb=>?_,q⟩;have e:b=s1.heap.objs.size:=by simpa using hb
 subst e;exact I1.fpOk (ak _) (I1.hok.fresh (ak _))
theorem QS {l:bj}{tl:TE}(hl:PE X l tl):PI X tg l (QQ X.K tl):=by
 intro pins s σ H R I h;refine aW (hl pins s σ H _ I h) λv s1 ⟨x,H1,I1,r1,q1⟩=>?_;obtain⟨a,e,⟨xs,hq⟩,q⟩:=q1;subst e;cases r1;obtain⟨its,rv,p,hz⟩:=I1.tuple hq;refine kj (show s1.heap.IsTuple a its.toArray from p) ?_;refine⟨s1.heap.objs.size,[s1.heap.objs.size],_,_,H1,rfl,I1.kept (t':=s1.toks) λb o e=>aj _ e,QN a _,⟨_,az _ rfl,rfl,rfl⟩,λb hb=>?_,q⟩;have e:b=s1.heap.objs.size:=by simpa using hb
 subst e;exact I1.fpOk (ak _) (I1.hok.fresh (ak _))
theorem FW {pins:List (ah×Obj)}{σ:St}{H:Hp}{s:ag}{R:It->Hp->Prop}{E:af->ag->Prop}{lo hi:Int}{t u v:Tok}{tk:Nat}(I:Inv X pins σ H s) (h1 : -(2 ^ 62)<=lo) (h2:lo<2 ^ 62) (h3 : -(2 ^ 62)<=hi) (h4:hi<2 ^ 62)
  (q:R (sJ lo (hi - lo).toNat) H):wpAny (model X.prog X.w) X.A (pyIter (.ref s.heap.objs.size)) (FU X pins σ tg R) E { s with heap:=s.heap.push { cls:=.type "range",data:=.fields #[.int lo t,.int hi u,.int 1 v] },toks:=tk }:=by
 refine wpAny_pyIter_range (IsRange.new ..) (small_one h1 h2 h3 h4) ?_;have I1:Inv X pins σ H { s with heap:=s.heap.push { cls:=.type "range",data:=.fields #[.int lo t,.int hi u,.int 1 v] },toks:=tk }:=I.kept λb o e=>aj _ e;refine⟨(s.heap.push { cls:=.type "range",data:=.fields #[.int lo t,.int hi u,.int 1 v] }).objs.size,[(s.heap.push { cls:=.type "range",data:=.fields #[.int lo t,.int hi u,.int 1 v] }).objs.size],_,_,H,rfl,
  I1.kept (t':=tk) λb o e=>aj _ e,QO _ lo (hi - lo).toNat, ?_,λb hb=>?_,q⟩
 ·have e1:lo+((0:Nat):Int)*1=lo:=by simp
  have e2:(((hi - lo).toNat:Nat):Int) - ((0:Nat):Int)=da lo hi 1:=by rw[rangeSize_one];split <;> omega
  show zr _ _ (lo+((0:Nat):Int)*1) ((((hi - lo).toNat:Nat):Int) - ((0:Nat):Int)) 1;rw[e1,e2];exact az _ rfl
 ·have e:b=(s.heap.push { cls:=.type "range",data:=.fields #[.int lo t,.int hi u,.int 1 v] }).objs.size:=by simpa using hb
  subst e;exact I1.fpOk (ak _) (I1.hok.fresh (ak _))
def QT (ta:TA):TI:=λσ H R=>ta σ H λvs H1=>∃j:Int,vs=[.int j]/\-(2 ^ 62)<=j/\j<2 ^ 62/\R (sJ 0 j.toNat) H1
def QU (ta:TA):TI:=λσ H R=>ta σ H λvs H1=>∃i j:Int,vs=[.int i,.int j]/\(-(2 ^ 62)<=i/\i<2 ^ 62/\-(2 ^ 62)<=j/\j<2 ^ 62)/\R (sJ i (j - i).toNat) H1
theorem QV {a:bj}{ta:TA}{p pos:Pos}(hg:Gl X "range") (hm:X.mg "range" = none) (ha:PA X [a] ta) (hs:ao [a] X.env=[(false,eval a X.env)]:=by rfl):PI X tg (.Call (.Name "range" p) [a] [] pos) (QT ta):=by
 intro pins s σ H R I h;refine Call_ (pO I hg hm Aq (jb (aW (ha pos pins s σ H _ I h) λus s1 ⟨vs,H1,I1,r1,q1⟩=>?_) hs rfl));obtain⟨j,e,q1,q2,q⟩:=q1;subst e
 cases r1 with
 |cons r rr=>cases rr;obtain⟨t,rfl⟩:=r;exact call_range_1 (FW I1 (by omega) (by omega) q1 q2 (by simpa using q))
theorem QW {a b:bj}{ta:TA}{p pos:Pos}(hg:Gl X "range") (hm:X.mg "range" = none) (ha:PA X [a,b] ta) (hs:ao [a,b] X.env=[(false,eval a X.env),(false,eval b X.env)]:=by rfl) (hs2:ao [b] X.env=[(false,eval b X.env)]:=by rfl):
  PI X tg (.Call (.Name "range" p) [a,b] [] pos) (QU ta):=by
 intro pins s σ H R I h;refine Call_ (pO I hg hm Aq (jb (aW (ha pos pins s σ H _ I h) λus s1 ⟨vs,H1,I1,r1,q1⟩=>?_) (by rw[hs,hs2]) (by rw[hs2];rfl)));obtain⟨i,j,e,⟨q1,q2,q3,q4⟩,q⟩:=q1;subst e
 cases r1 with
 |cons r rr=>
  cases rr with
  |cons r' rr=>cases rr;obtain⟨t,rfl⟩:=r;obtain⟨t',rfl⟩:=r';exact call_range_2 (FW I1 q1 q2 q3 q4 q)
def QX (wi:TI) (g:TG) (tb:TS):TS:=λD σ H=>wi σ H λJ H1=>∃W:Nat->Nat->St->Hp->Prop,(∃m,W 0 m σ H1)/\∀i m σ H,W i m σ H->
 (J.stop i H/\D.nx σ H)∨(J.go i H/\∃N:St->Hp->Prop,(∀σ' H',N σ' H'->∃m',m'<m/\W (i+1) m' σ' H')/\∀x H',J.yld i H x H'->g x σ H' λσ2 H2=>tb { D with nx:=N,ct:=N,bk:=D.nx } σ2 H2)
def jP (fp:List ah) (h:cx):List (ah×Obj):=fp.filterMap λb=>(h.get? b).map λo=>(b,o)
theorem qQ {fp:List ah}{h:cx}{b:ah}{o:Obj}(hb:b∈fp) (e:h.get? b=some o):(b,o)∈jP fp h:=gz.mpr ⟨b,hb,by rw[e];rfl⟩
theorem AH {fp:List ah}{h:cx}{p:ah×Obj}(hp:p∈jP fp h):p.1∈fp/\h.get? p.1=some p.2:=by
 obtain⟨b,hb,e⟩:=gz.mp hp
 cases q:h.get? b with
 |none=>rw[q]at e;cases e
 |some o=>rw[q]at e;have e':(b,o)=p:=cg e;subst e';exact⟨hb,q⟩
theorem Inv.pinned {pins:List (ah×Obj)}{σ:St}{H:Hp}{s:ag}{fp:List ah}(I:Inv X pins σ H s) (hf:∀b∈fp,cX X pins H b) (ho:∀b∈fp,∃o,s.heap.get? b=some o/\∀v,o.data≠.cell v):Inv X (pins++jP fp s.heap) σ H s:=I.pins_of λp hp=>(fw.mp hp).elim (λz=>I.pin p (ck _ z)) λz=>by obtain⟨hb,e⟩:=AH z;obtain⟨f0,f1,f2,_⟩:=hf p.1 hb;obtain⟨o,e',d⟩:=ho p.1 hb;rw[e]at e';cases e';exact⟨e,f0,f1,f2,d⟩
theorem Inv.unpinned {pins pl:List (ah×Obj)}{σ:St}{H:Hp}{s:ag}(I:Inv X (pins++pl) σ H s):Inv X pins σ H s:=I.pins_of λp hp=>I.pin p (ck _ (ju _ hp))
theorem QY {iter:bj}{body:List ig}{wi:TI}{g:TG}{tb:TS}{pos:Pos}(hp:yj (model X.prog X.w) X.A X.env X.xe) (hc:X.calm=true) (hi:PI X tg iter wi) (hg:PG X tg g) (hb:PSs X body tb)
  (hs:∀x,foldedSetIterable iter X.env x=pure x:=by intro _;rfl):PS X (.For tg iter body [] pos) (QX wi g tb):=by
 intro pins s σ H D I h;refine wpAny_For (aW (hi pins s σ H _ I h) λv s1 h1=>aW h1 λitv s2 h2=>?_) hs;obtain⟨it,fp,tn,J,H2,e,I2,T,st2,f2,W,⟨m0,w0⟩,turn⟩:=h2;subst e;have stat:∀{H':Hp},(∀b∈fp,H' b=none)->∀b∈fp,cX X pins H' b:=λhn b hb=>⟨hn b hb,(f2 b hb).2⟩
 refine codeAny_forLoop_any (λn s'=>∃i σ' H',Inv X pins σ' H' s'/\tn i s'.heap/\(∀b∈fp,H' b=none)/\W i n σ' H') ?_ m0 ⟨0,σ,H2,I2,st2,λb hb=>(f2 b hb).1,w0⟩
 rintro n s3 ⟨i,σ3,H3,I3,st3,fr3,w3⟩
 rcases turn i n σ3 H3 w3 with⟨stop,qn⟩|⟨go,N,hN,step⟩
 ·refine kr hp (aW (T.done X rfl rfl rfl hc i pins s3 σ3 H3 X.xe I3 (stat fr3) st3 stop) λr s4 ⟨hr,I4⟩=>?_);subst hr;exact mf ⟨σ3,H3,I4,qn⟩
 ·refine kr hp (aW (T.item X rfl rfl rfl hc i pins s3 σ3 H3 X.xe I3 (stat fr3) st3 go) λr s4 ⟨u,hr,h4⟩=>?_);subst hr;refine kr hp (aW h4 λ_ s5 ⟨x,H5,I5,r5,y5,st5,fr5⟩=>?_);have I5':=I5.pinned (stat fr5) (T.obj _ _ st5);refine kr hp (aW (hg _ s5 σ3 H5 x u _ I5' r5 (step x H5 y5)) λ_ s6 ⟨σ6,H6,I6,q6⟩=>?_);refine kr hp (aW (hb _ s6 σ6 H6 _ I6 q6) λf s7 q7=>?_);have again:∀{σ7:St}{H7:Hp},Inv X (pins++jP fp s5.heap) σ7 H7 s7->N σ7 H7->∃m,m<n/\∃i σ' H',Inv X pins σ' H' s7/\tn i s7.heap/\(∀b∈fp,H' b=none)/\W i m σ' H':=λ{σ7 H7} I7 n7=>by obtain⟨m',hm,w7⟩:=hN σ7 H7 n7;refine⟨m',hm,i+1,σ7,H7,I7.unpinned,T.keep _ _ _ st5 λb hb o e=>(I7.pin (b,o) (ck _ (ck _ (qQ hb e)))).1,λb hb=>?_,w7⟩;obtain⟨o,e,d⟩:=T.obj _ _ st5 b hb;exact(I7.pin (b,o) (ck _ (ck _ (qQ hb e)))).2.1
  cases f with
  |next=>obtain⟨σ7,H7,I7,n7⟩:=q7;exact again I7 n7
  |cont=>obtain⟨σ7,H7,I7,n7⟩:=q7;exact again I7 n7
  |brk=>obtain⟨σ7,H7,I7,q7⟩:=q7;exact⟨σ7,H7,I7.unpinned,q7⟩
  |ret v=>obtain⟨x7,σ7,H7,I7,r7,q7⟩:=q7;exact⟨x7,σ7,H7,I7.unpinned,r7,q7⟩
end
abbrev R2:=V->V->Hp->VK->Prop
def OpR (X:Cx) (f:af->af->Sem af) (r:R2):Prop:=
 ∀(pins:List (ah×Obj)) (s:ag) (σ:St) (H:Hp) (x y:V) (v u:af) (Q:VK),Inv X pins σ H s->RelV x v->RelV y u->r x y H Q->
  wpAny (model X.prog X.w) X.A (f v u) (EP X pins σ Q) X.xe s
def vH (X:Cx) (f:af->Sem af) (r:V->Hp->VK->Prop):Prop:=
 ∀(pins:List (ah×Obj)) (s:ag) (σ:St) (H:Hp) (x:V) (v:af) (Q:VK),Inv X pins σ H s->RelV x v->r x H Q->
  wpAny (model X.prog X.w) X.A (f v) (EP X pins σ Q) X.xe s
def CallR (X:Cx) (f:af) (r:List V->Hp->VK->Prop):Prop:=
 ∀(pins:List (ah×Obj)) (s:ag) (σ:St) (H:Hp) (xs:List V) (us:List af) (Q:VK),Inv X pins σ H s->Vals xs us->r xs H Q->
  wpAny (model X.prog X.w) X.A (call f us) (EP X pins σ Q) X.xe s
def QZ (X:Cx) (r:V->Hp->(Bool->Hp->Prop)->Prop):Prop:=
 ∀(pins:List (ah×Obj)) (s:ag) (σ:St) (H:Hp) (x:V) (v:af) (Q:Bool->Hp->Prop),Inv X pins σ H s->RelV x v->r x H Q->
  wpAny (model X.prog X.w) X.A (truthy v) (TP X pins σ Q) X.xe s
def sL (r:R2) (ta tb:TE):TE:=λσ H Q=>ta σ H λx H1=>tb σ H1 λy H2=>r x y H2 Q
def Q0 (r:V->Hp->VK->Prop) (ta:TE):TE:=λσ H Q=>ta σ H λx H1=>r x H1 Q
def rI (C:Int->Int->Prop) (g:Int->Int->V):R2:=λx y H Q=>∃i j,x=.int i/\y=.int j/\C i j/\Q (g i j) H
def jQ (g:Int->Int->V):R2:=λx y H Q=>∃i j,x=.int i/\y=.int j/\Q (g i j) H
def rU (g:Int->V):V->Hp->VK->Prop:=λx H Q=>∃i,x=.int i/\Q (g i) H
section
variable{X:Cx}{a b c:bj}{ta tb tc:TE}{pos:Pos}
theorem AI (ha:PE X a ta) (hb:PE X b tb) {pins:List (ah×Obj)}{s:ag}{σ:St}{H:Hp}{R:V->V->Hp->Prop}(I:Inv X pins σ H s)
  (h:ta σ H λx H1=>tb σ H1 λy H2=>R x y H2) {Q:af->ag->Prop}{f:af->af->Sem af}
  (hf:∀v u s2 x y H2,Inv X pins σ H2 s2->RelV x v->RelV y u->R x y H2->wpAny (model X.prog X.w) X.A (f v u) Q X.xe s2):
  wpAny (model X.prog X.w) X.A (eval a X.env) (λv s₁=>wpAny (model X.prog X.w) X.A (eval b X.env) (λu s₂=>wpAny (model X.prog X.w) X.A (f v u) Q X.xe s₂) X.xe s₁) X.xe s:=by
 refine aW (ha pins s σ H _ I h) λv s1 ⟨x,H1,I1,r1,q1⟩=>?_;refine aW (hb pins s1 σ H1 _ I1 q1) λu s2 ⟨y,H2,I2,r2,q2⟩=>?_;exact hf v u s2 x y H2 I2 r1 r2 q2
theorem Q2 {op:Operator}{r:R2}(ho:OpR X (binaryOp op) r) (ha:PE X a ta) (hb:PE X b tb):PE X (.BinOp a op b pos) (sL r ta tb):=by intro pins s σ H Q I h;exact wpAny_BinOp (AI ha hb I h λv u s2 x y H2 I2 rx ry q=>ho pins s2 σ H2 x y v u Q I2 rx ry q)
theorem Q3 {op:UnaryOp}{r:V->Hp->VK->Prop}(ho:vH X (unaryOp op) r) (ha:PE X a ta):PE X (.UnaryOp op a pos) (Q0 r ta):=by intro pins s σ H Q I h;exact UnaryOp_ (aW (ha pins s σ H _ I h) λv s1 ⟨x,H1,I1,r1,q1⟩=>ho pins s1 σ H1 x v Q I1 r1 q1)
theorem vI {f:af->af->Sem af}{C:Int->Int->Prop}{g:Int->Int->Int}
  (rule:∀(i j:Int) (t u:Tok) (s:ag) (Q:af->ag->Prop) (E:af->ag->Prop),C i j->Q (.int (g i j) s.toks) { s with toks:=s.toks+1 }->wpAny (model X.prog X.w) X.A (f (.int i t) (.int j u)) Q E s):
  OpR X f (rI C λi j=>.int (g i j)):=by
 intro pins s σ H x y v u Q I rx ry h;obtain⟨i,j,rfl,rfl,hc,q⟩:=h;obtain⟨t,rfl⟩:=rx;obtain⟨t',rfl⟩:=ry;exact rule i j t t' s _ _ hc ⟨.int (g i j),H,I.tok _,⟨_,rfl⟩,q⟩
theorem FX {f:af->af->Sem af}{g:Int->Int->Int}
  (rule:∀(i j:Int) (t u:Tok) (s:ag) (Q:af->ag->Prop) (E:af->ag->Prop),Q (.int (g i j) s.toks) { s with toks:=s.toks+1 }->wpAny (model X.prog X.w) X.A (f (.int i t) (.int j u)) Q E s):
  OpR X f (jQ λi j=>.int (g i j)):=by
 intro pins s σ H x y v u Q I rx ry h;obtain⟨i,j,rfl,rfl,q⟩:=h;obtain⟨t,rfl⟩:=rx;obtain⟨t',rfl⟩:=ry;exact rule i j t t' s _ _ ⟨.int (g i j),H,I.tok _,⟨_,rfl⟩,q⟩
theorem vJ {f:af->af->Sem af}{g:Int->Int->Bool}
  (rule:∀(i j:Int) (t u:Tok) (s:ag) (Q:af->ag->Prop) (E:af->ag->Prop),Q (.bool (g i j)) s->wpAny (model X.prog X.w) X.A (f (.int i t) (.int j u)) Q E s):
  OpR X f (jQ λi j=>.bl (g i j)):=by
 intro pins s σ H x y v u Q I rx ry h;obtain⟨i,j,rfl,rfl,q⟩:=h;obtain⟨t,rfl⟩:=rx;obtain⟨t',rfl⟩:=ry;exact rule i j t t' s _ _ ⟨.bl (g i j),H,I,rfl,q⟩
def AJ (i j:Int):Prop:=0<=j/\j<=1000000/\i.natAbs<2 ^ 64
def CMul (i j:Int):Prop:=(-(2 ^ 64)<i/\i<2 ^ 64)∨(-(2 ^ 64)<j/\j<2 ^ 64)
theorem CMul.ok {i j:Int}(h:CMul i j):IntMulOk i j:=by
 rcases h with⟨h1,h2⟩|⟨h1,h2⟩
 ·exact .of_left (intBits_le_64 h1 h2)
 ·exact .of_right (intBits_le_64 h1 h2)
theorem op_add:OpR X (binaryOp .Add) (jQ λi j=>.int (i+j)):=FX λ_ _ _ _ _ _ _ q=>add_int q
theorem Q4:OpR X (binaryOp .Sub) (jQ λi j=>.int (i - j)):=FX λ_ _ _ _ _ _ _ q=>sub_int q
theorem Q5:OpR X (binaryOp .Mult) (rI CMul λi j=>.int (i*j)):=vI λ_ _ _ _ _ _ _ hc q=>mul_int q hc.ok
theorem Q6:OpR X (binaryOp .Mod) (rI (λ_ j=>0<j) λi j=>.int (i % j)):=vI λi j _ _ _ _ _ hc q=>by have h1:(0:Int)<j:=hc;exact mod_int' (by omega) (by rw[Int.fmod_eq_emod_of_nonneg i (by omega)];exact q)
theorem Q7:OpR X (binaryOp .Pow) (rI AJ λi j=>.int (i ^ j.toNat)):=vI λ_ _ _ _ _ _ _ hc q=>pow_int_small hc.1 hc.2.1 hc.2.2 q
theorem Q8 {f:af->Sem af}{g:Int->Int}
  (rule:∀(i:Int) (t:Tok) (s:ag) (Q:af->ag->Prop) (E:af->ag->Prop),Q (.int (g i) s.toks) { s with toks:=s.toks+1 }->wpAny (model X.prog X.w) X.A (f (.int i t)) Q E s):
  vH X f (rU λi=>.int (g i)):=by
 intro pins s σ H x v Q I rx h;obtain⟨i,rfl,q⟩:=h;obtain⟨t,rfl⟩:=rx;exact rule i t s _ _ ⟨.int (g i),H,I.tok _,⟨_,rfl⟩,q⟩
theorem Q9:vH X (unaryOp .USub) (rU λi=>.int (-i)):=Q8 λ_ _ _ _ _ q=>neg_int q
end
section
variable{X:Cx}{a b c:bj}{ta tb tc:TE}{pos:Pos}
theorem FY {pins:List (ah×Obj)}{σ:St}{H:Hp}{s:ag}{Q:VK}{k k':Bool}(I:Inv X pins σ H s) (q:Q (.bl k) H) (e:k=k'):EP X pins σ Q (.bool k') s:=by subst e;exact⟨.bl k,H,I,rfl,q⟩
theorem FZ:OpR X (compareOp .Lt) (jQ λi j=>.bl (decide (i<j))):=vJ λ_ _ _ _ _ _ _ q=>lt_int q
theorem vK:OpR X (compareOp .LtE) (jQ λi j=>.bl (decide (i<=j))):=vJ λ_ _ _ _ _ _ _ q=>le_int q
theorem RA:OpR X (compareOp .Gt) (jQ λi j=>.bl (decide (j<i))):=vJ λ_ _ _ _ _ _ _ q=>gt_int q
theorem RC:OpR X (compareOp .GtE) (jQ λi j=>.bl (decide (j<=i))):=vJ λ_ _ _ _ _ _ _ q=>ge_int q
theorem RD:OpR X (compareOp .Is) (λx y H Q=>y=.non/\Q (.bl (decide (x=.non))) H):=by
 intro pins s σ H x y v u Q I rx ry h;obtain⟨rfl,q⟩:=h;cases ry;refine is_none_gen (FY I q ?_)
 cases x <;> first
  |(cases rx;rfl)
  |(obtain⟨t,rfl⟩:=rx;rfl)
theorem RE:OpR X (compareOp .NotIn) (λx y H Q=>∃i j,x=.str i/\y=.str j/\Q (.bl (!(!(jr j i 0 j.length 1).isEmpty))) H):=by intro pins s σ H x y v u Q I rx ry h;obtain⟨i,j,rfl,rfl,q⟩:=h;obtain⟨t,rfl⟩:=rx;obtain⟨t',rfl⟩:=ry;exact notIn_str (FY I q rfl)
theorem OpR.or {f:af->af->Sem af}{r r':R2}(h:OpR X f r) (h':OpR X f r'):OpR X f (λx y H Q=>r x y H Q∨r' x y H Q):=by
 intro pins s σ H x y v u Q I rx ry q
 rcases q with q|q
 ·exact h pins s σ H x y v u Q I rx ry q
 ·exact h' pins s σ H x y v u Q I rx ry q
theorem nZ (b:bj) {op:As}(h:op≠.In:=by decide) (h2:op≠.NotIn:=by decide):behindInMarks op b=false:=by
 have e1:(op==CmpOp.In)=false:=by cases op <;> first|rfl|exact absurd rfl h
 have e2:(op==CmpOp.NotIn)=false:=by cases op <;> first|rfl|exact absurd rfl h2
 cases b <;> simp[behindInMarks,e1,e2]
theorem RF {op:As}{r:R2}(ho:OpR X (compareOp op) r) (ha:PE X a ta) (hb:PE X b tb) (hm:behindInMarks op b=false):PE X (.Compare a [op] [b] pos) (sL r ta tb):=by intro pins s σ H Q I h;exact wpAny_Compare1 (AI ha hb I h λv u s2 x y H2 I2 rx ry q=>ho pins s2 σ H2 x y v u Q I2 rx ry q) hm
def F0 (t:TE):TT:=λσ H Q=>t σ H λx H'=>∃k,x=.bl k/\Q k H'
theorem RG {op:As}{r:R2}(ho:OpR X (compareOp op) r) (ha:PE X a ta) (hb:PE X b tb) (hm:behindInMarks op b=false):PT X (.Compare a [op] [b] pos) (F0 (sL r ta tb)):=by intro pins s σ H Q I h;refine wpAny_isTrue_Compare1 (aW (ha pins s σ H _ I h) λv s1 ⟨x,H1,I1,r1,q1⟩=>aW (hb pins s1 σ H1 _ I1 q1) λu s2 ⟨y,H2,I2,r2,q2⟩=>aW (ho pins s2 σ H2 x y v u _ I2 r1 r2 q2) λc s3 ⟨z,H3,I3,r3,k,e,q3⟩=>?_) hm;subst e;cases r3;exact ji ⟨H3,I3,q3⟩
def AK (r r':R2) (ta tb tc:TE):TE:=λσ H Q=>ta σ H λx H1=>tb σ H1 λy H2=>r x y H2 λz H3=>∃k,z=.bl k /\
 (if k=true then tc σ H3 λw' H4=>r' y w' H4 Q else Q (.bl false) H3)
theorem RH {op op':As}{r r':R2}(ho:OpR X (compareOp op) r) (ho':OpR X (compareOp op') r') (ha:PE X a ta) (hb:PE X b tb) (hc:PE X c tc)
  (hm:lastMarks [op,op'] [b,c]=false:=by with_unfolding_all rfl):PE X (.Compare a [op,op'] [b,c] pos) (AK r r' ta tb tc):=by
 intro pins s σ H Q I h;refine Compare_chain (aW (ha pins s σ H _ I h) λv s1 ⟨x,H1,I1,r1,q1⟩=>chain_link (aW (hb pins s1 σ H1 _ I1 q1) λu s2 ⟨y,H2,I2,r2,q2⟩=>aW (ho pins s2 σ H2 x y v u _ I2 r1 r2 q2) λd s3 ⟨z,H3,I3,r3,k,e,q3⟩=>?_)) hm;subst e;cases r3;refine ji ?_
 cases k with
 |false=>exact ite_ff ⟨.bl false,H3,I3,rfl,q3⟩
 |true=>exact ite_tt (chain_last (aW (hc pins s3 σ H3 _ I3 q3) λw' s4 ⟨z',H4,I4,r4,q4⟩=>ho' pins s4 σ H4 y z' u w' Q I4 r2 r4 q4))
theorem RI {op op':As}{r r':R2}(ho:OpR X (compareOp op) r) (ho':OpR X (compareOp op') r') (ha:PE X a ta) (hb:PE X b tb) (hc:PE X c tc)
  (hm:lastMarks [op,op'] [b,c]=false:=by with_unfolding_all rfl):PT X (.Compare a [op,op'] [b,c] pos) (F0 (AK r r' ta tb tc)):=by
 intro pins s σ H Q I h;refine isTrue_chain (aW (ha pins s σ H _ I h) λv s1 ⟨x,H1,I1,r1,q1⟩=>test_link (aW (hb pins s1 σ H1 _ I1 q1) λu s2 ⟨y,H2,I2,r2,q2⟩=>aW (ho pins s2 σ H2 x y v u _ I2 r1 r2 q2) λd s3 ⟨z,H3,I3,r3,k,e,q3⟩=>?_)) hm;subst e;cases r3;refine ji ?_
 cases k with
 |false=>obtain⟨k',e',q'⟩:=q3;cases e';exact ite_ff ⟨H3,I3,q'⟩
 |true=>refine ite_tt (test_last (aW (hc pins s3 σ H3 _ I3 q3) λw' s4 ⟨z',H4,I4,r4,q4⟩=>aW (ho' pins s4 σ H4 y z' u w' _ I4 r2 r4 q4) λd' s5 ⟨z2,H5,I5,r5,k2,e2,q5⟩=>?_));subst e2;cases r5;exact ji ⟨H5,I5,q5⟩
def F1 (K:ar) (x:V) (H:Hp) (k:Bool):Prop:=
 match x with
 | .non=>k=false
 | .bl b=>k=b
 | .int i=>k=(i != 0)
 | .str y=>y.length<=bp/\k=((y.length:Int) != 0)
 | .byt y=>y.size<=bp/\k=((y.size:Int) != 0)
 | .ref p=>(∃xs,SqL K H p xs/\k=!xs.isEmpty)∨(∃xs,SqT K H p xs/\k=!xs.isEmpty)∨∃kvs,H p=some (.dK kvs)/\k=!kvs.isEmpty
 |_=>False
theorem RJ {κ:Type}{kvs:List (κ×V)}{vs:List (κ×af)}(r:KV kvs vs):(!vs.isEmpty)=!kvs.isEmpty:=by cases r <;> rfl
theorem F2 {xs:List V}{its:List af}(r:Vals xs its):(!its.toArray.isEmpty)=!xs.isEmpty:=by cases r <;> simp
theorem pP:(bp:Nat)<2 ^ 63:=by rw[jq];decide
theorem RK:QZ X (λx H Q=>∃k,F1 X.K x H k/\Q k H):=by
 intro pins s σ H x v Q I rx h;obtain⟨k,e,q⟩:=h;have hl:=pP;have hs:bp=16777216:=jq
 cases x with
 |non=>cases rx;have e':k=false:=e;subst e';exact truthy_none ⟨H,I,q⟩
 |bl b=>cases rx;have e':k=b:=e;subst e';exact ji ⟨H,I,q⟩
 |int i=>obtain⟨t,rfl⟩:=rx;have e':k=(i != 0):=e;subst e';exact PySem.P.truthy_int ⟨H,I,q⟩
 |str y=>obtain⟨t,rfl⟩:=rx;obtain⟨hy,e'⟩:y.length<=bp/\k=((y.length:Int) != 0):=e;subst e';exact PySem.P.truthy_str (by omega) ⟨H,I.tok _,q⟩
 |byt y=>obtain⟨t,rfl⟩:=rx;obtain⟨hy,e'⟩:y.size<=bp/\k=((y.size:Int) != 0):=e;subst e';exact PySem.W.truthy_bytes (by omega) ⟨H,I.tok _,q⟩
 |ref p=>
  cases rx;have e':(∃xs,SqL X.K H p xs/\k=!xs.isEmpty)∨(∃xs,SqT X.K H p xs/\k=!xs.isEmpty)∨∃kvs,H p=some (.dK kvs)/\k=!kvs.isEmpty:=e
  rcases e' with⟨xs,hx,e'⟩|⟨xs,hx,e'⟩|⟨kvs,hx,e'⟩
  ·subst e';obtain⟨its,r,pl,hz⟩:=I.list hx;have hlen:=r.length;exact wpAny_truthy_list pl.isList (by simp only[au];omega) ⟨H,I.tok _,by rw[F2 r];exact q⟩
  ·subst e';obtain⟨its,r,pl,hz⟩:=I.tuple hx;have hlen:=r.length;exact truthy_tuple pl (by simp only[au];omega) ⟨H,I.tok _,by rw[F2 r];exact q⟩
  ·subst e';obtain⟨hz,hS,vs,r,m⟩:kvs.length<=bp/\(p==sysModules)=false/\∃vs,KV kvs vs/\s.heap.DictOf (zY X.prog X.w) p vs:=I.hok p _ hx;have hlen:kvs.length=vs.length:=Paired.length r;exact wpAny_truthy_dict hS m (by omega) ⟨H,I.tok _,by rw[RJ r];exact q⟩
 |_=>exact(show False from e).elim
theorem RM (ha:PE X a ta) (he:∀whole,isTrue a X.env whole=(do let v <-whole;standAt a.pos;holding [v] (truthy v))):
  PT X a (λσ H Q=>ta σ H λx H'=>∃k,F1 X.K x H' k/\Q k H'):=by
 intro pins s σ H Q I h;exact isTrue_plain (aW (ha pins s σ H _ I h) λv s1 ⟨x,H1,I1,r1,q1⟩=>RK pins s1 σ H1 x v Q I1 r1 q1) (he _)
theorem RN:OpR X (binaryOp .Add) (λx y H Q=>∃i j,x=.str i/\y=.str j/\i.length+j.length<=bp/\Q (.str (i++j)) H):=by intro pins s σ H x y v u Q I rx ry h;obtain⟨i,j,rfl,rfl,hz,q⟩:=h;obtain⟨t,rfl⟩:=rx;obtain⟨t',rfl⟩:=ry;exact add_str (λt' tk=>⟨.str (i++j),H,I.tok _,⟨_,rfl⟩,q⟩) hz
theorem gD {x:V}{us:List af}(r:Vals [x] us):∃u,us=[u]/\RelV x u:=by
 cases r with
 |cons r1 r2=>cases r2;exact⟨_,rfl,r1⟩
theorem sM {x y:V}{us:List af}(r:Vals [x,y] us):∃u w',us=[u,w']/\RelV x u/\RelV y w':=by
 cases r with
 |cons r1 r2=>
  cases r2 with
  |cons r3 r4=>cases r4;exact⟨_,_,rfl,r1,r3⟩
theorem RO (hc:X.calm=true):CallR X (.builtin "max") (λxs H Q=>∃i j,xs=[.int i,.int j]/\Q (.int (if j>i then j else i)) H):=by
 intro pins s σ H xs us Q I r h;obtain⟨i,j,rfl,q⟩:=h;obtain⟨u,w',rfl,⟨t,rfl⟩,⟨t',rfl⟩⟩:=sM r;refine max_two_ints (I.ok.hd hc) λh' tk k=>⟨_,H,I.kept k, ?_,q⟩
 by_cases hj:j>i
 ·rw[if_pos hj,if_pos hj];exact⟨_,rfl⟩
 ·rw[if_neg hj,if_neg hj];exact⟨_,rfl⟩
theorem RP (hc:X.calm=true):CallR X (.builtin "min") (λxs H Q=>∃i j,xs=[.int i,.int j]/\Q (.int (if j<i then j else i)) H):=by
 intro pins s σ H xs us Q I r h;obtain⟨i,j,rfl,q⟩:=h;obtain⟨u,w',rfl,⟨t,rfl⟩,⟨t',rfl⟩⟩:=sM r;refine min_two_ints (I.ok.hd hc) λh' tk k=>⟨_,H,I.kept k, ?_,q⟩
 by_cases hj:j<i
 ·rw[if_pos hj,if_pos hj];exact⟨_,rfl⟩
 ·rw[if_neg hj,if_neg hj];exact⟨_,rfl⟩
theorem RQ:CallR X (.type "str") (λxs H Q=>∃i,xs=[.int i]/\i.natAbs.log2<1920/\Q (.str (toString i)) H):=by intro pins s σ H xs us Q I r h;obtain⟨i,rfl,hz,q⟩:=h;obtain⟨u,rfl,t,rfl⟩:=gD r;exact PySem.P.str_of_int hz ⟨.str _,H,I.tok _,⟨_,rfl⟩,q⟩
def RR (K:ar) (x:V) (H:Hp) (n:Nat):Prop:=
 match x with
 | .str y=>y.length<=bp/\n=y.length
 | .byt y=>y.size<=bp/\n=y.size
 | .ref p=>(∃xs,SqL K H p xs/\n=xs.length)∨∃xs,SqT K H p xs/\n=xs.length
 |_=>False
theorem RS:CallR X (.builtin "len") (λxs H Q=>∃x n,xs=[x]/\RR X.K x H n/\Q (.int n) H):=by
 intro pins s σ H xs us Q I r h;obtain⟨x,n,rfl,e,q⟩:=h;obtain⟨u,rfl,rx⟩:=gD r;have hl:=pP;have hs:bp=16777216:=jq
 cases x with
 |str y=>obtain⟨t,rfl⟩:=rx;obtain⟨hy,e'⟩:y.length<=bp/\n=y.length:=e;subst e';exact len_str (by omega) ⟨.int _,H,I.tok _,⟨_,rfl⟩,q⟩
 |byt y=>obtain⟨t,rfl⟩:=rx;obtain⟨hy,e'⟩:y.size<=bp/\n=y.size:=e;subst e';exact PySem.W.len_bytes (by omega) ⟨.int _,H,I.tok _,⟨_,rfl⟩,q⟩
 |ref p=>
  cases rx;have e':(∃xs,SqL X.K H p xs/\n=xs.length)∨∃xs,SqT X.K H p xs/\n=xs.length:=e
  rcases e' with⟨xs,hx,e'⟩|⟨xs,hx,e'⟩
  ·subst e';obtain⟨its,r',pl,hz⟩:=I.list hx;have hlen:=r'.length;exact Bj pl.isList (by simp only[au];omega) ⟨.int xs.length,H,I.tok _,⟨_,by simp only[au];rw[hlen]⟩,q⟩
  ·subst e';obtain⟨its,r',pl,hz⟩:=I.tuple hx;have hlen:=r'.length;exact len_tuple pl (by simp only[au];omega) ⟨.int xs.length,H,I.tok _,⟨_,by simp only[au];rw[hlen]⟩,q⟩
 |_=>exact(show False from e).elim
end
section
variable{prog:bg}{w:cq}{A:cn}{E:af->ag->Prop}{s:ag}{K:ar}{x dx C f:ah}{mA:Str->Option af}{name:Str}{v:af}
end
section
variable{P:bg}{w:cq}{H H':Hp}{h h':cx}{a C dx:ah}{fs fs':List (Str×V)}
end
section
variable{X:Cx}{pins:List (ah×Obj)}{σ:St}{H:Hp}{s:ag}{a C dx:ah}{fs:List (Str×V)}{f:Str}{v:V}{A:cn}{E:af->ag->Prop}
end
section
variable{X:Cx}{o e value:bj}{f:Str}{pos pos' tpos:Pos}{ta tv:TE}
end
section
variable{X:Cx}{pins:List (ah×Obj)}{σ:St}{H:Hp}{s:ag}{A:cn}{E:af->ag->Prop}{Q:af->ag->Prop}{c:af}{b:Bool}
end
structure Room (k:Nat) (A:cn):Prop where
 hd:A.handled=none
 dp:A.depth+3*k+5<recursionLimit
 un:A.units+16*k+200<cLine
theorem Room.mono {j k:Nat}{A:cn}(r:Room k A) (h:j<=k):Room j A:=⟨r.hd,by have:=r.dp;omega,by have:=r.un;omega⟩
theorem Room.deeper {k:Nat}{A:cn}(r:Room (k+1) A) (env:Env):Room k (A.deeper env):=⟨r.hd,by have:=r.dp;show A.depth+1+3*k+5<_;omega,by have:=r.un;show A.units+3+16*k+200<_;omega⟩
theorem Room.depth {k:Nat}{A:cn}(r:Room k A):A.depth<recursionLimit:=by have:=r.dp;omega
theorem Room.units {k:Nat}{A:cn}(r:Room k A):A.units+64<cLine:=by have:=r.un;omega
def F3:TA:=λ_ H Q=>Q [] H
def F5 (ta:TE) (tr:TA):TA:=λσ H Q=>ta σ H λx H1=>tr σ H1 λxs H2=>Q (x::xs) H2
section
variable{X:Cx}{e:bj}{es:List bj}{te:TE}{t:TA}{pos:Pos}
theorem iG:PA X [] F3:=λ_ _ _ _ H Q I h=>Calls.spliced_nil ⟨[],H,I,.nil,h⟩
theorem gE (ha:PE X e te) (hr:PA X es t) (hs:ao (e::es) X.env=(false,eval e X.env)::ao es X.env:=by rfl):PA X (e::es) (F5 te t):=by intro pos pins s σ H Q I h;rw[hs];show wpAny _ _ (spliced ((false,eval e X.env)::backTo pos (ao es X.env))) _ _ s;refine Calls.spliced_cons (aW (ha pins s σ H _ I h) λu s1 ⟨x,H1,I1,r1,q1⟩=>?_);exact aW (hr pos pins s1 σ H1 _ I1 q1) λus s2 ⟨xs,H2,I2,r2,q2⟩=>⟨x::xs,H2,I2,.cons r1 r2,q2⟩
def RT (t:TA):TE:=λσ H Q=>t σ H λxs H1=>xs.length<=bp/\∀p,H1 p=none->Q (.ref p) (aQ H1 p (.tup xs))
def RU (t:TA):TE:=λσ H Q=>t σ H λxs H1=>xs.length<=bp/\∀p,H1 p=none->Q (.ref p) (aQ H1 p (.lst xs))
theorem F6 {x1} (h:PA X es t):PE X (.Tuple es x1 pos) (RT t):=by intro pins s σ H Q I hq;refine wpAny_Tuple_spliced (aW (h pos pins s σ H _ I hq) λus s1 ⟨xs,H1,I1,r,z,q⟩=>⟨by rw[<-r.length];exact z, ?_⟩);have hf:H1 s1.heap.objs.size=none:=I1.hok.fresh (ak _);refine⟨.ref s1.heap.objs.size,aQ H1 s1.heap.objs.size (.tup xs),I1.laid (t':=s1.toks) (λb u e=>aj _ e) (ak _) ?_,rfl,q _ hf⟩;exact⟨z,us,r,⟨_,az _ rfl,rfl,rfl,_,rfl⟩⟩
theorem RV (h:PA X es t):PE X (.List es pos) (RU t):=by intro pins s σ H Q I hq;refine wpAny_List_spliced (aW (h pos pins s σ H _ I hq) λus s1 ⟨xs,H1,I1,r,z,q⟩=>⟨by rw[<-r.length];exact z, ?_⟩);have hf:H1 s1.heap.objs.size=none:=I1.hok.fresh (ak _);refine⟨.ref s1.heap.objs.size,aQ H1 s1.heap.objs.size (.lst xs),I1.laid (t':=s1.toks) (λb u e=>aj _ e) (ak _) ?_,rfl,q _ hf⟩;exact⟨z,us,0,r,az _ rfl⟩
end
abbrev Sp:=List V->Hp->VK->XK->Prop
abbrev mT:=List Env->Hp->ag->XK->af->ag->Prop
structure Env0 (P:bg) (w:cq) (K:ar) (mg:Str->Option af) (base:cx) (A:cn) (outer:List Env) (s:ag) (H:Hp):Prop where
 frames:A.frames=some outer
 mod:Mod K mg base
 bs:∀b o,base.get? b=some o->s.heap.get? b=some o/\H b=none
 bsz:base.objs.size<=s.heap.objs.size
 funs:s.heap.FunFrames base outer
 frf:∀b∈dD outer,H b=none
 hok:HOk P w H s.heap
 bare:rp s.gens
def CE (outer:List Env) (P:bg) (w:cq) (H:Hp) (s:ag) (Q:VK) (u:af) (s':ag):Prop:=∃v H',s'.os=s.os/\rp s'.gens/\Un (dD outer) [] H H' s.heap s'.heap/\HOk P w H' s'.heap/\RelV v u/\Q v H'
def CR (CX:mT) (outer:List Env) (P:bg) (w:cq) (H:Hp) (s:ag) (Q:VK) (E:XK) (r:yk) (s':ag):Prop:=
 match r with
 | .ok (.ret u)=>CE outer P w H s Q u s'
 | .ok _=>False
 | .error e=>CX outer H s E e s'
structure FnOk (P:bg) (w:cq) (K:ar) (mg:Str->Option af) (base:cx) (CX:mT) (k:Nat) (f:ah) (fd:bu) (ps:List Str) (sp:Sp):Prop where
 len:∀vs H Q E,sp vs H Q E->vs.length=ps.length
 run:∀(A:cn) (outer:List Env) (s:ag) (H:Hp) (args:Args) (us:List af) (vs:List V) (Q:VK) (E:XK),Room k A->Env0 P w K mg base A outer s H->BindsTo s fd args (ps.zip us)->Vals vs us->sp vs H Q E->
  codeAny (model P w) A (.call (.ref f) args) (CR CX outer P w H s Q E) s
section
variable{X:Cx}{pins:List (ah×Obj)}{σ:St}{H:Hp}{s s':ag}
theorem Inv.env0 (I:Inv X pins σ H s):Env0 X.prog X.w X.K X.mg X.base X.A X.stack s H:=⟨I.ok.frames,I.ok.mod,I.bs,du I.ok.bsz I.sz,I.stack,I.stkFree,I.hok,I.bare⟩
theorem Inv.after {Q:VK}{u:af}(I:Inv X pins σ H s) (h:CE X.stack X.prog X.w H s Q u s'):EP X pins σ Q u s':=by obtain⟨v,H',os,bare,un,hok,r,q⟩:=h;obtain⟨hh,g,d,t,os'⟩:=s';obtain rfl:os'=s.os:=os;exact⟨v,H',I.call (h':=hh) (g':=g) (d':=d) (t':=t) (ch:=[]) un hok bare (λb z=>absurd z (by simp)),r,q⟩
end
def RW (sp:Sp) (dvs:List V) (E:XK) (t:TA):TE:=λσ H Q=>t σ H λvs H1=>sp (vs++dvs) H1 Q E
def Binds (K:ar) (fd:bu) (ps:List Str) (ds:List af):Prop:=∀(s:ag) (us:List af),K.In s.heap->(us++ds).length=ps.length->BindsTo s fd ⟨us,[]⟩ (ps.zip (us++ds))
theorem Binds.all {K:ar}{fd:bu}{ps:List Str}(h:∀us:List af,us.length=ps.length->bindArgs fd ⟨us,[]⟩=pure (ps.zip us)):Binds K fd ps []:=λs us _ hl=>by rw[lh]at hl ⊢;exact .of_eq (h us hl)
def AL (CX:mT) (X:Cx) (E:XK):Prop:=∀(pins:List (ah×Obj)) (σ:St) (H:Hp) (s:ag) (e:af) (s':ag),Inv X pins σ H s->CX X.stack H s E e s'->X.xe e s'
section
variable{X:Cx}{CX:mT}{k:Nat}{f C:ah}{fd:bu}{ps:List Str}{sp:Sp}{dvs:List V}{ds:List af}{E:XK}{x m:Str}{p pos apos:Pos}{e o:bj}{es:List bj}{ta:TE}{t:TA}
theorem RX {pins:List (ah×Obj)}{σ:St}{H:Hp}{s:ag}{Q:VK}{us:List af}{vs:List V}(F:FnOk X.prog X.w X.K X.mg X.base CX k f fd ps sp) (hr:Room k X.A) (hb:Binds X.K fd ps ds) (hd:Vals dvs ds) (hx:AL CX X E)
  (I:Inv X pins σ H s) (r:Vals vs us) (h:sp (vs++dvs) H Q E):wpAny (model X.prog X.w) X.A (call (.ref f) us) (EP X pins σ Q) X.xe s:=by
 have r2:Vals (vs++dvs) (us++ds):=r.append hd;have hl:(us++ds).length=ps.length:=by rw[<-r2.length];exact F.len _ _ _ _ h
 refine Au (nu (F.run X.A X.stack s H ⟨us,[]⟩ (us++ds) (vs++dvs) Q E hr I.env0 (hb s us I.kIn hl) r2 h) λr s' hq=>?_)
 cases r with
 |error e=>exact hx pins σ H s e s' I hq
 |ok fl=>
  cases fl with
  |ret u=>exact I.after hq
  |next=>exact gq hq
  |brk=>exact gq hq
  |cont=>exact gq hq
theorem RY (F:FnOk X.prog X.w X.K X.mg X.base CX k f fd ps sp) (hr:Room k X.A) (hg:Gl X x) (hm:X.mg x=some (.ref f)) (hk:km X.K (.ref f)=true) (hb:Binds X.K fd ps ds) (hd:Vals dvs ds) (hx:AL CX X E)
  (ha:PA X (e::es) t) (hdb:(x==("__debug__" : Str))=false:=by decide) (he:ao (e::es) X.env=(false,eval e X.env)::ao es X.env:=by rfl) (hpl:(backTo pos (ao es X.env)).any (·.1)=false:=by rfl):
  PE X (.Call (.Name x p) (e::es) [] pos) (RW sp dvs E t):=by
 intro pins s σ H Q I h;refine my (sH I hg hm ?_ hdb);refine Av (h₀:=X.base) I.ok.mod.kin hk (aW (ha pos pins s σ H _ I h) λus s1 ⟨vs,H1,I1,r,q⟩=>⟨I1.kIn, ?_⟩) he hpl;exact RX F hr hb hd hx I1 r q
end
section
variable{X:Cx}{CX:mT}{k:Nat}{f C:ah}{fd:bu}{ps ks:List Str}{sp:Sp}{E:XK}{x m:Str}{p pos apos kpos:Pos}{e o:bj}{es:List bj}{kws:List Keyword}{te ta:TE}{t tk:TA}{nm:Option Str}
variable{g:List af->List af->List af}{gV:List V->List V->List V}
end
structure FnScope (N P:List Str) (sc:gw):Prop where
 kind:sc.kind=.function
 co:sc.isCoroutine=false
 gen:sc.isGenerator=false
 nd:N.Nodup
 pre:N.take P.length=P
 par:∀x∈P,sc.names.lookup x=some .local∨sc.names.lookup x=some .cell
 nofree:∀y∈sc.names,y.2≠.free
theorem F7 {kindOf:Str->Option ka}{x:Str}:∀{binds:List (Str×af)}{m:Str->Option af},(∀v,(x,v)∉binds)->bindL kindOf binds m x=m x
 | [],_,_=>rfl
 |(n,v)::r,m,h=>by
  unfold bindL;rw[F7 λw hw=>h w (aq _ hw)]
  split
  ·have:x≠n:=by rintro rfl;exact h v ax
   simp[this]
  ·rfl
theorem F8 {kindOf:Str->Option ka}{x:Str}:∀{binds:List (Str×af)}{m:Str->Option af},(∀v,(x,v)∉binds)->bindC kindOf binds m x=m x
 | [],_,_=>rfl
 |(n,v)::r,m,h=>by
  unfold bindC;rw[F8 λw hw=>h w (aq _ hw)]
  split
  ·rfl
  ·have:x≠n:=by rintro rfl;exact h v ax
   simp[this]
theorem F9 {kindOf:Str->Option ka}{x:Str}{v:af}:∀{P:List Str}{vs:List af}{i:Nat}{m:Str->Option af},P.Nodup->P[i]?=some x->vs[i]?=some v->kindOf x=some .local->
  bindL kindOf (P.zip vs) m x=some v
 | [],_,_,_,_,h,_,_=>by simp at h
 |_::_,[],_,_,_,_,h,_=>by simp at h
 |p::P,w::vs,0,m,nd,h1,h2,hk=>by simp at h1 h2;subst h1;subst h2;show bindL kindOf ((p,w)::P.zip vs) m p=_;unfold bindL;rw[F7 λv hv=>(js.mp nd).1 (we hv).1,if_pos hk];simp
 |p::P,w::vs,i+1,m,nd,h1,h2,hk=>by show bindL kindOf ((p,w)::P.zip vs) m x=_;unfold bindL;exact F9 (i:=i) (js.mp nd).2 (by simpa using h1) (by simpa using h2) hk
theorem GA {kindOf:Str->Option ka}{x:Str}{v:af}:∀{P:List Str}{vs:List af}{i:Nat}{m:Str->Option af},P.Nodup->P[i]?=some x->vs[i]?=some v->kindOf x≠some .local->
  bindC kindOf (P.zip vs) m x=some v
 | [],_,_,_,_,h,_,_=>by simp at h
 |_::_,[],_,_,_,_,h,_=>by simp at h
 |p::P,w::vs,0,m,nd,h1,h2,hk=>by simp at h1 h2;subst h1;subst h2;show bindC kindOf ((p,w)::P.zip vs) m p=_;unfold bindC;rw[F8 λv hv=>(js.mp nd).1 (we hv).1,if_neg hk];simp
 |p::P,w::vs,i+1,m,nd,h1,h2,hk=>by show bindC kindOf ((p,w)::P.zip vs) m x=_;unfold bindC;exact GA (i:=i) (js.mp nd).2 (by simpa using h1) (by simpa using h2) hk
def start (N:List Str) (vs:List V):St:=vs.map some++xf (N.length - vs.length) none
def gX (CX:mT) (P:bg) (w:cq) (K:ar) (mg:Str->Option af) (base:cx) (N:List Str) (qual:Str) (scope:gw) (f:ah) (cd:af) (A:cn) (outer:List Env) (s:ag) (H:Hp) (E:XK):Cx where
 prog:=P
 w:=w
 K:=K
 mg:=mg
 base:=base
 A:=A.deeper (envOfC qual scope s.heap.objs.size f cd)
 N:=N
 s₀:=s
 H₀:=H
 env:=envOfC qual scope s.heap.objs.size f cd
 outer:=outer
 stack:=envOfC qual scope s.heap.objs.size f cd::outer
 ex:=[]
 calm:=true
 fn:=λ_=>true
 pn:=[]
 xe:=λe s'=>wpAny (model P w) (A.deeper (envOfC qual scope s.heap.objs.size f cd)) (leaving (envOfC qual scope s.heap.objs.size f cd) e) (λ_ s''=>CX outer H s E e s'') (λe' s''=>CX outer H s E e' s'') s'
theorem GB {sc:gw}{n:Nat}{x:Str}(h:sc.names.lookup x=some .cell):∃c,(cellsFrom n sc.names []).lookup x=some c:=by have q:=ym sc.names n [] (.inl h);exact xg.mp q
theorem RZ {CX:mT}{P:bg}{w:cq}{K:ar}{mg:Str->Option af}{base:cx}{N ps:List Str}{qual:Str}{scope:gw}{f:ah}{cd:af}{A:cn}{outer:List Env}{s s1:ag}{H:Hp}{E:XK}{us:List af}{vs:List V}
  (S:FnScope N ps scope) (hd:A.handled=none) (e0:Env0 P w K mg base A outer s H) (hl:vs.length=ps.length) (r:Vals vs us)
  (x:InCallC s s.heap.objs.size (bindL (envOfC qual scope s.heap.objs.size f cd).kindOf (ps.zip us) λ_=>none) (cellsFrom (s.heap.objs.size+1) scope.names []) (bindC (envOfC qual scope s.heap.objs.size f cd).kindOf (ps.zip us) λ_=>none) s1):
  Inv (gX CX P w K mg base N qual scope f cd A outer s H E) [] (start N vs) H s1:=by
 have hpl:ps.length<=N.length:=by have:=congrArg jm S.pre;rw[iq]at this;omega
 obtain⟨h1,tk,rfl,hk⟩:=x.done;have noA:∀b:ah,b∉(gX CX P w K mg base N qual scope f cd A outer s H E).ex:=λb z=>absurd (show b∈([]:List ah) from z) (by simp);refine⟨⟨e0.mod,S.kind,rfl,rfl,ak _,λy z c h1 h2=>?_,λy hy=>?_,λy c _ h=>?_,λ_=>hd,Ak e0.frames,.inr ⟨rfl,rfl⟩,λb z=>absurd z (noA b),e0.bs,e0.bsz,λb _ _=>noA b,λb z=>absurd z (noA b),e0.funs,e0.frf⟩,
  rfl,e0.bare,Un.kept hk,⟨_,x.toInCall.ns,λi y v h1 h2 h3=>?_⟩,λy c h=>⟨_,x.cell y c h⟩,e0.hok.fresh (ak _),λy c h=>?_,λp hp=>absurd (show p∈([]:List (ah×Obj)) from hp) (by simp),e0.hok.kept hk, ?_⟩
 ·exact name_of_addr x.apart (ff h1) (ff h2)
 ·have hy:scope.names.lookup y=some .cell∨scope.names.lookup y=some .free:=hy
  rcases hy with hy|hy
  ·exact GB hy
  ·exact absurd rfl (S.nofree _ (ff hy))
 ·exact gy (x.above y c (ff h))
 ·have hi:i<vs.length:=by
   unfold start at h2
   by_cases hi:i<vs.length
   ·exact hi
   ·rw[dy (by simpa using hi)]at h2;rw[qw]at h2
    split at h2 <;> cases h2
  have ha:vs[i]?=some v:=by
   unfold start at h2;rw[dk (by simpa using hi),dv]at h2
   cases e:vs[i]? with
   |none=>rw[e]at h2;cases h2
   |some a=>rw[e]at h2;cases h2;rfl
  obtain⟨u,hu,rv⟩:=r.get ha;have hp:ps[i]?=some y:=by rw[<-S.pre,zt (by omega)];exact h1
  have ndP:ps.Nodup:=by rw[<-S.pre];exact S.nd.sublist (List.take_sublist _ _)
  refine⟨u,rv, ?_⟩
  rcases S.par y (bw hp)with k|k
  ·exact .inl ⟨k,F9 ndP hp hu k⟩
  ·obtain⟨c,e⟩:=GB (n:=s.heap.objs.size+1) k;refine .inr ⟨.inl k,c,e, ?_⟩;have q:=x.cell y c e;rw[GA ndP hp hu (by show scope.names.lookup y≠_;rw[k];decide)]at q;exact q
 ·exact e0.hok.fresh (gy (x.above y c (ff h)))
 ·unfold start;show _=N.length;rw[br,bh,List.length_replicate];omega
theorem AM {CX:mT}{P:bg}{w:cq}{K:ar}{mg:Str->Option af}{base:cx}{k:Nat}{f:ah}{name qual:Str}{params:ku}{body:List ig}{scope:gw}{dV kV doc pm cdv ct oc:af}{an od:Option ah}
  {osl:Array (Option af)}{N ps:List Str}{sp:Sp}(lk:K.lookup f=some ⟨oc,od,.func (oq name qual params body scope dV kV doc pm an cdv ct),osl⟩) (hcd:wb K cdv qual=true) (S:FnScope N ps scope)
  (len:∀vs H Q E,sp vs H Q E->vs.length=ps.length)
  (hbody:∀(A:cn) (outer:List Env) (s:ag) (H:Hp) (vs:List V) (Q:VK) (E:XK),Room k (A.deeper (envOfC qual scope s.heap.objs.size f cdv))->sp vs H Q E->
   ∃t,PSs (gX CX P w K mg base N qual scope f cdv A outer s H E) body t/\t { nx:=λ_ H'=>Q .non H',rt:=Q } (start N vs) H):
  FnOk P w K mg base CX (k+1) f (oq name qual params body scope dV kV doc pm an cdv ct) ps sp:=by
 refine⟨len,λA outer s H args us vs Q E hr e0 hb r hsp=>?_⟩;have hl:=len _ _ _ _ hsp;have KX:K.In s.heap:=e0.mod.kin.keeps λb o e=>(e0.bs b o e).1;have lim:s.heap.NoLimit:=e0.mod.nolimit.keeps λb o e=>(e0.bs b o e).1;have hkind:∀y∈ps.zip us,scope.names.lookup y.1=some .local∨(scope.names.lookup y.1=some .cell/\((cellsFrom (s.heap.objs.size+1) scope.names []).lookup y.1).isSome=true):=λ⟨n,v⟩ hy=>by
  rcases S.par n (we hy).1 with q|q
  ·exact .inl q
  ·exact .inr ⟨q,ym _ _ _ (.inl q)⟩
 refine codeAny_call_function hr.depth (KX _ _ lk) rfl S.co S.gen rfl (PySem.W.codeRec_of KX hcd) (hb _ _ _ _ ?_);refine wpAny_newFunctionEnv_cells S.kind hkind λenv he s1 x=>?_;subst he;refine⟨lim.keeps x.toInCall.keep,codeAny_func ?_⟩;obtain⟨t,ht,hq⟩:=hbody A outer s H vs Q E (hr.deeper _) hsp;have I:Inv (gX CX P w K mg base N qual scope f cdv A outer s H E) [] (start N vs) H s1:=RZ S hr.hd e0 hl r x;refine ki (ht [] s1 (start N vs) H _ I hq) (λfl s' hs=>?_) λe s' hs=>hs;have fin:∀{σ':St}{H':Hp}{v:V}{u:af},Inv (gX CX P w K mg base N qual scope f cdv A outer s H E) [] σ' H' s'->RelV v u->Q v H'->CE outer P w H s Q u s':=λ{σ' H' v u} J rv q=>⟨v,H',J.os,J.bare,J.base,J.hok,rv,q⟩
 cases fl with
 |ret u=>obtain⟨v,σ',H',J,rv,q⟩:=hs;exact fin J rv q
 |next=>obtain⟨σ',H',J,q⟩:=hs;exact fin (v:=V.non) (u:=jn) J rfl q
 |brk=>obtain⟨_,_,_,q⟩:=hs;exact gq q
 |cont=>obtain⟨_,_,_,q⟩:=hs;exact gq q
section
variable{X:Cx}{x:Str}{p pos:Pos}{e:bj}{es:List bj}{t:TA}{id T:String}{r:List V->Hp->VK->Prop}
def vL (r:List V->Hp->VK->Prop) (t:TA):TE:=λσ H Q=>t σ H λvs H1=>r vs H1 Q
theorem sN (hc:CallR X (.builtin id) r) (hg:Gl X x) (hm:X.mg x=none) (hv:dg x=some (.builtin id)) (ha:PA X (e::es) t) (hn:x ≠ "__name__" := by decide) (hdb:(x==("__debug__" : Str))=false:=by decide)
  (he:ao (e::es) X.env=(false,eval e X.env)::ao es X.env:=by rfl) (hpl:(backTo pos (ao es X.env)).any (·.1)=false:=by rfl):PE X (.Call (.Name x p) (e::es) [] pos) (vL r t):=by
 intro pins s σ H Q I h;refine my (pO I hg hm hv ?_ hn hdb);exact PyProof.Rows.callWith_builtin1 (aW (ha pos pins s σ H _ I h) λus s1 ⟨vs,H1,I1,r1,q1⟩=>hc pins s1 σ H1 vs us Q I1 r1 q1) he hpl
theorem sO (hc:CallR X (.type T) r) (hg:Gl X x) (hm:X.mg x=none) (hv:dg x=some (.type T)) (ha:PA X (e::es) t) (hn:x ≠ "__name__" := by decide) (hdb:(x==("__debug__" : Str))=false:=by decide)
  (he:ao (e::es) X.env=(false,eval e X.env)::ao es X.env:=by rfl) (hpl:(backTo pos (ao es X.env)).any (·.1)=false:=by rfl):PE X (.Call (.Name x p) (e::es) [] pos) (vL r t):=by
 intro pins s σ H Q I h;refine my (pO I hg hm hv ?_ hn hdb);exact jb (aW (ha pos pins s σ H _ I h) λus s1 ⟨vs,H1,I1,r1,q1⟩=>hc pins s1 σ H1 vs us Q I1 r1 q1) he hpl
end
end L2
namespace HT
open PySem PyProof.Rows
def lexLt:List Int->List Int->Bool
 | [],[]=>false
 | [],_::_=>true
 |_::_,[]=>false
 |x::xs,y::ys=>if x=y then lexLt xs ys else decide (x<y)
theorem lexLt_cons (x y:Int) (xs ys:List Int):lexLt (x::xs) (y::ys)=if x=y then lexLt xs ys else decide (x<y):=rfl
theorem R0:lexLt [] []=false:=rfl
theorem R3 (y:Int) (ys:List Int):lexLt [] (y::ys)=true:=rfl
theorem R4 (x:Int) (xs:List Int):lexLt (x::xs) []=false:=rfl
theorem R5 (A:cn) (s:ag) (a:Int) (t:Tok) (c:Int) (u:Tok):∃e,ue A s (.int a t) (.int c u) e/\(e=true↔a=c):=⟨(a==c),sy a t c u,by simp⟩
theorem R6 (A:cn) (s:ag) (a:Int) (t:Tok) (c:Int) (u:Tok) (prog:bg) (w:cq) (E:af->ag->Prop) (Q:af->ag->Prop) (h:Q (.bool (decide (a<c))) s):
  wpAny (model prog w) A (richCompare .Lt (.int a t) (.int c u)) Q E s:=
 (wo h:wpAny (model prog w) A (compareOp .Lt (.int a t) (.int c u)) Q E s)
section
open PySem.SeqAt
open PySem.AutoSeq1 (wpAny_loadPart')
open PySem.MeetsSeq PySem.MeetsSeq2 PySem.MeetsSeq3
theorem R7 (l b:ah) (items items2:Array af) (n n2:Nat) (dd dd2:Option ah) (sl sl2:Array (Option af)) (ns ms:List Int) (hi:mn items.toList ns) (hj:mn items2.toList ms):
  Meets (mq.«tuple.__lt__» ⟨[.ref l,.ref b],[]⟩)
   (λ_ R s=>s.heap.get? l=some { cls:=.type "tuple",dict:=dd,data:=.seq items n,slots:=sl }/\s.heap.get? b=some { cls:=.type "tuple",dict:=dd2,data:=.seq items2 n2,slots:=sl2 } /\
    R (.ok (.ret (.bool (lexLt ns ms)))) s):=
 .of_wp λprog w A R s h=>by
  obtain⟨hp,g,d,tk,os⟩:=s;obtain⟨hl,hb,h⟩:=h;have f2:=AutoSeq1.sub_tuple_tuple;have z1:items.size=ns.length:=by rw[<-hi.length];simp
  have z2:items2.size=ms.length:=by rw[<-hj.length];simp
  wp_walk using wpAny_loadPart' hl,wpAny_loadPart' hb,td _ (λrest b s'=>b.1=none/\s'=⟨hp,g,d,tk,os⟩/\∃(vs ws:List af) (ns' ms':List Int),rest=vs.zip ws /\
   mn vs ns'/\mn ws ms'/\ns'.length+items2.size=ms'.length+items.size/\R (.ok (.ret (.bool (lexLt ns' ms')))) ⟨hp,g,d,tk,os⟩) _
  case turn=>
   rintro ⟨y,x⟩ rest b s' ⟨hb',rfl,vs,ws,ns',ms',hz,hvi,hwi,hlen,hR⟩
   cases hvi with
   |nil=>rw[List.zip_nil_left]at hz;cases hz
   |cons a t hvi'=>
    cases hwi with
    |nil=>rw[List.zip_nil_right]at hz;cases hz
    |cons c u hwi'=>
     rw[List.zip_cons_cons]at hz;injection hz with hyx hrest;injection hyx with hy hx;subst hy hx;rw[lexLt_cons]at hR;simp only[cp]at hlen;obtain⟨e,he,hiff⟩:=R5 A.in1 ⟨hp,g,d,tk,os⟩ a t c u;refine aa (he prog w _ _ ?_)
     cases e with
     |true=>
      rw[if_pos (hiff.mp rfl)]at hR
      wp_walk
      exact⟨rfl,rfl,_,_,_,_,hrest,hvi',hwi',by omega,hR⟩
     |false=>
      rw[if_neg (λq=>absurd (hiff.mpr q) ik)]at hR;have hri:=R6 A.in1 ⟨hp,g,d,tk,os⟩ a t c u prog w
      wp_walk using hri
      exact⟨_,rfl,by simpa using hR⟩
  case fin=>
   rintro ⟨b1,b2⟩ s' ⟨hb',rfl,vs,ws,ns',ms',hz,hvi,hwi,hlen,hR⟩
   simp only at hb';subst hb';have hv:lexLt ns' ms'=decide (items.size<items2.size):=by
    cases hvi with
    |nil=>
     cases hwi with
     |nil=>simp only[je]at hlen;rw[R0];exact(decide_eq_false (by omega)).symm
     |cons c u hw=>simp only[je,cp]at hlen;rw[R3];exact(decide_eq_true (by omega)).symm
    |cons a t hv=>
     cases hwi with
     |nil=>simp only[je,cp]at hlen;rw[R4];exact(decide_eq_false (by omega)).symm
     |cons c u hw=>rw[List.zip_cons_cons]at hz;cases hz
   rw[hv]at hR
   wp_walk
   exact⟨_,rfl,by simpa[Builtin.Tuple.tupleCompareSizes]using hR⟩
  case h=>exact⟨rfl,rfl,items.toList,items2.toList,ns,ms,rfl,hi,hj,by omega,h⟩
end
section
variable{prog:bg}{w:cq}{A:cn}{E:af->ag->Prop}{s:ag}
theorem lt_tupInts {l b:ah}{items items2:Array af}{ns ms:List Int}{Q:af->ag->Prop}(hl:IsTup s.heap l items) (hb:IsTup s.heap b items2) (hi:mn items.toList ns) (hj:mn items2.toList ms)
  (hu:A.units<cLine) (h:Q (.bool (lexLt ns ms)) s):wpAny (model prog w) A (compareOp .Lt (.ref l) (.ref b)) Q E s:=by
 obtain⟨⟨cls,dd,data,sl⟩,ho,hc,n,hd⟩:=id hl;obtain⟨⟨cls2,dd2,data2,sl2⟩,ho2,hc2,n2,hd2⟩:=id hb;simp only at hc hd hc2 hd2;subst hc hd hc2 hd2;exact richCompare_meets_room (op:=.Lt) ⟨_,ho,rfl⟩ ⟨_,ho2,rfl⟩ PySem.F.slot_tuple_lt PySem.F.entry_tuple_lt (PySem.F.args_tuple_lt_2 _ _) (R7 l b items items2 n n2 dd dd2 sl sl2 ns ms hi hj)
  ⟨ho,ho2,show uc (lexLt ns ms)≠Value.notImplemented/\Q (.bool (lexLt ns ms)) s from⟨(λx=>nomatch x),h⟩⟩ hu
theorem cat_tup {t b:ah}{vs ws:List af}{Q:af->ag->Prop}(ht:IsTup s.heap t vs.toArray) (hb:IsTup s.heap b ws.toArray) (hv:vs≠[])
  (h1:ws=[]->Q (.ref t) s) (h2:ws≠[]->Q (.ref s.heap.objs.size) { s with heap:=s.heap.push { cls:=.type "tuple",data:=.seq (vs++ws).toArray } })
  (hsz:vs.length+ws.length<=bp):wpAny (model prog w) A (binaryOp .Add (.ref t) (.ref b)) Q E s:=by
 obtain⟨⟨cls,dd,data,sl⟩,ho,hc,n,hd⟩:=id ht;obtain⟨⟨cls2,dd2,data2,sl2⟩,ho2,hc2,n2,hd2⟩:=id hb;simp only at hc hd hc2 hd2;subst hc hd hc2 hd2;have e:vs.toArray++ws.toArray=(vs++ws).toArray:=by simp
 by_cases hw:ws=[]
 ·exact concat_meets ⟨_,ho,rfl⟩ ⟨_,ho2,rfl⟩ yn Bo qv qg (pv _ _)
   (tuple_addW1 t b vs.toArray ws.toArray n n2 dd dd2 sl sl2 (by simpa using hv) (by simp[hw])) ⟨ho,ho2,h1 hw⟩
 ·refine concat_meets ⟨_,ho,rfl⟩ ⟨_,ho2,rfl⟩ yn Bo qv qg (pv _ _)
   (tuple_addW2 t b vs.toArray ws.toArray n n2 dd dd2 sl sl2 (by simpa using hv) (by simpa using hw) (by rw[au,au];exact hsz)) ⟨ho,ho2, ?_⟩
  rw[e];exact h2 hw
def sIx (n d:Nat):Option Int->Nat
 |none=>d
 |some v=>if v<0 then(v+(n:Int)).toNat else min v.toNat n
theorem sIx_none (n d:Nat):sIx n d none=d:=rfl
theorem sIx_nat (n d k:Nat):sIx n d (some (k:Int))=min k n:=by show(if(k:Int)<0 then((k:Int)+(n:Int)).toNat else min (k:Int).toNat n)=min k n;rw[if_neg (by omega),gb]
theorem R8 (n d:Nat) (hd:d<=n) (o:Option Int):sIx n d o<=n:=by
 cases o with
 |none=>exact hd
 |some v=>
  show(if v<0 then(v+(n:Int)).toNat else min v.toNat n)<=n
  by_cases hv:v<0
  ·rw[if_pos hv];omega
  ·rw[if_neg hv];exact Nat.min_le_right _ _
theorem GC (v:Int) (n d:Nat):(if v<0 then max (v+(n:Int)) 0 else min v (n:Int))=((sIx n d (some v):Nat):Int):=by
 show(if v<0 then max (v+(n:Int)) 0 else min v (n:Int))=(((if v<0 then(v+(n:Int)).toNat else min v.toNat n):Nat):Int)
 by_cases hv:v<0
 ·simp only[if_pos hv];omega
 ·simp only[if_neg hv];omega
theorem R9 (lo hi:Option Int) (n:Nat):nv lo hi 1 (n:Int)=(((sIx n 0 lo:Nat):Int),((sIx n n hi:Nat):Int)):=by
 have h1:¬ ((1:Int)<0):=by omega
 unfold nv;simp only[h1,if_false];refine Prod.ext ?_ ?_
 ·cases lo with
  |none=>rfl
  |some v=>exact GC v n 0
 ·cases hi with
  |none=>rfl
  |some v=>exact GC v n n
theorem SA (i j:Nat):kd (i:Int) (j:Int) 1=j - i:=by
 unfold kd;have h1:(1:Int)>0:=by omega
 simp only[h1,if_true,Int.ediv_one]
 split <;> omega
theorem GD {v:af}{o:Option Int}{Q:Option Int->ag->Prop}(p:tu v o) (h:Q o s):wpAny (model prog w) A (Builtin.Slice.slicePartIndex v) Q E s:=by
 cases p with
 |none=>exact slicePart_none h
 |int i t=>exact slicePart_int h
theorem sliceApplied_gen {sl:ah}{vl vu:af}{lo hi:Option Int}{n:Nat}{Q:Int×Int×Nat->ag->Prop}(hs:s.heap.IsSliceOf sl vl vu .none) (pl:tu vl lo) (pu:tu vu hi)
  (h:Q (((sIx n 0 lo:Nat):Int),1,sIx n n hi - sIx n 0 lo) s):wpAny (model prog w) A (uf (.ref sl) (pure (n:Int))) Q E s:=by
 obtain⟨os,hos,hcs,hds⟩:=id hs;unfold uf Builtin.Slice.sliceFields;refine aa (aa (fv hos hds (x:=vl) rfl (aa (fv hos hds (x:=vu) rfl (aa (fv hos hds (x:=.none) rfl (ai ?_)))))));refine aa (slicePart_none ?_);show wpAny _ _ (if((1:Int)==0)=true then _ else _) _ _ s;rw[if_neg (by decide)];refine aa (GD pl (aa (GD pu (aa (ai ?_)))));show wpAny _ _ (match nv lo hi 1 (n:Int)with|(lo,hi)=>pure (lo,(1:Int),kd lo hi 1)) _ _ s;rw[R9 lo hi n];show wpAny _ _ (pure (((sIx n 0 lo:Nat):Int),(1:Int),kd ((sIx n 0 lo:Nat):Int) ((sIx n n hi:Nat):Int) 1)) _ _ s;rw[SA];exact ai h
theorem SD (xs:Array af) (i k:Nat):((bo k).filterMap λ(m:Nat)=>xs[((i:Int)+(m:Int)*1).toNat]?).toArray=((xs.toList.drop i).take k).toArray:=by
 have e:(λ(m:Nat)=>xs[((i:Int)+(m:Int)*1).toNat]?)=λm=>xs[i+m]?:=by
  funext m
  have:((i:Int)+(m:Int)*1).toNat=i+m:=by omega
  rw[this]
 rw[e];have:=pick_run xs i k;rw[List.filterMap_map]at this;have e2:((λx=>xs[x]?)∘λx=>i+x)=λm=>xs[i+m]?:=rfl;rw[e2]at this;rw[this]
theorem getItem_tuple_cut {t sl:ah}{items:Array af}{vl vu:af}{lo hi:Option Int}{Q:af->ag->Prop}(ht:IsTup s.heap t items) (hs:s.heap.IsSliceOf sl vl vu .none) (pl:tu vl lo) (pu:tu vu hi)
  (hw:¬ (sIx items.size 0 lo=0/\sIx items.size items.size hi=items.size))
  (h:Q (.ref s.heap.objs.size) { s with heap:=s.heap.push { cls:=.type "tuple",data:=.seq ((items.toList.drop (sIx items.size 0 lo)).take (sIx items.size items.size hi - sIx items.size 0 lo)).toArray } })
  (hsz:items.size<=bp):wpAny (model prog w) A (getItem (.ref t) (.ref sl)) Q E s:=by
 have htake:sizeOk (.seq ((items.toList.drop (sIx items.size 0 lo)).take (sIx items.size items.size hi - sIx items.size 0 lo)).toArray):=by show((items.toList.drop (sIx items.size 0 lo)).take (sIx items.size items.size hi - sIx items.size 0 lo)).toArray.size<=bp;rw[au,iq,nq,kv];omega
 have hj:sIx items.size items.size hi<=items.size:=R8 _ _ (ak _) hi;obtain⟨os,hos,hcs,hds⟩:=id hs;have hTs:s.TypeIs (.ref sl) "slice" := ⟨os,hos,hcs⟩;unfold getItem
 try with_reducible refine ib ?_
 first|refine aa (ai ?_)|skip
 refine aa (wpAny_sequenceKey ht.typeIs (by decide) ?_);refine aa (gm (name:=iw "__getitem__") ht.typeIs fy
  (gr fy ht.typeIs entry_tuple_getitem ?_ (args_tuple_getitem _ _)))
 show wpAny _ _ (Builtin.Tuple.tupleItemsOf (.ref t) >>= _) _ _ s;refine aa (tupleItemsOf_ ht ?_);refine aa (qh hTs ?_);rw[if_pos (by decide)];refine aa (sliceApplied_gen hs pl pu ?_);have hno:¬ ((((sIx items.size 0 lo:Nat):Int)==0&&(1:Int)==1&&(sIx items.size items.size hi - sIx items.size 0 lo)==items.size)=true):=by intro q;rw[cf,cf]at q;have q1:((sIx items.size 0 lo:Nat):Int)=0:=eq_of_beq q.1.1;have q2:sIx items.size items.size hi - sIx items.size 0 lo=items.size:=eq_of_beq q.2;exact hw ⟨by omega,by omega⟩
 show wpAny _ _ (if(((sIx items.size 0 lo:Nat):Int)==0&&(1:Int)==1&&(sIx items.size items.size hi - sIx items.size 0 lo)==items.size)=true then _ else _) _ _ s;rw[if_neg hno,SD]
 first
  |exact aa (m:=kn _) (fj (ai ⟨_,rfl,ai h⟩) htake)
  |exact aa (m:=kn _) (fj (aa (ai (ai ⟨_,rfl,ai h⟩))) htake)
  |exact aa (aa (m:=kn _) (fj (ai (ai ⟨_,rfl,ai h⟩)) htake))
  |exact aa (aa (m:=kn _) (fj (ai ⟨_,rfl,ai h⟩) htake))
end
end HT
namespace L2
open PySem PySem.Spec PyProof.Rows
abbrev TO:=St->Hp->(Option Int->Hp->Prop)->Prop
def PO (X:Cx) (e:Option bj) (t:TO):Prop:=
 ∀(pins:List (ah×Obj)) (s:ag) (σ:St) (H:Hp) (Q:Option Int->Hp->Prop),Inv X pins σ H s->t σ H Q->
  wpAny (model X.prog X.w) X.A (evalPart e X.env) (λu s'=>∃o H',Inv X pins σ H' s'/\tu u o/\Q o H') X.xe s
def SE:TO:=λ_ H Q=>Q none H
def SF (t:TE):TO:=λσ H Q=>t σ H λx H1=>∃i,x=.int i/\Q (some i) H1
theorem GF {ns:List Int}:∀{us:List af},Vals (ns.map V.int) us->mn us ns:=by
 induction ns with
 |nil=>intro us r;rw[List.map_nil]at r;cases r;exact .nil
 |cons n ns ih=>
  intro us r;rw[cy]at r
  cases r with
  |cons r1 r2=>obtain⟨t,e⟩:=r1;subst e;exact .cons n t (ih r2)
section
variable{X:Cx}{e:bj}{te:TE}{lo hi:Option bj}{tl th:TO}{pos p2:Pos}
theorem SG:PO X none SE:=by intro pins s σ H Q I h;rw[evalPart_none];exact ai ⟨none,H,I,.none,h⟩
theorem SH (h:PE X e te):PO X (some e) (SF te):=by intro pins s σ H Q I hw;rw[evalPart_some];refine aW (h pins s σ H _ I hw) λu s1 ⟨x,H1,I1,r1,q1⟩=>?_;obtain⟨i,rfl,q⟩:=q1;obtain⟨t,rfl⟩:=r1;exact⟨some i,H1,I1,.int i t,q⟩
def SlR (X:Cx) (r:V->Option Int->Option Int->Hp->VK->Prop):Prop:=
 ∀(pins:List (ah×Obj)) (s:ag) (σ:St) (H:Hp) (x:V) (v vl vu:af) (lo hi:Option Int) (sl:ah) (Q:VK),Inv X pins σ H s->RelV x v->s.heap.IsSliceOf sl vl vu .none->tu vl lo->tu vu hi->r x lo hi H Q->
  ∃T id,typeLookup (.type T) "__getitem__" = pure (some (.builtin id))/\s.TypeIs v T/\wpAny (model X.prog X.w) X.A (getItem v (.ref sl)) (EP X pins σ Q) X.xe s
theorem SlR.or {r r':V->Option Int->Option Int->Hp->VK->Prop}(h:SlR X r) (h':SlR X r'):SlR X (λx lo hi H Q=>r x lo hi H Q∨r' x lo hi H Q):=by
 intro pins s σ H x v vl vu lo hi sl Q I rx hs pl pu q
 rcases q with q|q
 ·exact h pins s σ H x v vl vu lo hi sl Q I rx hs pl pu q
 ·exact h' pins s σ H x v vl vu lo hi sl Q I rx hs pl pu q
def SI (r:V->Option Int->Option Int->Hp->VK->Prop) (te:TE) (tl th:TO):TE:=λσ H Q=>te σ H λx H1=>tl σ H1 λl H2=>th σ H2 λu H3=>r x l u H3 Q
theorem GG {r:V->Option Int->Option Int->Hp->VK->Prop}(hr:SlR X r) (he:PE X e te) (hl:PO X lo tl) (hu:PO X hi th):PE X (.Subscript e (.Slice lo hi none p2) pos) (SI r te tl th):=by intro pins s σ H Q I h;refine Subscript_ (aW (he pins s σ H _ I h) λv s1 ⟨x,H1,I1,r1,q1⟩=>?_);refine wpAny_Slice (aW (hl pins s1 σ H1 _ I1 q1) λvl s2 ⟨l,H2,I2,pl,q2⟩=>aW (hu pins s2 σ H2 _ I2 q2) λvu s3 ⟨u,H3,I3,pu,q3⟩=>?_);rw[evalPart_none];refine ai ?_;have I4:Inv X pins σ H3 { s3 with heap:=s3.heap.push { cls:=.type "slice",data:=.fields #[vl,vu,.none] } }:=I3.kept (t':=s3.toks) λb ob q=>aj _ q;obtain⟨T,id,hT,ht,hg⟩:=hr pins { s3 with heap:=s3.heap.push { cls:=.type "slice",data:=.fields #[vl,vu,.none] } } σ H3 x v vl vu l u s3.heap.objs.size Q I4 r1 (Heap.IsSliceOf.new ..) pl pu q3;show wpAny (model X.prog X.w) X.A (subscriptTail e (.Slice lo hi none p2) v (.ref s3.heap.objs.size)) (EP X pins σ Q) X.xe { s3 with heap:=s3.heap.push { cls:=.type "slice",data:=.fields #[vl,vu,.none] } };exact tail_any (ops:=[.ref s3.heap.objs.size,v]) ht hT hg (by with_unfolding_all rfl)
def oC (xs:List V) (lo hi:Option Int):List V:=(xs.drop (HT.sIx xs.length 0 lo)).take (HT.sIx xs.length xs.length hi - HT.sIx xs.length 0 lo)
theorem GH (xs:List V) (lo hi:Option Int):(oC xs lo hi).length<=xs.length:=by unfold oC;rw[iq,nq];omega
def SJ (K:ar):V->Option Int->Option Int->Hp->VK->Prop:=λx lo hi H Q=>∃a xs,x=.ref a/\SqT K H a xs /\
 ¬ (HT.sIx xs.length 0 lo=0/\HT.sIx xs.length xs.length hi=xs.length)/\∀p,H p=none->Q (.ref p) (aQ H p (.tup (oC xs lo hi)))
theorem SK:SlR X (SJ X.K):=by
 intro pins s σ H x v vl vu lo hi sl Q I rx hs pl pu h;obtain⟨a,xs,rfl,hx,hw,q⟩:=h;cases rx;obtain⟨its,r,ht,hz⟩:=I.tuple hx;have hlen:its.toArray.size=xs.length:=by rw[au];exact r.length.symm
 refine⟨"tuple",_,fy.lookup,ht.typeIs, ?_⟩;refine HT.getItem_tuple_cut ht hs pl pu (by rw[hlen];exact hw) ?_ (by rw[hlen];exact hz);rw[hlen];refine⟨.ref s.heap.objs.size,_,I.laid (t':=s.toks) (o:=.tup (oC xs lo hi)) (λb ob q=>aj _ q) (ak _) ?_,rfl,q _ (I.hok.fresh (ak _))⟩;exact⟨du (GH xs lo hi) hz,_,(r.drop (HT.sIx xs.length 0 lo)).take (HT.sIx xs.length xs.length hi - HT.sIx xs.length 0 lo),IsTupX.new _ _⟩
def GI (K:ar):R2:=λx y H Q=>∃a b ns ms,x=.ref a/\y=.ref b/\SqT K H a (ns.map V.int)/\SqT K H b (ms.map V.int)/\Q (.bl (HT.lexLt ns ms)) H
theorem GJ (hu:X.A.units<cLine):OpR X (compareOp .Lt) (GI X.K):=by intro pins s σ H x y v u Q I rx ry h;obtain⟨a,b,ns,ms,rfl,rfl,ha,hb,q⟩:=h;cases rx;cases ry;obtain⟨its,r1,p1,_⟩:=I.tuple ha;obtain⟨its2,r2,p2,_⟩:=I.tuple hb;have i1:mn its.toArray.toList ns:=GF r1;have i2:mn its2.toArray.toList ms:=GF r2;exact HT.lt_tupInts p1 p2 i1 i2 hu ⟨.bl (HT.lexLt ns ms),H,I,rfl,q⟩
def GK (K:ar):R2:=λx y H Q=>∃a b xs ys,x=.ref a/\y=.ref b/\SqT K H a xs/\SqT K H b ys/\xs≠[]/\xs.length+ys.length<=bp /\
 (ys=[]->Q (.ref a) H)/\(ys≠[]->∀p,H p=none->Q (.ref p) (aQ H p (.tup (xs++ys))))
theorem Vals.nil_iff {xs:List V}{us:List af}(r:Vals xs us):us=[]↔xs=[]:=by
 cases r with
 |nil=>simp
 |cons _ _=>simp
theorem SN:OpR X (binaryOp .Add) (GK X.K):=by intro pins s σ H x y v u Q I rx ry h;obtain⟨a,b,xs,ys,rfl,rfl,ha,hb,hx,hz,q1,q2⟩:=h;cases rx;cases ry;obtain⟨its,r1,p1,_⟩:=I.tuple ha;obtain⟨its2,r2,p2,_⟩:=I.tuple hb;refine HT.cat_tup p1 p2 (λz=>hx (r1.nil_iff.mp z)) (λz=>⟨.ref a,H,I,rfl,q1 (r2.nil_iff.mp z)⟩) (λz=>?_) (by rw[<-r1.length,<-r2.length];exact hz);refine⟨.ref s.heap.objs.size,_,I.laid (t':=s.toks) (o:=.tup (xs++ys)) (λb ob q=>aj _ q) (ak _) ?_,rfl,q2 (λw=>z (r2.nil_iff.mpr w)) _ (I.hok.fresh (ak _))⟩;exact⟨by rw[br];exact hz,_,r1.append r2,IsTupX.new _ _⟩
end
def fI (n:Nat) (i:Int):Option Nat:=if 0<=i then(if i<n then some i.toNat else none)else if -(n:Int)<=i then some (i+n).toNat else none
def fS {α:Type}(xs:List α) (i:Int):Option α:=(fI xs.length i).bind λj=>xs[j]?
theorem AN {n:Nat}{i:Int}{j:Nat}(h:fI n i=some j):seqIndex? i n=some j/\j<n/\-(n:Int)<=i/\i<n:=by
 unfold fI at h
 by_cases h0:0<=i
 ·rw[if_pos h0]at h
  by_cases h1:i<n
  ·rw[if_pos h1]at h;have e:i.toNat=j:=cg h;exact⟨by rw[seqIndex_of h0 h1,e],by omega,by omega,h1⟩
  ·rw[if_neg h1]at h;cases h
 ·rw[if_neg h0]at h
  by_cases h1 : -(n:Int)<=i
  ·rw[if_pos h1]at h;have e:(i+n).toNat=j:=cg h;exact⟨by rw[seqIndex_neg (by omega) h1,e],by omega,h1,by omega⟩
  ·rw[if_neg h1]at h;cases h
theorem AO {α:Type}{xs:List α}{i:Int}{v:α}(h:fS xs i=some v):∃j,seqIndex? i xs.length=some j/\xs[j]?=some v/\j<xs.length/\-(xs.length:Int)<=i/\i<xs.length:=by
 unfold fS at h
 cases e:fI xs.length i with
 |none=>rw[e]at h;cases h
 |some j=>rw[e]at h;obtain⟨h1,h2,h3,h4⟩:=AN e;exact⟨j,h1,h,h2,h3,h4⟩
def sP (b:bj):Prop:=∀o i,subscripted b false o i=operate [o,i] (getItem o i)
def IxR (X:Cx) (r:R2):Prop:=
 ∀(value slice:bj) (pins:List (ah×Obj)) (s:ag) (σ:St) (H:Hp) (x y:V) (v u:af) (Q:VK),Inv X pins σ H s->RelV x v->RelV y u->r x y H Q->
  subscripted slice false v u=operate [v,u] (getItem v u)->wpAny (model X.prog X.w) X.A (subscriptTail value slice v u) (EP X pins σ Q) X.xe s
def sQ (X:Cx) (id:String) (r:V->List V->Hp->VK->Prop):Prop:=
 ∀(pins:List (ah×Obj)) (s:ag) (σ:St) (H:Hp) (x:V) (xs:List V) (v:af) (us:List af) (Q:VK),Inv X pins σ H s->RelV x v->Vals xs us->r x xs H Q->
  wpAny (model X.prog X.w) X.A (call (.builtin id) (v::us)) (EP X pins σ Q) X.xe s
section
variable{X:Cx}{a b:bj}{ta tb:TE}{pos:Pos}
theorem IxR.or {r r':R2}(h:IxR X r) (h':IxR X r'):IxR X (λx y H Q=>r x y H Q∨r' x y H Q):=by
 intro value slice pins s σ H x y v u Q I rx ry q hs
 rcases q with q|q
 ·exact h value slice pins s σ H x y v u Q I rx ry q hs
 ·exact h' value slice pins s σ H x y v u Q I rx ry q hs
theorem AQ {r:R2}(hr:IxR X r) (ha:PE X a ta) (hb:PE X b tb) (hs:sP b):PE X (.Subscript a b pos) (sL r ta tb):=by intro pins s σ H Q I h;exact Subscript_ (AI ha hb I h λv u s2 x y H2 I2 rx ry q=>hr a b pins s2 σ H2 x y v u Q I2 rx ry q (hs _ _))
def GL (K:ar):R2:=λx y H Q=>∃p xs i v,x=.ref p/\y=.int i/\SqL K H p xs/\fS xs i=some v/\Q v H
def GN (K:ar):R2:=λx y H Q=>∃p xs i v,x=.ref p/\y=.int i/\SqT K H p xs/\fS xs i=some v/\Q v H
def AR:R2:=λx y H Q=>∃z i c,x=.str z/\y=.int i/\z.length<=bp/\fS z.cps.toList i=some c/\Q (.str ⟨#[c]⟩) H
theorem ix_list:IxR X (GL X.K):=by
 intro value slice pins s σ H x y v u Q I rx ry h hs;obtain⟨p,xs,i,z,rfl,rfl,hq,he,q⟩:=h;cases rx;obtain⟨t,rfl⟩:=ry;obtain⟨its,r,pl,hz⟩:=I.list hq;obtain⟨j,h1,h2,h3,h4,h5⟩:=AO he;obtain⟨w,ew,rw'⟩:=r.get h2;have hl:=r.length;have hn:=pP;have fin:EP X pins σ Q w s:=⟨z,H,I,rw',q⟩
 by_cases h0:0<=i
 ·have hj:i.toNat=j:=by rw[seqIndex_of h0 h5]at h1;exact cg h1
  exact item_listR pl.isList h0 (by omega) (by rw[hj];simpa using ew) fin hs
 ·have hj:(i+(its.toArray.size:Int)).toNat=j:=by rw[seqIndex_neg (by omega) h4]at h1;rw[au,<-hl];exact cg h1
  exact subscriptTail_builtinR (x:=w) pl.isList.typeIs slot_list_getitem.lookup
   (wpAny_getItem_list_neg (Q:=λr s'=>r=w/\EP X pins σ Q r s') pl.isList (by omega) (by rw[au] <;> omega) (by omega) (by rw[hj];simpa using ew) ⟨rfl,fin⟩) hs
theorem ix_tup:IxR X (GN X.K):=by
 intro value slice pins s σ H x y v u Q I rx ry h hs;obtain⟨p,xs,i,z,rfl,rfl,hq,he,q⟩:=h;cases rx;obtain⟨t,rfl⟩:=ry;obtain⟨its,r,pl,hz⟩:=I.tuple hq;obtain⟨j,h1,h2,h3,h4,h5⟩:=AO he;obtain⟨w,ew,rw'⟩:=r.get h2;have hl:=r.length;have hn:=pP;have fin:EP X pins σ Q w s:=⟨z,H,I,rw',q⟩
 exact subscriptTail_builtinR (x:=w) pl.typeIs slot_tuple_getitem.lookup
  (getItem_tuple (j:=j) (Q:=λr s'=>r=w/\EP X pins σ Q r s') pl (by omega) (by omega) (by rw[au,<-hl];exact h1) (by simpa using ew) ⟨rfl,fin⟩) hs
theorem GO:IxR X AR:=by
 intro value slice pins s σ H x y v u Q I rx ry h hs;obtain⟨z,i,c,rfl,rfl,hz,he,q⟩:=h;obtain⟨t,rfl⟩:=rx;obtain⟨t',rfl⟩:=ry;obtain⟨j,h1,h2,h3,h4,h5⟩:=AO he;have hl:z.cps.toList.length=z.length:=by simp[og]
 rw[hl]at h1 h4 h5;have hn:=pP;exact tail_any (Aw s z t) slot_str_getitem.lookup (getItem_str (c:=c) (by have e1:decide (i < -(2 ^ 63:Int))=false:=decide_eq_false (by omega);have e2:decide (i>=2 ^ 63)=false:=decide_eq_false (by omega);rw[e1,e2,Bool.or_false]) (by rw[h1];simpa using h2) ⟨.str ⟨#[c]⟩,H,I.tok _,⟨_,rfl⟩,q⟩) hs
def AS (K:ar):R2:=λx y H Q=>GL K x y H Q∨GN K x y H Q∨AR x y H Q
theorem GP:IxR X (AS X.K):=ix_list.or (ix_tup.or GO)
theorem SO (its:List af) (n j:Nat) (u:af):oh (·.setIfInBounds j u) { cls:=.type "list",data:=.seq its.toArray n }={ cls:=.type "list",data:=.seq (its.set j u).toArray n }:=by simp[oh]
theorem Inv.lst {pins:List (ah×Obj)}{σ:St}{H:Hp}{s:ag}{p:ah}{xs:List V}(I:Inv X pins σ H s) (h:H p=some (.lst xs)):
  ∃(its:List af) (n:Nat),Vals xs its/\s.heap.get? p=some { cls:=.type "list",data:=.seq its.toArray n }/\xs.length<=bp:=by
 obtain⟨z,its,n,r,e⟩:=I.hok p _ h;exact⟨its,n,r,e,z⟩
theorem Inv.lstUpd {pins:List (ah×Obj)}{σ:St}{H:Hp}{s:ag}{p:ah}{xs ys:List V}{its its':List af}{n n':Nat}{f:Obj->Obj}(I:Inv X pins σ H s) (h:H p=some (.lst xs))
  (ho:s.heap.get? p=some { cls:=.type "list",data:=.seq its.toArray n }) (hf:f { cls:=.type "list",data:=.seq its.toArray n }={ cls:=.type "list",data:=.seq its'.toArray n' }) (r:Vals ys its') (hz:ys.length<=bp) (t:Nat):
  Inv X pins σ (aQ H p (.lst ys)) { s with heap:=s.heap.update p f,toks:=t }:=by
 have e:(s.heap.update p f).get? p=some { cls:=.type "list",data:=.seq its'.toArray n' }:=by rw[nj f ho (by rw[hf] <;> rfl),hf]
 refine I.write (x:=p) (e:=p) (by rw[h];trivial) (.inl rfl) (λb u hb q=>(mr _ _ (de hb)).trans q) ⟨_,e⟩ ?_;exact⟨hz,its',n',r,e⟩
def SQ:V->V->V->Hp->(Hp->Prop)->Prop:=λo i v H Q=>∃p xs k j,o=.ref p/\i=.int k/\H p=some (.lst xs)/\fI xs.length k=some j/\Q (aQ H p (.lst (xs.set j v)))
theorem SS:FQ X SQ:=by
 intro pins s σ H o i v ov iv u Q I ro ri rv h;obtain⟨p,xs,k,j,rfl,rfl,hp,hj,q⟩:=h;cases ro;obtain⟨t,rfl⟩:=ri;obtain⟨its,n,r,ho,hz⟩:=I.lst hp;obtain⟨h1,h2,h3,h4⟩:=AN hj;have hl:=r.length;have hn:=pP;have I':Inv X pins σ (aQ H p (.lst (xs.set j v))) { s with heap:=s.heap.update p (oh (·.setIfInBounds j u)) }:=I.lstUpd hp ho (SO its n j u) (r.set rv j) (by rw[kg];exact hz) s.toks
 by_cases h0:0<=k
 ·have hk:k.toNat=j:=by rw[seqIndex_of h0 h4]at h1;exact cg h1
  exact PySem.W.ki_setAt ho h0 (by omega) (by rw[au,<-hl];exact h4) (by rw[hk];exact⟨_,I',q⟩)
 ·have hk:(k+(its.toArray.size:Int)).toNat=j:=by rw[seqIndex_neg (by omega) h3]at h1;rw[au,<-hl];exact cg h1
  exact PySem.W.ki_setBack ho (by omega) (by rw[au,<-hl];exact h3) (by omega) (by rw[hk];exact⟨_,I',q⟩)
theorem SU (lo hi:Option Int) (n:Nat):(sliceBounds lo hi none n).1=((HT.sIx n 0 lo:Nat):Int)/\(sliceBounds lo hi none n).2.1=((HT.sIx n n hi:Nat):Int)/\(sliceBounds lo hi none n).2.2=1:=by
 refine⟨?_, ?_,rfl⟩
 ·cases lo with
  |none=>simp[sliceBounds,HT.sIx]
  |some i=>
   simp only[sliceBounds,HT.sIx,Option.getD_none,show(1:Int)>0 by decide,if_true]
   by_cases h:i<0
   ·simp only[h,if_true] <;> omega
   ·simp only[h,if_false] <;> omega
 ·cases hi with
  |none=>simp[sliceBounds,HT.sIx]
  |some i=>
   simp only[sliceBounds,HT.sIx,Option.getD_none,show(1:Int)>0 by decide,if_true]
   by_cases h:i<0
   ·simp only[h,if_true] <;> omega
   ·simp only[h,if_false] <;> omega
theorem SV (its:List af) (lo hi:Option Int):slicePick its.toArray lo hi none=((its.drop (HT.sIx its.length 0 lo)).take (HT.sIx its.length its.length hi - HT.sIx its.length 0 lo)).toArray:=by obtain⟨h1,h2,h3⟩:=SU lo hi its.toArray.size;unfold slicePick;rw[h1,h2,h3];simp only[sliceRange_one,pick_run,au] <;> rfl
def SX (K:ar):V->Option Int->Option Int->Hp->VK->Prop:=λx lo hi H Q=>∃a xs,x=.ref a/\SqL K H a xs/\∀p,H p=none->Q (.ref p) (aQ H p (.lst (oC xs lo hi)))
theorem SY:SlR X (SX X.K):=by intro pins s σ H x v vl vu lo hi sl Q I rx hs pl pu h;obtain⟨a,xs,rfl,hx,q⟩:=h;cases rx;obtain⟨its,r,ht,hz⟩:=I.list hx;have hlen:=r.length;refine⟨"list",_,slot_list_getitem.lookup,ht.isList.typeIs, ?_⟩;refine wpAny_getItem_list_slice ht.isList hs pl pu .none (by simp) ?_ (by rw[au] <;> omega);rw[SV,<-hlen];refine⟨.ref s.heap.objs.size,_,I.laid (t':=s.toks) (o:=.lst (oC xs lo hi)) (λb ob q=>aj _ q) (ak _) ?_,rfl,q _ (I.hok.fresh (ak _))⟩;exact⟨du (GH xs lo hi) hz,_,0,(r.drop (HT.sIx xs.length 0 lo)).take (HT.sIx xs.length xs.length hi - HT.sIx xs.length 0 lo),az _ rfl⟩
theorem GQ:CallR X (.builtin "len") (λxs H Q=>∃p ys,xs=[.ref p]/\(SqL X.K H p ys∨SqT X.K H p ys)/\Q (.int ys.length) H):=by
 intro pins s σ H xs us Q I r h;obtain⟨p,ys,rfl,hq,q⟩:=h;obtain⟨u,rfl,rx⟩:=gD r;cases rx;have hn:=pP
 rcases hq with hq|hq
 ·obtain⟨its,r',pl,hz⟩:=I.list hq;have hlen:=r'.length;exact Bj pl.isList (by simp only[au] <;> omega) ⟨.int ys.length,H,I.tok _,⟨s.toks+1,by rw[au,hlen]⟩,q⟩
 ·obtain⟨its,r',pl,hz⟩:=I.tuple hq;have hlen:=r'.length;exact len_tuple pl (by simp only[au] <;> omega) ⟨.int ys.length,H,I.tok _,⟨s.toks+1,by rw[au,hlen]⟩,q⟩
theorem S0:CallR X (.type "list") (λxs H Q=>∃p ys,xs=[.ref p]/\(SqL X.K H p ys∨SqT X.K H p ys)/\∀l,H l=none->Q (.ref l) (aQ H l (.lst ys))):=by
 intro pins s σ H xs us Q I r h;obtain⟨p,ys,rfl,hq,q⟩:=h;obtain⟨u,rfl,rx⟩:=gD r;cases rx;have fin:∀(its:List af),Vals ys its->ys.length<=bp->∀(h':cx) (c':Nat),(∀b o',s.heap.get? b=some o'->h'.get? b=some o')->
   h'.get? s.heap.objs.size=some { cls:=.type "list",dict:=none,data:=.seq its.toArray c',slots:=#[] }->EP X pins σ Q (.ref s.heap.objs.size) { s with heap:=h' }:=λits r' hz h' c' kp e=>
  ⟨.ref s.heap.objs.size,_,I.laid (t':=s.toks) kp (ak _) (show ObjOk X.prog X.w _ h' _ (.lst ys) from⟨hz,its,c',r',e⟩),rfl,q _ (I.hok.fresh (ak _))⟩
 rcases hq with hq|hq
 ·obtain⟨its,r',pl,hz⟩:=I.list hq;have hlen:=r'.length;obtain⟨o,ho,hc,n,hd⟩:=pl.isList;exact call_list_seq p (.inl rfl) ho hc hd (λh' c' kp e=>fin its r' hz h' c' kp e) (by simp only[au] <;> omega)
 ·obtain⟨its,r',pl,hz⟩:=I.tuple hq;have hlen:=r'.length;obtain⟨o,ho,hc,n,hd⟩:=pl;exact call_list_seq p (.inr rfl) ho hc hd (λh' c' kp e=>fin its r' hz h' c' kp e) (by simp only[au] <;> omega)
theorem GR:CallR X (.type "tuple") (λxs H Q=>∃p ys,xs=[.ref p]/\((SqL X.K H p ys/\∀l,H l=none->Q (.ref l) (aQ H l (.tup ys)))∨(SqT X.K H p ys/\Q (.ref p) H))):=by
 intro pins s σ H xs us Q I r h;obtain⟨p,ys,rfl,h⟩:=h;obtain⟨u,rfl,rx⟩:=gD r;cases rx
 rcases h with⟨hq,q⟩|⟨hq,q⟩
 ·obtain⟨its,r',pl,hz⟩:=I.list hq;have hlen:=r'.length;refine call_tuple_list pl.isList (λh' kp=>?_) (by simp only[au] <;> omega);have I1:Inv X pins σ H { s with heap:=h' }:=I.kept (t':=s.toks) kp;have I2:Inv X pins σ (aQ H h'.objs.size (.tup ys)) { s with heap:=h'.push { cls:=.type "tuple",data:=.seq its.toArray } }:=I1.laid (t':=s.toks) (λb o e=>aj _ e) (ak _) (show ObjOk X.prog X.w _ _ _ (.tup ys) from⟨hz,its,r',IsTupX.new _ _⟩);exact⟨.ref h'.objs.size,_,I2,rfl,q _ (I1.hok.fresh (ak _))⟩
 ·obtain⟨its,r',pl,hz⟩:=I.tuple hq;exact call_tuple_same pl ⟨.ref p,H,I,rfl,q⟩
def vM (K:ar) (T:String) (x:V) (H:Hp):Prop:=match x with
 | .str _=>T = "str"
 | .int _=>T = "int"
 | .ref p=>(T = "list"/\∃xs,SqL K H p xs)∨(T = "tuple"/\∃o,K.lookup p=some o/\o.cls=.type "tuple"/\o.dict=none) ∨
   (T = "dict"/\((∃kvs,H p=some (.dK kvs))∨∃kvs,H p=some (.dT kvs)))∨(T = "set"/\∃S n,H p=some (.set S n))
 |_=>False
theorem S1 {pins:List (ah×Obj)}{σ:St}{H:Hp}{s:ag}{T:String}{x:V}{v:af}(I:Inv X pins σ H s) (r:RelV x v) (ty:vM X.K T x H):
  s.TypeIs v T/\∀a,v=.ref a->∃ob,s.heap.get? a=some ob/\ob.dict=none:=by
 cases x with
 |str z=>
  obtain⟨t,rfl⟩:=r
  cases (show T = "str" from ty)
  exact⟨Aw s z t,λ_ e=>nomatch e⟩
 |int i=>
  obtain⟨t,rfl⟩:=r
  cases (show T = "int" from ty)
  exact⟨typeIs_int s i t,λ_ e=>nomatch e⟩
 |ref p=>
  cases r
  rcases ty with⟨rfl,xs,hq⟩|⟨rfl,o,hk,hc,hd⟩|⟨rfl,hk⟩|⟨rfl,S,n,hk⟩
  ·obtain⟨its,_,pl,_⟩:=I.list hq;refine⟨pl.isList.typeIs,λa e=>?_⟩;cases e;obtain⟨o,n,e,c,hd,_⟩:=pl;exact⟨o,e,hd⟩
  ·refine⟨⟨o,I.kIn p o hk,hc⟩,λa e=>?_⟩;cases e;exact⟨o,I.kIn _ o hk,hd⟩
  ·have z:∃o,s.heap.get? p=some o/\o.ExactDict:=by
    rcases hk with⟨kvs,hk⟩|⟨kvs,hk⟩
    ·obtain⟨_,_,_,_,o,_,_,e,ex,_⟩:=I.hok p _ hk;exact⟨o,e,ex⟩
    ·obtain⟨_,_,_,_,o,_,_,e,ex,_⟩:=I.hok p _ hk;exact⟨o,e,ex⟩
   obtain⟨o,e,ex⟩:=z;refine⟨⟨o,e,ex.1⟩,λa e2=>?_⟩;cases e2;exact⟨o,e,ex.2.1⟩
  ·obtain⟨o,_,_,_,e,ex,_⟩:=I.hok p _ hk;refine⟨⟨o,e,ex.1⟩,λa e2=>?_⟩;cases e2;exact⟨o,e,ex.2.1⟩
 |_=>exact gq ty
def S3 (K:ar) (T:String) (r:V->List V->Hp->VK->Prop) (to:TE) (t:TA):TE:=λσ H Q=>to σ H λx H1=>vM K T x H1/\t σ H1 λxs H2=>r x xs H2 Q
variable{o e:bj}{es:List bj}{to:TE}{t:TA}{name:Str}{apos cpos:Pos}{T id:String}{r:V->List V->Hp->VK->Prop}
theorem AU (pa:PlainAttrs T) (slot:Slot T name id) (hty:typeOf (.builtin id)=pure (.type "method_descriptor")) (hm:sQ X id r) (ho:PE X o to) (ha:PA X (e::es) t)
  (hbase:attributeBase o name X.env (eval o X.env)=eval o X.env:=by rfl)
  (hfew:((backTo cpos (ao (e::es) X.env)).all (λx=>!x.1)&&(backToKw cpos (keywordEach [] X.env)).all (λx=>x.1.isSome)
   && decide ((e::es).length+([]:List Keyword).length+(if([]:List Keyword).isEmpty then 0 else 1)<30))=true:=by rfl)
  (hline:(apos.endLine==cpos.line)=true:=by rfl) (hs:ao (e::es) X.env=(false,eval e X.env)::ao es X.env:=by rfl) (hplain:(backTo cpos (ao es X.env)).any (·.1)=false:=by rfl):
  PE X (.Call (.Attribute o name apos) (e::es) [] cpos) (S3 X.K T r to t):=by
 intro pins s σ H Q I h;refine wpAny_Call_method_late hbase hfew hline rfl (aW (ho pins s σ H _ I h) λv s1 ⟨x,H1,I1,r1,ty,q1⟩=>?_);obtain⟨h1,h2⟩:=S1 I1 r1 ty;refine⟨T,id,pa,slot,hty,h1,h2, ?_⟩;have hA:=ha cpos pins s1 σ H1 _ I1 q1;rw[hs]at hA ⊢;refine Ah (by show(false||(backTo cpos (ao es X.env)).any (·.1))=false;rw[hplain] <;> rfl) (tj ?_);exact aW hA λus s2 ⟨vs,H2,I2,r2,q2⟩=>hm pins s2 σ H2 x vs v us Q I2 r1 r2 q2
end
def AV (X:Cx) (id:String) (r:V->List V->Hp->VK->Prop):Prop:=
 ∀(pins:List (ah×Obj)) (s:ag) (σ:St) (H:Hp) (x:V) (xs:List V) (v:af) (us:List af) (Q:VK),Inv X pins σ H s->RelV x v->Vals xs us->r x xs H Q->
  wpAny (model X.prog X.w) X.A (call (.builtin id) (v::us)) (EP X pins σ Q) X.xe s
theorem Vals.one:∀{x:V}{us:List af},Vals [x] us->∃u,us=[u]/\RelV x u
 |_,_,.cons r .nil=>⟨_,rfl,r⟩
theorem Vals.eraseIdx:∀{xs:List V}{us:List af}(i:Nat),Vals xs us->Vals (xs.eraseIdx i) (us.eraseIdx i)
 |_,_,_,.nil=>.nil
 |_,_,0,.cons _ t=>t
 |_,_,i+1,.cons r t=>.cons r (Vals.eraseIdx i t)
theorem GS {α:Type}:∀(l:List α) (i:Nat),(l.eraseIdx i).length<=l.length
 | [],_=>ak _
 |_::_,0=>Nat.le_succ _
 |_::r,i+1=>Nat.succ_le_succ (GS r i)
section
variable{X:Cx}{pins:List (ah×Obj)}{σ:St}{H:Hp}{s:ag}{l b:ah}{xs ys zs:List V}
theorem Inv.lset {its its':List af}{n:Nat}{f:Array af->Array af}{t':Nat}(I:Inv X pins σ H s) (hH:H l=some (.lst xs))
  (e:s.heap.get? l=some { cls:=.type "list",data:=.seq its.toArray n }) (hf:f its.toArray=its'.toArray) (hv:Vals ys its') (hz:ys.length<=bp):
  Inv X pins σ (aQ H l (.lst ys)) { s with heap:=s.heap.update l (oh f),toks:=t' }:=by
 have q:=Ax e f;rw[hf]at q;refine I.write (x:=l) (e:=l) (by rw[hH];exact trivial) (.inl rfl) (λb' u hb hu=>(mr s.heap (oh f) (de hb)).trans hu) ⟨_,q⟩ ?_;exact⟨hz,its',_,hv,q⟩
theorem Inv.lnew {its:List af}{t':Nat}(I:Inv X pins σ H s) (hv:Vals ys its) (hz:ys.length<=bp):
  Inv X pins σ (aQ H s.heap.objs.size (.lst ys)) { s with heap:=s.heap.push { cls:=.type "list",data:=.seq its.toArray },toks:=t' }:=
 I.laid (λ_ _ q=>aj _ q) (ak _) ⟨hz,its,0,hv,az _ rfl⟩
theorem Inv.fresh (I:Inv X pins σ H s):H s.heap.objs.size=none:=I.hok.fresh (ak _)
theorem Inv.lstM (I:Inv X pins σ H s) (hH:H l=some (.lst xs)):xs.length<=bp/\∃(its:List af) (n:Nat),Vals xs its/\xs.length=its.length/\s.heap.get? l=some { cls:=.type "list",data:=.seq its.toArray n }:=by obtain⟨z,its,n,r,e⟩:=I.hok l _ hH;exact⟨z,its,n,r,r.length,e⟩
theorem S4 {n:Nat}(h:n<=bp):ow n=false:=by unfold ow;exact decide_eq_false (by omega)
end
section
variable{X:Cx}
def S5:V->List V->Hp->VK->Prop:=λx vs H Q=>∃l xs y,x=.ref l/\vs=[y]/\H l=some (.lst xs)/\xs.length<bp/\Q .non (aQ H l (.lst (xs++[y])))
theorem S6:AV X "list.append" S5:=by intro pins s σ H x vs v us Q I rx rv h;obtain⟨l,xs,y,rfl,rfl,hH,hz,q⟩:=h;cases rx;obtain⟨u,rfl,ru⟩:=rv.one;obtain⟨z,its,n,r,hl,e⟩:=I.lstM hH;refine Ay F.slot_list_append ⟨_,e,rfl⟩ F.entry_list_append (F.args_list_append_2 _ _) (PySem.list_append l its.toArray n u (by rw[au];omega)) ⟨e, ?_⟩;refine⟨.non,_,I.lset (its':=its++[u]) hH e (by simp) (r.append (.cons ru .nil)) ?_,rfl,q⟩;rw[br,Az];omega
def S7:V->List V->Hp->VK->Prop:=λx vs H Q=>∃l b xs zs,x=.ref l/\vs=[.ref b]/\H l=some (.lst xs)/\H b=some (.lst zs)/\xs.length+zs.length<=bp/\Q .non (aQ H l (.lst (xs++zs)))
theorem S8:AV X "list.extend" S7:=by
 intro pins s σ H x vs v us Q I rx rv h;obtain⟨l,b,xs,zs,rfl,rfl,hH,hB,hz,q⟩:=h;cases rx;obtain⟨u,rfl,ru⟩:=rv.one;cases ru;obtain⟨z,its,n,r,hl,e⟩:=I.lstM hH;obtain⟨z2,its2,n2,r2,hl2,e2⟩:=I.lstM hB;have hsz:its.toArray.size+its2.toArray.size<=bp:=by rw[au,au];omega
 have hlong:¬ (!its.toArray.isEmpty&&ow (its.toArray.size+its2.toArray.size))=true:=by rw[S4 hsz,pg];exact ik
 refine Ay F.slot_list_extend ⟨_,e,rfl⟩ F.entry_list_extend (F.args_list_extend_2 _ _)
  (AutoSeq1.list_extend_list_list_0 l its.toArray n b its2.toArray n2 hlong (by rw[au];omega) (by omega)) ⟨e,e2, ?_⟩
 refine⟨.non,_,I.lset (its':=its++its2) hH e (by simp) (r.append r2) ?_,rfl,q⟩;rw[br];omega
def S9:V->List V->Hp->VK->Prop:=λx vs H Q=>∃l xs i k y,x=.ref l/\vs=[.int i]/\H l=some (.lst xs)/\-(2 ^ 63)<=i/\i<2 ^ 63/\seqIndex? i xs.length=some k/\xs[k]?=some y/\Q y (aQ H l (.lst (xs.eraseIdx k)))
theorem TB:AV X "list.pop" S9:=by
 intro pins s σ H x vs v us Q I rx rv h;obtain⟨l,xs,i,k,y,rfl,rfl,hH,h1,h2,hk,hy,q⟩:=h;cases rx;obtain⟨u,rfl,ru⟩:=rv.one;obtain⟨t,rfl⟩:=ru;obtain⟨z,its,n,r,hl,e⟩:=I.lstM hH;obtain⟨w,hw,rw'⟩:=r.get hy;refine Ay F.slot_list_pop ⟨_,e,rfl⟩ F.entry_list_pop (F.args_list_pop_2 _ _)
  (MeetsSeq.list_pop_at l its.toArray n i t k w (fitsIndex_both h1 h2) (by rw[au,<-hl];exact hk) (by rw[<-ni];exact hw) (by rw[au];omega)) ⟨e, ?_⟩
 refine⟨y,_,I.lset (its':=its.eraseIdx k) hH e ?_ (r.eraseIdx k) ?_,rw',q⟩
 ·show its.toArray.eraseIdxIfInBounds k=(its.eraseIdx k).toArray;rw[List.eraseIdxIfInBounds_toArray]
 ·have:=GS xs k;omega
def GU:R2:=λx y H Q=>∃l b xs zs,x=.ref l/\y=.ref b/\H l=some (.lst xs)/\H b=some (.lst zs)/\xs.length+zs.length<=bp/\∀p,H p=none->Q (.ref p) (aQ H p (.lst (xs++zs)))
theorem op_cat:OpR X (binaryOp .Add) GU:=by
 intro pins s σ H x y v u Q I rx ry h;obtain⟨l,b,xs,zs,rfl,rfl,hH,hB,hz,q⟩:=h;cases rx;cases ry;obtain⟨z,its,n,r,hl,e⟩:=I.lstM hH;obtain⟨z2,its2,n2,r2,hl2,e2⟩:=I.lstM hB;refine PySem.P.add_list e e2 ?_ (by rw[au,au];omega);have ea:its.toArray++its2.toArray=(its++its2).toArray:=by simp
 rw[ea];exact⟨.ref _,_,I.lnew (t':=s.toks) (r.append r2) (by rw[br];omega),rfl,q _ I.fresh⟩
end
section
variable{prog:bg}{w:cq}{A:cn}{E:af->ag->Prop}{s:ag}
set_option maxRecDepth 100000 in
end
section
variable{X:Cx}
end
end L2
namespace Att
open PySem PySem.W PySem.Calls PyProof.Rows
theorem TF {P:Params}{h:cx}:∀(ns:List Int) (vs:List af),WellAll P h vs (ns.map WData.int)->mn vs ns:=by
 intro ns
 induction ns with
 |nil=>intro vs w;rw[List.map_nil]at w;cases w;exact .nil
 |cons n ns ih=>
  intro vs w;rw[cy]at w
  cases w with
  |cons a b=>cases a;exact .cons _ _ (ih _ b)
theorem TH {l:OpenLaw}{n:Nat}(hn:l.most=some n) {P:Params}{h:cx}{args:List WData}{vals:List af}
  (hpre:l.row.toRowW.claim.pre args=true) (hwl:WellAll P h vals args):
  ∃a vs ns,vals=[gu a]/\args=[WData.list (ns.map WData.int)]/\h.get? a=some { cls:=.type "list",data:=.seq vs.toArray }/\mn vs ns/\ns.length<=n:=by
 have hsh:WShape.hasAll [] args [.list .int]=true:=(pre_splitW hpre).1;have hc:l.pre.holds [] { args:=args }=true:=(pre_splitW hpre).2;obtain⟨d,r,rfl,h1,h2⟩:=hasAllW_cons hsh;obtain rfl:=hasAllW_nil h2;obtain⟨xs,rfl,h3⟩:=hasW_list h1;obtain⟨ns,rfl⟩:=items_int h3;have hlen:ns.length<=n:=by
  unfold OpenLaw.pre at hc;have h4:(WTm.not (.lt (.lit (.int (n:Int))) (.len (.arg 0)))).holds [] { args:=[.list (ns.map .int)] }=true:=by have h4:=(holds_andW hc).1;rw[hn]at h4;exact h4
  have h5:=condW_of h4 (w_not (w_lt w_lit (w_len_list (w_arg rfl))));rw[bh]at h5;refine Nat.le_of_not_lt λq=>?_;have q':(n:Int)<((ns.length:Nat):Int):=by omega
  first
   |(rw[decide_eq_true q']at h5;exact absurd h5 (by decide))
   |(simp at h5;omega)
 cases hwl with
 |cons w1 w2=>
  cases w2
  cases w1 with
  |list ho hall=>exact⟨_,_,ns,rfl,rfl,ho,TF ns _ hall,hlen⟩
theorem TJ (l:OpenLaw) (args:List WData):l.row.toRowW.claim.post args (.bool true) args=true:=
 postW_of (r:=l.row.toRowW) (X:=(true==true))
  (show WShape.has [] (.bool true) .bool=true by first|rfl|decide|simp[WShape.has,WShape.arms,WShape.armsAll])
  (show(WTm.eq .res (.lit (.bool true))).value [] { args:=args,res:=some (.bool true),after:=args }=some (.bool (true==true)) from w_eq_bool (w_res rfl) w_lit) rfl
theorem attach_call {l:OpenLaw}{n:Nat}{q:bg}{loose:List Str}{XP:(Str->Option af)->cx->Prop}{YP:cq->cx->Prop}{d:DefRec}
  (hn:l.most=some n) (hdf:d.params.defaults=[])
  (call:∀(w:cq) (s₀ s₁:ag) (mg mb:Str->Option af) (fa:ah) (o:Obj) (pm cd doc:af) (a:ah) (vs:List af) (ns:List Int),
   Ground q loose [] XP w s₀ mg mb s₁.heap->YP w s₁.heap->
   s₁.heap.get? fa=some o->o.data=.func (docDef d.name d.params d.body d.scope pm cd doc)->s₁.heap.CodeRec cd d.name->mg d.name=some (.ref fa)->
   s₁.heap.get? a=some { cls:=.type "list",data:=.seq vs.toArray }->mn vs ns->ns.length<=n->s₁.gens=#[]->
   codeAny (model l.prog w) callerA (.call (.ref fa) ⟨[.ref a],[]⟩) (λr s'=>r=.ok (.ret (.bool true))/\OldK s₁.heap s'.heap/\s'.os=s₁.os/\rp s'.gens) s₁):
  WalkO q loose XP YP l.row.toRowW d [] (λf vs=>PySem.call f vs):=by
 intro w s₀ s₁ mg mb G Y fa o pm cd doc dV kV ho hd hcd hD hmg hg args vals as hpre hlay hrd hwl hlo;obtain rfl:dV=.none:=Dflts.none hD hdf;obtain rfl:kV=.none:=Dflts.noKw hD;obtain⟨a,vs,ns,rfl,rfl,hobj,hints,hlen⟩:=TH hn hpre hwl;refine enter_call (nu (call w s₀ s₁ mg mb fa o pm cd doc a vs ns G Y ho (fd_plain hd) hcd hmg hobj hints hlen hg) λr s' hq=>?_);obtain⟨rfl,h2,h3,h4⟩:=hq;exact⟨.inl ⟨.bool true,.bool true,[],rfl,λ_=>rfl,.bool true,TJ l _,λ_=>⟨xh,λ_ hm=>(nomatch hm)⟩⟩,h2,h3,h4⟩
section
variable{prog:bg}{w:cq}{A:cn}{E:af->ag->Prop}{s:ag}{K:Frag}
end
end Att
namespace L2
open PySem PySem.Spec PyProof.Rows
theorem GV:∀{vs:List af}{ns:List Int},mn vs ns->Vals (ns.map V.int) vs
 |_,_,.nil=>.nil
 |_,_,.cons n t h=>.cons ⟨t,rfl⟩ (GV h)
def oD (s:ig):ku:=match s with
 | .FunctionDef _ a _ _ _ _ _ _ _ _=>a
 |_=>{ posonlyargs:=[],args:=[],vararg:=none,kwonlyargs:=[],kw_defaults:=[],kwarg:=none,defaults:=[] }
def jR (s:ig):List ig:=match s with
 | .FunctionDef _ _ b _ _ _ _ _ _ _=>b
 |_=>[]
def bA (s:ig):gw:=match s with
 | .FunctionDef _ _ _ _ _ _ sc _ _ _=>sc
 |_=>{ kind:=.function,names:=[],isGenerator:=false,isCoroutine:=false }
abbrev E0:XK:=λ_ _ _=>False
structure Fun (K:ar) (x qual:Str) (st:ig) (f:ah) (fd:bu):Prop where
 ex:∃(oc:af) (od:Option ah) (kV doc pm:af) (an:Option ah) (cdv ct:af) (osl:Array (Option af)),
  fd=oq x qual (oD st) (jR st) (bA st) .none kV doc pm an cdv ct/\K.lookup f=some ⟨oc,od,.func fd,osl⟩/\wb K cdv qual=true
 kp:km K (.ref f)=true
section
variable{P:bg}{w:cq}{K:ar}{mg:Str->Option af}{base:cx}
theorem Fun.binds {x qual:Str}{st:ig}{f:ah}{fd:bu}{ps:List Str}(F:Fun K x qual st f fd)
  (h:∀(kV doc pm:af) (an:Option ah) (cdv ct:af) (us:List af),us.length=ps.length->bindArgs (oq x qual (oD st) (jR st) (bA st) .none kV doc pm an cdv ct) ⟨us,[]⟩=pure (ps.zip us)):Binds K fd ps []:=by
 obtain⟨oc,od,kV,doc,pm,an,cdv,ct,osl,rfl,lk,hcd⟩:=F.ex;exact .all (h kV doc pm an cdv ct)
theorem GW {x qual:Str}{st:ig}{f:ah}{oc:af}{od an:Option ah}{osl:Array (Option af)}{kV doc pm cdv ct:af}(l:K.lookup f=some ⟨oc,od,.func (oq x qual (oD st) (jR st) (bA st) .none kV doc pm an cdv ct),osl⟩)
  (c:wb K cdv qual=true) (k:km K (.ref f)=true):Fun K x qual st f (oq x qual (oD st) (jR st) (bA st) .none kV doc pm an cdv ct):=⟨⟨oc,od,kV,doc,pm,an,cdv,ct,osl,rfl,l,c⟩,k⟩
end
section
variable{X:Cx}
end
theorem GX {A B:Prop}(h:B):if false=true then A else B:=by rw[if_neg ik];exact h
theorem GY {A B:Prop}(h:A):if true=true then A else B:=by rw[if_pos rfl];exact h
def Same (H H':Hp):Prop:=∀b o,H b=some o->H' b=some o
theorem Same.refl (H:Hp):Same H H:=λ_ _ h=>h
theorem vN {β:Type}(x y:Str) (c:β) (acc:List (Str×β)):((y,c)::acc).lookup x=if x=y then some c else acc.lookup x:=by
 rw[ic]
 by_cases e:x=y
 ·have hb:(x==y)=true:=beq_iff_eq.mpr e;rw[hb,if_pos e]
 ·have hb:(x==y)=false:=beq_eq_false_iff_ne.mpr e;rw[hb,if_neg e]
def cS (env:Env):List (Str×ka)->List (Str×ah)->List (Str×ah)
 | [],acc=>acc
 |(x,k)::r,acc=>cS env r (if k==.free then(x,(env.cells.lookup x).getD 0)::acc else acc)
theorem AW {env:Env}:∀(l:List (Str×ka)) (acc:List (Str×ah)),(∀x,(x,bz)∈l->∃c,env.cells.lookup x=some c)->
  (forIn l acc (λ(x:Str×ka) (r:List (Str×ah))=>match x with
   |(name,kind)=>if(kind==bz)=true then(do let a <-cellOf env name;pure (qp ((name,a)::r)))else(pure (qp r):Sem (ForInStep (List (Str×ah))))))=(pure (cS env l acc):Sem (List (Str×ah)))
 | [],acc,_=>rfl
 |(x,k)::l,acc,h=>by
  rw[oz];dsimp only
  cases hk:k==bz with
  |true=>
   have e:k=.free:=by cases k <;> first|rfl|cases hk
   subst e;obtain⟨c,hc⟩:=h x (ax ..);rw[if_pos rfl,show cS env ((x,bz)::l) acc=cS env l ((x,c)::acc)by rw[cS,if_pos hk,hc];rfl,<-AW l ((x,c)::acc) λy hy=>h y (aq _ hy)];unfold cellOf;rw[hc];rfl
  |false=>rw[if_neg (by simp),show cS env ((x,k)::l) acc=cS env l acc by rw[cS,hk];rfl,<-AW l acc λy hy=>h y (aq _ hy)];rfl
theorem GZ {env:Env}{scope:gw}(h:∀x,(x,bz)∈scope.names->∃c,env.cells.lookup x=some c):closureFor scope env=pure (cS env scope.names []):=by unfold closureFor;have:=AW (env:=env) scope.names [] h;show(forIn scope.names [] _ >>= λcs=>pure cs)=_;exact(congrArg (λ(m:Sem (List (Str×ah)))=>m >>= λcs=>pure cs) this)
theorem sR {env:Env}{x:Str}:∀(l:List (Str×ka)) (acc:List (Str×ah)),((x,bz)∈l∨acc.lookup x=some ((env.cells.lookup x).getD 0))->(cS env l acc).lookup x=some ((env.cells.lookup x).getD 0)
 | [],acc,h=>h.elim (λz=>nomatch z) id
 |(y,k)::l,acc,h=>by
  rw[cS]
  cases hk:k==bz with
  |true=>
   refine sR l _ ?_;rw[if_pos rfl]
   by_cases e:x=y
   ·subst e;right;rw[vN,if_pos rfl]
   ·rcases h with h|h
    ·rcases ay.mp h with h|h
     ·cases h;exact absurd rfl e
     ·exact .inl h
    ·right;rw[vN,if_neg e];exact h
  |false=>
   refine sR l _ ?_
   rcases h with h|h
   ·rcases ay.mp h with h|h
    ·cases h;simp at hk
    ·exact .inl h
   ·exact .inr h
structure BlkCells (h h':cx) (names:List (Str×ka)) (acc cs:List (Str×ah)):Prop where
 cases:∀x c,cs.lookup x=some c->acc.lookup x=some c∨(h.objs.size<=c/\h'.IsCell c none/\(x,di)∈names)
 own:∀x,(x,di)∈names->∃c,cs.lookup x=some c
 old:∀x,(x,di)∉names->cs.lookup x=acc.lookup x
 inj:(∀x y c,acc.lookup x=some c->acc.lookup y=some c->x=y)->(∀x c,acc.lookup x=some c->c<h.objs.size)->∀x y c,cs.lookup x=some c->cs.lookup y=some c->x=y
theorem sT:∀(names:List (Str×ka)) (h:cx) (acc:List (Str×ah)),BlkCells h (pushCells h names) names acc (cellsFrom h.objs.size names acc)
 | [],h,acc=>{ cases:=λ_ _ e=>.inl e,own:=λ_ z=>(nomatch z),old:=λ_ _=>rfl,inj:=λa _=>a }
 |(y,k)::r,h,acc=>by
  cases hk:k==di with
  |true=>
   have ek:k=.cell:=by cases k <;> first|rfl|cases hk
   subst ek;have ih:=sT r (h.push { cls:=.type "cell",data:=.cell none }) ((y,h.objs.size)::acc);have e1:pushCells h ((y,di)::r)=pushCells (h.push { cls:=.type "cell",data:=.cell none }) r:=rfl;have e2:cellsFrom h.objs.size ((y,di)::r) acc=cellsFrom (h.push { cls:=.type "cell",data:=.cell none }).objs.size r ((y,h.objs.size)::acc):=by rw[dz];rfl
   rw[e1,e2];have look:∀x,((y,h.objs.size)::acc).lookup x=if x=y then some h.objs.size else acc.lookup x:=λx=>vN ..
   refine⟨λx c e=>?_,λx hx=>?_,λx hx=>?_,λh1 h2 x z c ex ez=>?_⟩
   ·rcases ih.cases x c e with q|⟨q1,q2,q3⟩
    ·rw[look]at q
     by_cases exy:x=y
     ·rw[if_pos exy]at q;cases q;refine .inr ⟨ak _,⟨_,pz r _ _ _ (az _ rfl),rfl⟩,by rw[exy];exact ax ..⟩
     ·rw[if_neg exy]at q;exact .inl q
    ·rw[dz]at q1;exact .inr ⟨Nat.le_of_succ_le q1,q2,aq _ q3⟩
   ·by_cases hr:(x,di)∈r
    ·exact ih.own x hr
    ·rw[ih.old x hr,look]
     rcases ay.mp hx with z|z
     ·cases z;exact⟨_,if_pos rfl⟩
     ·exact absurd z hr
   ·rw[ih.old x λz=>hx (aq _ z),look,if_neg]
    rintro rfl
    exact hx (ax ..)
   ·refine ih.inj ?_ ?_ x z c ex ez
    ·intro a b c ea eb;rw[look]at ea eb
     by_cases qa:a=y
     ·rw[if_pos qa]at ea;cases ea
      by_cases qb:b=y
      ·exact qa.trans qb.symm
      ·rw[if_neg qb]at eb;exact absurd (h2 b _ eb) (gh _)
     ·rw[if_neg qa]at ea
      by_cases qb:b=y
      ·rw[if_pos qb]at eb;cases eb;exact absurd (h2 a _ ea) (gh _)
      ·rw[if_neg qb]at eb;exact h1 a b c ea eb
    ·intro a c ea;rw[dz];rw[look]at ea
     by_cases qa:a=y
     ·rw[if_pos qa]at ea;cases ea;exact jo _
     ·rw[if_neg qa]at ea;exact jf (h2 a c ea)
  |false=>
   have ih:=sT r h acc;have e1:pushCells h ((y,k)::r)=pushCells h r:=by rw[pushCells,hk];rfl
   have e2:cellsFrom h.objs.size ((y,k)::r) acc=cellsFrom h.objs.size r acc:=by rw[cellsFrom,hk];rfl
   rw[e1,e2];have nk:∀x,(x,di)∈(y,k)::r->(x,di)∈r:=λx z=>by
    rcases ay.mp z with z|z
    ·cases z;simp at hk
    ·exact z
   exact⟨λx c e=>(ih.cases x c e).imp id λ⟨a,b,c⟩=>⟨a,b,aq _ c⟩,λx hx=>ih.own x (nk x hx),λx hx=>ih.old x λz=>hx (aq _ z),ih.inj⟩
def G1 (scope:gw) (env:Env) (L:ah):Env:={ scope:=relabel scope env,locals:=L,globals:=env.globals,cells:=cellsFrom (L+1) scope.names (cS env scope.names []),qual:=env.qual,func:=none,code:=env.code,frame:=env.frame,builtins:=env.builtins }
theorem TM {M:wk}{A:cn}{E:af->ag->Prop}{s:ag}{scope:gw}{env:Env}{cl:List (Str×ah)}{qual:Str}{g:ah}{Q:Env->ag->Prop}
  (h:Q { scope:=scope,locals:=s.heap.objs.size,globals:=g,cells:=cellsFrom (s.heap.objs.size+1) scope.names cl,qual:=qual,func:=none,code:=env.code,frame:=env.frame,builtins:=env.builtins }
   { s with heap:=pushCells (s.heap.push { cls:=.type "dict",data:=.dict #[] }) scope.names }):
  wpAny M A (newFunctionEnv scope g cl [] qual none .none (some env)) Q E s:=by
 simp only[newFunctionEnv,Option.isSome_some,if_true];refine aa (wpAny_alloc ?_);refine aa (wpAny_layCells _ (λname kind cells=>by cases hkc:kind==di <;> simp[hkc]) _ _ _ _ ?_);rw[show({ s with heap:=s.heap.push { cls:=.type "dict",data:=.dict #[] } }:ag).heap.objs.size=s.heap.objs.size+1 from dz ..];exact aa (ai (ai h))
def dY (X:Cx) (scope:gw) (N:List Str) (s:ag) (H:Hp) (ex:List ah):Cx:={ X with N:=N,s₀:=s,H₀:=H,env:=G1 scope X.env s.heap.objs.size,outer:=X.stack,stack:=X.stack,ex:=ex,fn:=λx=>scope.names.lookup x==some .cell,xe:=λ_ _=>False }
def qR (cap:List (Option Nat)) (σ:St):St:=cap.map λo=>match o with|some j=>(σ[j]?).getD none|none=>none
structure CapOk (X:Cx) (scope:gw) (N:List Str) (cap:List (Option Nat)):Prop where
 kind:scope.kind=.function
 nd:∀x∈scope.names,x.2=.local->scope.names.lookup x.1=some .local
 len:cap.length=N.length
 free:∀x,(x,bz)∈scope.names->X.env.kindOf x=some .cell∨X.env.kindOf x=some .free
 apart:∀x,(x,bz)∈scope.names->(x,di)∉scope.names
 cap:∀(i j:Nat) (x:Str),cap[i]?=some (some j)->N[i]?=some x->X.N[j]?=some x/\(x,bz)∈scope.names/\(relabel scope X.env).names.lookup x≠some .local
theorem AX {scope:gw}{env:Env}{x:Str}:∀{l:List (Str×ka)}{k:ka},(l.map λ(n,k)=>if(k==bz&&env.scope.kind==.function&&env.kindOf n==some .cell)then(n,di)else(n,k)).lookup x=some k->
  (x,k)∈l∨(k=.cell/\(x,bz)∈l)
 | [],_,h=>by simp at h
 |(n,q)::r,k,h=>by
  have ih:=@AX scope env x r k;rw[cy]at h
  by_cases hc:(q==bz&&env.scope.kind==.function&&env.kindOf n==some .cell)=true
  ·have hq:q=.free:=by
    have:(q==bz)=true:=by
     cases z:q==bz with
     |true=>rfl
     |false=>rw[z]at hc;simp at hc
    cases q <;> first|rfl|cases this
   dsimp only at h;rw[if_pos hc,ic]at h
   cases e:x==n with
   |true=>rw[e]at h;have h':di=k:=cg h;subst h';have ex:=beq_iff_eq.mp e;subst ex;subst hq;exact .inr ⟨rfl,ax ..⟩
   |false=>rw[e]at h;exact(ih h).imp (aq _) λ⟨a,b⟩=>⟨a,aq _ b⟩
  ·dsimp only at h;rw[if_neg hc,ic]at h
   cases e:x==n with
   |true=>rw[e]at h;have h':q=k:=cg h;subst h';have ex:=beq_iff_eq.mp e;subst ex;exact .inl (ax ..)
   |false=>rw[e]at h;exact(ih h).imp (aq _) λ⟨a,b⟩=>⟨a,aq _ b⟩
theorem vO {env:Env}{x:Str}{c:ah}:∀(l:List (Str×ka)) (acc:List (Str×ah)),(cS env l acc).lookup x=some c->acc.lookup x=some c∨((x,bz)∈l/\c=(env.cells.lookup x).getD 0)
 | [],acc,h=>.inl h
 |(y,k)::l,acc,h=>by
  rw[cS]at h
  cases hk:k==bz with
  |true=>
   have ek:k=.free:=by cases k <;> first|rfl|cases hk
   subst ek;rw[if_pos hk]at h
   rcases vO l _ h with q|⟨q1,q2⟩
   ·rw[vN]at q
    by_cases e:x=y
    ·rw[if_pos e]at q;subst e;exact .inr ⟨ax ..,(cg q).symm⟩
    ·rw[if_neg e]at q;exact .inl q
   ·exact .inr ⟨aq _ q1,q2⟩
  |false=>rw[if_neg (by rw[hk];exact ik)]at h;exact(vO l _ h).imp id λ⟨a,b⟩=>⟨aq _ a,b⟩
section
variable{X:Cx}{pins:List (ah×Obj)}{σ:St}{H:Hp}{s:ag}{scope:gw}{N:List Str}{cap:List (Option Nat)}{ex:List ah}
theorem vP (I:Inv X pins σ H s) (C:CapOk X scope N cap) {x:Str}{c:ah}(e:(cS X.env scope.names []).lookup x=some c):(x,bz)∈scope.names/\X.env.cells.lookup x=some c:=by
 rcases vO _ _ e with q|⟨q1,q2⟩
 ·cases q
 ·obtain⟨c',h'⟩:=I.ok.has x (C.free x q1);rw[h']at q2;subst q2;exact⟨q1,h'⟩
theorem vQ (I:Inv X pins σ H s) (C:CapOk X scope N cap) {x:Str}{c:ah}(e:(G1 scope X.env s.heap.objs.size).cells.lookup x=some c):
  (X.env.cells.lookup x=some c/\(x,bz)∈scope.names)∨(s.heap.objs.size<c/\(pushCells (s.heap.push { cls:=.type "dict",data:=.dict #[] }) scope.names).IsCell c none/\(x,di)∈scope.names):=by
 have B:=sT scope.names (s.heap.push { cls:=.type "dict",data:=.dict #[] }) (cS X.env scope.names []);rw[dz]at B
 rcases B.cases x c e with q|⟨q1,q2,q3⟩
 ·obtain⟨a,b⟩:=vP I C q;exact .inl ⟨b,a⟩
 ·rw[dz]at q1;exact .inr ⟨q1,q2,q3⟩
theorem G2 (I:Inv X pins σ H s) (C:CapOk X scope N cap) (hex:∀b∈ex,cX X pins H b/\b<s.heap.objs.size):(dY X scope N s H ex).Ok:=by
 have B:=sT scope.names (s.heap.push { cls:=.type "dict",data:=.dict #[] }) (cS X.env scope.names []);rw[dz]at B;have kf:∀x,(x,bz)∈scope.names->∃c,X.env.cells.lookup x=some c:=λx hx=>I.ok.has x (C.free x hx);refine⟨I.ok.mod,C.kind,I.ok.glob,I.ok.blt,ak _, ?_, ?_, ?_,I.ok.hd,I.ok.frames,.inl rfl, ?_,I.bs,du I.ok.bsz I.sz, ?_, ?_,I.stack,I.stkFree⟩
 ·refine B.inj (λx y c e1 e2=>?_) λx c e=>?_
  ·exact I.ok.inj x y c (vP I C e1).2 (vP I C e2).2
  ·obtain⟨v,q⟩:=I.cell x c (vP I C e).2;rw[dz];exact jf q.lt
 ·intro x hx;have hx':(relabel scope X.env).names.lookup x=some .cell∨(relabel scope X.env).names.lookup x=some .free:=hx;have mem:(x,di)∈scope.names∨(x,bz)∈scope.names:=by
   rcases hx' with h|h
   ·rcases AX (scope:=scope) h with q|⟨_,q⟩
    ·exact .inl q
    ·exact .inr q
   ·rcases AX (scope:=scope) h with q|⟨z,q⟩
    ·exact .inr q
    ·exact .inr q
  by_cases hc:(x,di)∈scope.names
  ·exact B.own x hc
  ·rcases mem with h|h
   ·exact absurd h hc
   ·exact⟨_,(B.old x hc).trans (sR _ _ (.inl h))⟩
 ·intro x c hf e;have hf':(scope.names.lookup x==some .cell)=true:=hf;have hm:(x,di)∈scope.names:=ff (eq_of_beq hf')
  rcases vQ I C e with⟨_,q⟩|⟨q,_⟩
  ·exact absurd hm (C.apart x q)
  ·exact gy q
 ·intro b hb;obtain⟨⟨f0,f1,f2,f3,f4,f5⟩,hlt⟩:=hex b hb;refine⟨bf hlt,λx c e z=>?_⟩
  rcases vQ I C e with⟨q,_⟩|⟨q,_⟩
  ·exact f4 x c q z
  ·subst z;exact gh _ (Nat.lt_trans q hlt)
 ·intro b o e hb;obtain⟨⟨f0,f1,f2,f3,f4,f5⟩,hlt⟩:=hex b hb
  rcases f3 with q|q
  ·exact I.ok.noex b o e q
  ·exact gh _ (aw (av e) (du I.ok.bsz q))
 ·intro b hb z;obtain⟨⟨f0,f1,f2,f3,f4,f5⟩,hlt⟩:=hex b hb
  rcases ay.mp (I.stkSub b z)with q|q
  ·exact f1 q
  ·exact f2 q
theorem TN (I:Inv X pins σ H s) (C:CapOk X scope N cap) (hex:∀b∈ex,cX X pins H b/\b<s.heap.objs.size):
  Inv (dY X scope N s H ex) pins (qR cap σ) H { s with heap:=pushCells (s.heap.push { cls:=.type "dict",data:=.dict #[] }) scope.names }:=by
 have B:=sT scope.names (s.heap.push { cls:=.type "dict",data:=.dict #[] }) (cS X.env scope.names []);rw[dz]at B;have kp:∀b o,s.heap.get? b=some o->(pushCells (s.heap.push { cls:=.type "dict",data:=.dict #[] }) scope.names).get? b=some o:=λb o e=>pz _ _ _ _ (aj _ e);have ns:(pushCells (s.heap.push { cls:=.type "dict",data:=.dict #[] }) scope.names).Ns s.heap.objs.size (λ_=>none):=⟨_,#[],_,pz _ _ _ _ (az _ rfl),rfl,(λe he=>absurd he (by simp)),λ_=>rfl⟩
 obtain⟨m,hn,hl⟩:=I.loc;refine⟨G2 I C hex,rfl,I.bare,Un.kept kp,⟨_,ns,λi x v h1 h2 h3=>?_⟩,λx c e=>?_,I.hok.fresh (ak _),λx c e=>?_,λp hp=>?_,I.hok.kept kp, ?_⟩
 ·have h2':(cap.map λo=>match o with|some j=>(σ[j]?).getD none|none=>none)[i]?=some (some v):=h2;rw[dv]at h2'
  cases q:cap[i]? with
  |none=>rw[q]at h2';cases h2'
  |some o=>
   rw[q]at h2'
   cases o with
   |none=>cases h2'
   |some j=>
    have e1:(σ[j]?).getD none=some v:=cg h2';have e2:σ[j]?=some (some v):=by
     cases z:σ[j]? with
     |none=>rw[z]at e1;cases e1
     |some w=>rw[z]at e1;exact congrArg some e1
    obtain⟨c1,c2,c3⟩:=C.cap i j x q h1;have vis:qP X.env.scope x:=by
     rcases C.free x c2 with z|z
     ·exact .inr (.inl z)
     ·exact .inr (.inr z)
    obtain⟨u,r,l⟩:=hl j x v c1 e2 vis;refine⟨u,r, ?_⟩
    rcases l with⟨hk,hm⟩|⟨hk,c,hc,hcell⟩
    ·rcases C.free x c2 with z|z
     ·rw[z]at hk;cases hk
     ·rw[z]at hk;cases hk
    ·refine .inr ⟨?_,c, ?_, ?_⟩
     ·have h3':qP (relabel scope X.env) x:=h3
      rcases h3' with z|z|z
      ·exact absurd z c3
      ·exact .inl z
      ·exact .inr z
     ·have:=(B.old x (C.apart x c2)).trans (sR _ _ (.inl c2));rw[hc]at this;exact this
     ·obtain⟨o,ho,hd⟩:=hcell;exact⟨o,kp _ _ ho,hd⟩
 ·rcases vQ I C e with⟨q,_⟩|⟨_,q,_⟩
  ·obtain⟨v,o,ho,hd⟩:=I.cell x c q;exact⟨v,o,kp _ _ ho,hd⟩
  ·exact⟨none,q⟩
 ·rcases vQ I C e with⟨q,_⟩|⟨q,_⟩
  ·exact I.freeC x c q
  ·exact I.hok.fresh (gy q)
 ·obtain⟨a1,a2,a3,a4,a5⟩:=I.pin p hp;refine⟨kp _ _ a1,a2,bf (av a1),λz=>?_,a5⟩
  rcases ay.mp (I.stkSub _ z)with q|q
  ·exact a3 q
  ·exact a4 q
 ·show(cap.map _).length=N.length;rw[bh];exact C.len
theorem TQ (I:Inv X pins σ H s) (C:CapOk X scope N cap) (hex:∀b∈ex,cX X pins H b/\b<s.heap.objs.size):∀b∈ex,cX (dY X scope N s H ex) pins H b:=by intro b hb;obtain⟨⟨f0,f1,f2,f3,f4,f5⟩,hlt⟩:=hex b hb;have ok:=G2 (N:=N) I C hex;exact⟨f0,(ok.exf b hb).1,ok.exfs b hb,.inl hb,(ok.exf b hb).2,f5⟩
theorem TR {σ':St}{H':Hp}{s':ag}{h':cx}(I:Inv X pins σ H s) (hex:∀b∈ex,cX X pins H b/\b<s.heap.objs.size) (I':Inv (dY X scope N s H ex) pins σ' H' s') (hh:ij s.heap.objs.size s'.heap h'):
  Inv X pins σ H' { s' with heap:=h' }:=by
 have u:Un (dD X.stack) ex H H' s.heap s'.heap:=I'.base;have up:∀b o o',s.heap.get? b=some o->s'.heap.get? b=some o'->h'.get? b=some o':=λb o o' e e'=>(hh.2 b (bf (av e))).trans e';have hL:H' s.heap.objs.size=none:=I'.free;refine I.call' (s':={ s' with heap:=h' }) (ch:=ex) I'.os ⟨λb o q n hb hx=>up b o o q (u.keep b o q n hb hx),λb o q n hb hx=>?_,u.free,λb o q hx=>?_,u.tups,u.frzs,u.tbls⟩ (λb o e=>?_) I'.bare λb hb=>?_
 ·obtain⟨sl,e⟩:=u.slot b o q n hb hx;exact⟨sl,up b o _ q e⟩
 ·obtain⟨o',e⟩:=u.there b o q hx;exact⟨o',up b o _ q e⟩
 ·refine(I'.hok b o e).stay (λc v hc q=>(hh.2 c ?_).trans q) (λ_ q=>q) λ_ _ q=>q
  rcases hc with z|z
  ·rw[z];rintro rfl;rw[hL]at e;cases e
  ·rintro rfl;rw[hL]at z;cases z
 ·obtain⟨⟨f0,f1,f2,f3,f4,f5⟩,hlt⟩:=hex b hb;exact⟨f3,f1,f4,f5⟩
theorem Inv.adopt {a:ah}{o:HO}(I:Inv X pins σ H s) (f:cX X pins H a) (ha:X.s₀.heap.objs.size<=a) (new:ObjOk X.prog X.w (aQ H a o) s.heap a o):Inv X pins σ (aQ H a o) s:=by
 obtain⟨f0,f1,f2,f3,f4,f5⟩:=f;have ne0:∀b ob,X.s₀.heap.get? b=some ob->b≠a:=λb ob e z=>by subst z;exact gh _ (aw (av e) ha)
 refine⟨I.ok,I.os,I.bare,⟨I.base.keep,I.base.slot,λb ob e n hx=>by rw[bK (ne0 b ob e)];exact I.base.free b ob e n hx,I.base.there,λb xs e=>?_,λb ob u e=>?_,λb ps e=>?_⟩,I.loc,I.cell,by rw[bK (de f1)];exact I.free,
  λx c e=>by rw[bK (f4 x c e)];exact I.freeC x c e,λp hp=>?_,λb u e=>?_,I.len⟩
 ·have:=I.base.tups b xs e;rw[bK (dX this f0)];exact this
 ·have:=I.base.frzs b ob u e;rw[bK (dX this f0)];exact this
 ·obtain⟨more,this⟩:=I.base.tbls b ps e;exact⟨more,by rw[bK (dX this f0)];exact this⟩
 ·obtain⟨a1,a2,a3,a4,a5⟩:=I.pin p hp;exact⟨a1,by rw[bK (f5 p hp)];exact a2,a3,a4,a5⟩
 ·by_cases hb:b=a
  ·subst hb;rw[cK]at e;cases e;exact new
  ·rw[bK hb]at e;exact(I.hok b u e).stay (λ_ _ _ q=>q) (λc q=>by rw[bK (dX q f0)];exact q) λc xs q=>by rw[bK (dX q f0)];exact q
end
def AccAt (s:ag) (D:ah) (xs:List V):Prop:=xs.length<=bp/\∃(its:List af) (n:Nat),Vals xs its/\s.heap.get? D=some { cls:=.type "list",data:=.seq its.toArray n }
abbrev TC:=St->Hp->List V->(St->Hp->List V->Prop)->Prop
def PCl (X:Cx) (D:ah) (m:Sem Unit) (t:TC):Prop:=
 ∀(pins:List (ah×Obj)) (s:ag) (σ:St) (H:Hp) (xs:List V) (K:St->Hp->List V->Prop),Inv X pins σ H s->AccAt s D xs->cX X pins H D->t σ H xs K->
  wpAny (model X.prog X.w) X.A m (λ_ s'=>∃σ' H' xs',Inv X pins σ' H' s'/\AccAt s' D xs'/\H' D=none/\K σ' H' xs') X.xe s
section
variable{X:Cx}{D:ah}
theorem AccAt.obj {s:ag}{xs:List V}(a:AccAt s D xs):∃o,s.heap.get? D=some o/\∀v,o.data≠.cell v:=by obtain⟨_,its,n,_,e⟩:=a;exact⟨_,e,λv z=>nomatch z⟩
theorem Inv.pinD {pins:List (ah×Obj)}{s:ag}{σ:St}{H:Hp}{xs:List V}(I:Inv X pins σ H s) (a:AccAt s D xs) (f:cX X pins H D):Inv X (pins++jP [D] s.heap) σ H s:=
 I.pinned (λb hb=>by (have e:b=D:=by simpa using hb);subst e;exact f) λb hb=>by
  have e:b=D:=by simpa using hb
  subst e;exact a.obj
theorem Inv.atD {pins:List (ah×Obj)}{s s':ag}{σ':St}{H':Hp}{xs:List V}(a:AccAt s D xs) (I:Inv X (pins++jP [D] s.heap) σ' H' s'):AccAt s' D xs/\H' D=none:=by obtain⟨z,its,n,r,e⟩:=a;have:=I.pin (D,_) (ck _ (ck _ (qQ (by simp) e)));exact⟨⟨z,its,n,r,this.1⟩,this.2.1⟩
def G3 (te:TE):TC:=λσ H xs K=>te σ H λv H1=>xs.length<bp/\K σ H1 (xs++[v])
theorem G4 {elt:bj}{te:TE}(he:PE X elt te):PCl X D (do let x <-eval elt X.env;let _ <-call (.builtin "list.append") [.ref D,x];pure ()) (G3 te):=by
 intro pins s σ H xs K I a f h;refine aa (aW (he _ s σ H _ (I.pinD a f) h) λu s1 ⟨v,H1,I1,r1,hz,q1⟩=>?_);obtain⟨a1,n1⟩:=Inv.atD a I1;have I1':=I1.unpinned;obtain⟨z,its,n,r,e⟩:=a1;have hl:=r.length;refine aa (Ay F.slot_list_append ⟨_,e,rfl⟩ F.entry_list_append (F.args_list_append_2 _ _) (PySem.list_append D its.toArray n u (by rw[au];omega)) ⟨e, ?_⟩);have q:=Ax e (·.push u);have e2:its.toArray.push u=(its++[u]).toArray:=by simp
 rw[e2]at q;refine ai ⟨σ,H1,xs++[v], ?_,⟨by rw[br,Az];omega,its++[u],_,r.append (.cons r1 .nil),q⟩,n1,q1⟩;obtain⟨f0,f1,f2,f3,f4,f5⟩:=f;exact I1'.turned (t':=s1.toks) (λb o hb z=>(mr s1.heap _ (de hb)).trans z) n1 f1 f3 f4 f5
def G5 (ifs:List bj) (env:Env):Sem Bool:=forIn ifs true λc r=>if r=true then do let ok <-isTrue c env (eval c env);pure (qp ok)else pure (qp r)
def PTs (X:Cx) (ifs:List bj) (t:TT):Prop:=∀(pins:List (ah×Obj)) (s:ag) (σ:St) (H:Hp) (Q:Bool->Hp->Prop),Inv X pins σ H s->t σ H Q->wpAny (model X.prog X.w) X.A (G5 ifs X.env) (TP X pins σ Q) X.xe s
def TU:TT:=λ_ H Q=>Q true H
theorem TV:PTs X [] TU:=λpins s σ H Q I h=>wpAny_tests_nil ⟨H,I,h⟩
theorem TX {c:bj}{t:TT}(h:PT X c t):PTs X [c] t:=λpins s σ H Q I q=>wpAny_tests_one (h pins s σ H Q I q)
def mU (p:Pos) (it:af) (tg:bj) (ifs:List bj) (env:Env) (inner:Sem Unit) (c:Code):Sem PySem.Fin:=do
 standAt p
 match <-pyNext it with
 |none=>pure (.done .next)
 |some v=>do
  letOwnedTupleGo tg it v
  assign tg env v
  let ok <-G5 ifs env
  if ok=true then do inner;again c
  else again c
def sU (J:It) (g:TG) (tt:TT) (inner:TC) (K:St->Hp->List V->Prop) (σ:St) (H:Hp) (xs:List V):Prop:=
 ∃W:Nat->Nat->St->Hp->List V->Prop,(∃m,W 0 m σ H xs)/\∀i m σ H xs,W i m σ H xs->
  (J.stop i H/\K σ H xs)∨(J.go i H/\∃N:St->Hp->List V->Prop,(∀σ' H' xs',N σ' H' xs'->∃m',m'<m/\W (i+1) m' σ' H' xs') /\
   ∀x H',J.yld i H x H'->g x σ H' λσ2 H2=>tt σ2 H2 λb H3=>if b=true then inner σ2 H3 xs N else N σ2 H3 xs)
theorem G6 {elt:bj}{gens:List md}{sc:gw}{ps:Pos}{d:Nat}{it:ah}{tg:bj}{ifs:List bj}{p:Pos}{inner:Sem Unit}{g:TG}{tt:TT}{ti:TC}{J:It}{fp:List ah}{tn:Nat->cx->Prop}
  (hx:X.xe=λ_ _=>False) (hc:X.calm=true)
  (ht:compTurn (.ListComp elt gens sc ps) d (.ref it) (.ref D) X.env=mU p (.ref it) tg ifs X.env inner (.compLoop (.ListComp elt gens sc ps) d (.ref it) (.ref D) X.env))
  (hg:PG X tg g) (htt:PTs X ifs tt) (hi:PCl X D inner ti) (T:Turn X.prog X.w X.K tg J fp it tn)
  {pins:List (ah×Obj)}{s:ag}{σ:St}{H:Hp}{xs:List V}{K:St->Hp->List V->Prop}{R:yk->ag->Prop}(I:Inv X pins σ H s) (a:AccAt s D xs) (f:cX X pins H D) (st:tn 0 s.heap) (hf:∀b∈fp,cX X pins H b) (hD:D∉fp)
  (h:sU J g tt ti K σ H xs) (hR:∀σ' H' xs' s',Inv X pins σ' H' s'->AccAt s' D xs'->H' D=none->K σ' H' xs'->R (.ok .next) s'):
  codeAny (model X.prog X.w) X.A (.compLoop (.ListComp elt gens sc ps) d (.ref it) (.ref D) X.env) R s:=by
 obtain⟨W,⟨m0,w0⟩,turn⟩:=h;have stat:∀{H':Hp},(∀b∈fp,H' b=none)->∀b∈fp,cX X pins H' b:=λhn b hb=>⟨hn b hb,(hf b hb).2⟩
 have statD:∀{H':Hp},H' D=none->cX X pins H' D:=λhn=>⟨hn,f.2⟩
 refine codeAny_loop rfl (λn s'=>∃i σ' H' xs',Inv X pins σ' H' s'/\AccAt s' D xs'/\H' D=none/\tn i s'.heap/\(∀b∈fp,H' b=none)/\W i n σ' H' xs') ?_ m0 ⟨0,σ,H,xs,I,a,f.1,st,λb hb=>(hf b hb).1,w0⟩
 rintro n s3 ⟨i,σ3,H3,xs3,I3,a3,n3,st3,fr3,w3⟩
 show wpAny _ X.A ((compTurn (.ListComp elt gens sc ps) d (.ref it) (.ref D) X.env).onRaise (λx=>do noteFrame x X.env;theTreesLotGoes x)) _ _ s3;rw[ht];refine sj (ki (Q:=λfin s'=>match fin with | .done f=>R (.ok f) s' | .again c'=>c'=.compLoop (.ListComp elt gens sc ps) d (.ref it) (.ref D) X.env/\∃m,m<n/\∃i σ' H' xs',Inv X pins σ' H' s'/\AccAt s' D xs'/\H' D=none/\tn i s'.heap/\(∀b∈fp,H' b=none)/\W i m σ' H' xs') (E:=λ_ _=>False) ?_ (λ_ _ z=>z) λ_ _ z=>z.elim);unfold mU;refine aa (si (aa ?_));have xe':∀{α:Type}{m:Sem α}{Q:α->ag->Prop}{s:ag},wpAny (model X.prog X.w) X.A m Q X.xe s->wpAny (model X.prog X.w) X.A m Q (λ_ _=>False) s:=λ{α m Q s} z=>by rw[hx]at z;exact z
 have I3':=I3.pinD a3 (statD n3);have fr3':∀b∈fp,cX X (pins++jP [D] s3.heap) H3 b:=λb hb=>by
  obtain⟨g0,g1,g2,g3,g4,g5⟩:=stat fr3 b hb;refine⟨g0,g1,g2,g3,g4,λp hp=>?_⟩
  rcases fw.mp hp with z|z
  ·exact g5 p (ju _ z)
  ·rcases fw.mp z with z|z
   ·exact g5 p (ck _ z)
   ·have:=(AH z).1;have e:p.1=D:=by simpa using this
    rw[e];rintro rfl;exact hD hb
 rcases turn i n σ3 H3 xs3 w3 with⟨stop,qn⟩|⟨go,N,hN,step⟩
 ·refine aW (T.done X rfl rfl rfl hc i _ s3 σ3 H3 (λ_ _=>False) I3' fr3' st3 stop) λr s4 ⟨hr,I4⟩=>?_;subst hr;obtain⟨a4,n4⟩:=Inv.atD a3 I4;exact ai (hR σ3 H3 xs3 s4 I4.unpinned a4 n4 qn)
 ·refine aW (T.item X rfl rfl rfl hc i _ s3 σ3 H3 (λ_ _=>False) I3' fr3' st3 go) λr s4 ⟨u,hr,h4⟩=>?_;subst hr;refine aa (aW h4 λ_ s5 ⟨x,H5,I5,r5,y5,st5,fr5⟩=>?_);obtain⟨a5,n5⟩:=Inv.atD a3 I5;have I5u:=I5.unpinned;have I5p:=I5u.pinned (stat fr5) (T.obj _ _ st5);have fD5:cX X (pins++jP fp s5.heap) H5 D:=by
   obtain⟨g0,g1,g2,g3,g4,g5⟩:=statD n5;refine⟨g0,g1,g2,g3,g4,λp hp=>?_⟩
   rcases fw.mp hp with z|z
   ·exact g5 p (ju _ z)
   ·rcases fw.mp z with z|z
    ·exact g5 p (ck _ z)
    ·rintro rfl;exact hD (AH z).1
  have I5':=I5p.pinD a5 fD5;refine aa (xe' (aW (hg _ s5 σ3 H5 x u _ I5' r5 (step x H5 y5)) λ_ s6 ⟨σ6,H6,I6,q6⟩=>?_));obtain⟨a6,n6⟩:=Inv.atD a5 I6;have pin':∀{s σ H},Inv X (pins++jP fp s5.heap) σ H s->tn (i+1) s.heap/\∀b∈fp,H b=none:=λ{s σ H} J=>by refine⟨T.keep _ _ _ st5 λb hb o e=>(J.pin (b,o) (ck _ (ck _ (qQ hb e)))).1,λb hb=>?_⟩;obtain⟨o,e,d⟩:=T.obj _ _ st5 b hb;exact(J.pin (b,o) (ck _ (ck _ (qQ hb e)))).2.1
  have fD6:cX X (pins++jP fp s5.heap) H6 D:=⟨n6,fD5.2⟩
  have I6u:=I6.unpinned;have I6p:=I6u.pinD a6 fD6;refine aa (xe' (aW (htt _ s6 σ6 H6 _ I6p q6) λb s7 ⟨H7,I7,q7⟩=>?_));obtain⟨a7,n7⟩:=Inv.atD a6 I7;have I7u:=I7.unpinned;have fin:∀{s8 σ8 H8 xs8},Inv X (pins++jP fp s5.heap) σ8 H8 s8->AccAt s8 D xs8->H8 D=none->N σ8 H8 xs8->
    ∃m,m<n/\∃i σ' H' xs',Inv X pins σ' H' s8/\AccAt s8 D xs'/\H' D=none/\tn i s8.heap/\(∀b∈fp,H' b=none)/\W i m σ' H' xs':=λ{s8 σ8 H8 xs8} J a8 n8 q8=>by
   obtain⟨m',hm,w8⟩:=hN σ8 H8 xs8 q8;obtain⟨t8,fr8⟩:=pin' J;exact⟨m',hm,i+1,σ8,H8,xs8,J.unpinned,a8,n8,t8,fr8,w8⟩
  cases b with
  |true=>
   rw[if_pos rfl]at q7 ⊢;have fD7:cX X (pins++jP fp s5.heap) H7 D:=⟨n7,fD5.2⟩
   refine aa (xe' (aW (hi _ s7 σ6 H7 xs3 N I7u a7 fD7 q7) λ_ s8 ⟨σ8,H8,xs8,I8,a8,n8,q8⟩=>?_));exact ai ⟨rfl,fin I8 a8 n8 q8⟩
  |false=>rw[if_neg ik]at q7 ⊢;exact ai ⟨rfl,fin I7u a7 n7 q7⟩
end
theorem TY (elt tg iter:bj) (ifs:List bj) (sc:gw) (ps:Pos) (it:af) (D:ah) (env:Env):
  compTurn (.ListComp elt [⟨tg,iter,ifs,0⟩] sc ps) 0 it (.ref D) env =
   mU iter.pos it tg ifs env (do let x <-eval elt env;let _ <-call (.builtin "list.append") [.ref D,x];pure ()) (.compLoop (.ListComp elt [⟨tg,iter,ifs,0⟩] sc ps) 0 it (.ref D) env):=by rfl
def sV (iter:bj) (e:bj) (d:Nat) (D:ah) (env:Env):Sem Unit:=do
 let x <-eval iter env
 standAt iter.pos
 let x <-foldedSetIterable iter env x
 let it <-holding [x] (pyIter x)
 let _ <-runOwn (.compStart e d it (.ref D) env) env
 pure ()
theorem TZ (elt tg iter tg' iter':bj) (ifs ifs':List bj) (sc:gw) (ps:Pos) (it:af) (D:ah) (env:Env):
  compTurn (.ListComp elt [⟨tg,iter,ifs,0⟩,⟨tg',iter',ifs',0⟩] sc ps) 0 it (.ref D) env =
   mU iter.pos it tg ifs env (sV iter' (.ListComp elt [⟨tg,iter,ifs,0⟩,⟨tg',iter',ifs',0⟩] sc ps) 1 D env) (.compLoop (.ListComp elt [⟨tg,iter,ifs,0⟩,⟨tg',iter',ifs',0⟩] sc ps) 0 it (.ref D) env):=by
 unfold mU sV;simp only[bind_assoc,pure_bind];rfl
theorem T1 (elt tg iter tg' iter':bj) (ifs ifs':List bj) (sc:gw) (ps:Pos) (it:af) (D:ah) (env:Env):
  compTurn (.ListComp elt [⟨tg,iter,ifs,0⟩,⟨tg',iter',ifs',0⟩] sc ps) 1 it (.ref D) env =
   mU iter'.pos it tg' ifs' env (do let x <-eval elt env;let _ <-call (.builtin "list.append") [.ref D,x];pure ()) (.compLoop (.ListComp elt [⟨tg,iter,ifs,0⟩,⟨tg',iter',ifs',0⟩] sc ps) 1 it (.ref D) env):=by rfl
section
variable{X:Cx}{D:ah}
theorem G7 {prog:bg}{w:cq}{A:cn}{R:yk->ag->Prop}{s:ag}{elt:bj}{gens:List md}{sc:gw}{ps:Pos}{d:Nat}{it acc:af}{env:Env}(ha:((gens)[d]?).elim false (·.is_async != 0)=false)
  (h0:codeAny (model prog w) A (.compLoop (.ListComp elt gens sc ps) d it acc env) R s)
  (h:wpAny (model prog w) A (pyIter it) (λit' s'=>codeAny (model prog w) A (.compLoop (.ListComp elt gens sc ps) d it' acc env) R s') (λ_ _=>False) s):
  codeAny (model prog w) A (.compStart (.ListComp elt gens sc ps) d it acc env) R s:=by
 refine codeAny_of_tree ?_;show wpAny _ _ ((compStart (.ListComp elt gens sc ps) d it acc env).onRaise (λx=>do noteFrame x env;standAt theWindowsPlace)) _ _ s;refine wpAny_notedAt (ki (E:=λ_ _=>False) ?_ (λ_ _ z=>z) λ_ _ z=>z.elim);unfold compStart;rw[show((clausesOf (.ListComp elt gens sc ps))[d]?).elim false (·.is_async != 0)=false from ha];simp only[cw,if_false];refine aa (ll (wpAny_ite ?_))
 split
 ·first
   |exact aa (ai (ai (And.intro rfl h0)))
   |exact ai (And.intro rfl h0)
 ·have fin:∀s:ag,wpAny (model prog w) A (pyIter it) (λit' s'=>codeAny (model prog w) A (.compLoop (.ListComp elt gens sc ps) d it' acc env) R s') (λ_ _=>False) s->
    wpAny (model prog w) A (do let it' <-pyIter it;again (.compLoop (.ListComp elt gens sc ps) d it' acc env)) (λfin s'=>match fin with | .done f=>R (.ok f) s' | .again c=>c.quiet=true/\codeAny (model prog w) A c R s') (λ_ _=>False) s:=λs h=>aa (ki h (λit' s' h'=>ai ⟨rfl,h'⟩) λ_ _ x=>x)
  refine aa (qu ?_);have ec:clausesOf (.ListComp elt gens sc ps)=gens:=rfl;rw[ec]
  cases q:gens[d]? with
  |none=>exact fin s h
  |some g=>exact aa (si (fin s h))
def G8 (wi:TI) (g:TG) (tt:TT) (inner:TC):TC:=λσ H xs K=>wi σ H λJ H1=>sU J g tt inner K σ H1 xs
theorem T3 {elt:bj}{gens:List md}{sc:gw}{ps:Pos}{d:Nat}{tg iter:bj}{ifs:List bj}{inner:Sem Unit}{wi:TI}{g:TG}{tt:TT}{ti:TC}
  (hx:X.xe=λ_ _=>False) (hc:X.calm=true) (ha:((gens)[d]?).elim false (·.is_async != 0)=false)
  (ht:∀it,compTurn (.ListComp elt gens sc ps) d (.ref it) (.ref D) X.env=mU iter.pos (.ref it) tg ifs X.env inner (.compLoop (.ListComp elt gens sc ps) d (.ref it) (.ref D) X.env))
  (hi:PI X tg iter wi) (hg:PG X tg g) (htt:PTs X ifs tt) (hin:PCl X D inner ti) (hs:∀x,foldedSetIterable iter X.env x=pure x):
  PCl X D (sV iter (.ListComp elt gens sc ps) d D X.env) (G8 wi g tt ti):=by
 intro pins s σ H xs K I a f h;unfold sV;refine aa (aW (hi _ s σ H _ (I.pinD a f) h) λv s1 h1=>aa (si (aa (zu (hs v) (aa (ib (aW h1 λitv s2 h2=>?_)))))));obtain⟨it,fp,tn,J,H2,e,I2,T,st2,f2,lp⟩:=h2;subst e;obtain⟨a2,n2⟩:=Inv.atD a I2;have I2u:=I2.unpinned;have hpD:∀b∈fp,b≠D:=λb hb z=>by subst z;obtain⟨_,its,n,_,eo⟩:=a;exact(f2 b hb).2.2.2.2.2 (b,_) (ck _ (ck _ (qQ (by simp) eo))) rfl
 have f2u:∀b∈fp,cX X pins H2 b:=λb hb=>by
  obtain⟨g0,g1,g2,g3,g4,g5⟩:=f2 b hb;exact⟨g0,g1,g2,g3,g4,λp hp=>g5 p (by
   rcases fw.mp hp with z|z
   ·exact ju _ z
   ·exact ck _ (ju _ z))⟩
 have fD:cX X pins H2 D:=⟨n2,f.2⟩
 refine aa (wpAny_runOwn ?_);have loop:codeAny (model X.prog X.w) X.A (.compLoop (.ListComp elt gens sc ps) d (.ref it) (.ref D) X.env) (λr s'=>match r with
   | .ok f=>wpAny (model X.prog X.w) X.A (pure ():Sem Unit) (λ_ s'=>∃σ' H' xs',Inv X pins σ' H' s'/\AccAt s' D xs'/\H' D=none/\K σ' H' xs') X.xe s'
   | .error e=>cameBackBy (model X.prog X.w) X.A X.env X.xe e s') s2:=
  G6 hx hc (ht it) hg htt hin T I2u a2 fD st2 f2u (λz=>hpD D z rfl) lp λσ' H' xs' s' I' a' n' k'=>ai ⟨σ',H',xs',I',a',n',k'⟩
 exact G7 ha loop (T.self _ 0 s2 _ _ st2 loop)
end
def G9 (wi:TI) (cap:List (Option Nat)) (g:TG) (tt:TT) (inner:TC):TE:=λσ H Q=>wi σ H λJ H1=>sU J g tt inner (λ_ H' xs=>∀p,H' p=none->Q (.ref p) (aQ H' p (.lst xs))) (qR cap σ) H1 []
section
variable{X:Cx}
theorem T4 {elt:bj}{gens:List md}{sc:gw}{ps:Pos}{tg iter:bj}{ifs:List bj}{rest:List md}{inner:ah->Env->Sem Unit}{g:TG}{tt:TT}{ti:TC}{N:List Str}{cap:List (Option Nat)}{E:af->ag->Prop}
  (hc:X.calm=true) (C:CapOk X sc N cap) (eg:gens=⟨tg,iter,ifs,0⟩::rest)
  (ht:∀it D env,compTurn (.ListComp elt gens sc ps) 0 (.ref it) (.ref D) env=mU iter.pos (.ref it) tg ifs env (inner D env) (.compLoop (.ListComp elt gens sc ps) 0 (.ref it) (.ref D) env))
  (hg:∀s H ex,PG (dY X sc N s H ex) tg g) (htt:∀s H ex,PTs (dY X sc N s H ex) ifs tt) (hin:∀s H ex D,PCl (dY X sc N s H ex) D (inner D (dY X sc N s H ex).env) ti)
  {pins:List (ah×Obj)}{s2:ag}{σ:St}{H2:Hp}{K:St->Hp->List V->Prop}{it:ah}{fp:List ah}{tn:Nat->cx->Prop}{J:It}(I2:Inv X pins σ H2 s2) (T:Turn X.prog X.w X.K tg J fp it tn) (st2:tn 0 s2.heap) (f2:∀b∈fp,cX X pins H2 b)
  (lp:sU J g tt ti K (qR cap σ) H2 []) {R:af->ah->yk->ag->Prop}
  (hR:∀σ' H' xs (s3 s':ag) (C D:ah),X.s₀.heap.objs.size<=D->C=s3.heap.objs.size->(∃m,s'.heap.Ns C m)->AccAt s' D xs->cX X pins H' D->cX X pins H' C->D<C->(∀h',ij C s'.heap h'->Inv X pins σ H' { s' with heap:=h' })->K σ' H' xs->R (.ref D) C (.ok .next) s'):
  wpAny (model X.prog X.w) X.A (newList []) (λacc s3=>wpAny (model X.prog X.w) X.A (newFunctionEnv sc X.env.globals (cS X.env sc.names []) [] X.env.qual none .none (some X.env)) (λcenv s4=>codeAny (model X.prog X.w) X.A (.compStart (.ListComp elt gens sc ps) 0 (.ref it) acc { cenv with scope:=relabel sc X.env }) (R acc cenv.locals) s4) E s3) E s2:=by
 refine fj (TM ?_);dsimp only;generalize hs3:({ s2 with heap:=s2.heap.push { cls:=.type "list",dict:=none,data:=.seq ([]:List af).toArray } }:ag)=s3;have kp:∀b o,s2.heap.get? b=some o->s3.heap.get? b=some o:=λb o e=>by rw[<-hs3];exact aj _ e
 have I3:Inv X pins σ H2 s3:=by rw[<-hs3];exact I2.kept (t':=s2.toks) λb o e=>aj _ e
 have eD:s3.heap.get? s2.heap.objs.size=some { cls:=.type "list",data:=.seq ([]:List af).toArray 0 }:=by rw[<-hs3];exact az _ rfl
 have nD:H2 s2.heap.objs.size=none:=I2.hok.fresh (ak _);have fD:cX X pins H2 s2.heap.objs.size:=I2.fpOk (ak _) nD;have hlt:s2.heap.objs.size<s3.heap.objs.size:=av eD;have hex:∀b∈s2.heap.objs.size::fp,cX X pins H2 b/\b<s3.heap.objs.size:=λb hb=>by
  rcases ay.mp hb with rfl|hb
  ·exact⟨fD,hlt⟩
  ·obtain⟨o,e,_⟩:=T.obj 0 _ st2 b hb;exact⟨f2 b hb,av (kp b o e)⟩
 have hDfp:s2.heap.objs.size∉fp:=λz=>by obtain⟨o,e,_⟩:=T.obj 0 _ st2 _ z;exact gh _ (av e)
 have I4:=TN (N:=N) (ex:=s2.heap.objs.size::fp) I3 C hex;have F4:=TQ (N:=N) I3 C hex;have st4:tn 0 (pushCells (s3.heap.push { cls:=.type "dict",data:=.dict #[] }) sc.names):=T.keep 0 _ _ st2 λb hb o e=>pz _ _ _ _ (aj _ (kp b o e));have a4:AccAt { s3 with heap:=pushCells (s3.heap.push { cls:=.type "dict",data:=.dict #[] }) sc.names } s2.heap.objs.size []:=⟨jc _,[],0,.nil,pz _ _ _ _ (aj _ eD)⟩
 have loop:codeAny (model X.prog X.w) X.A (.compLoop (.ListComp elt gens sc ps) 0 (.ref it) (.ref s2.heap.objs.size) (dY X sc N s3 H2 (s2.heap.objs.size::fp)).env) (R (.ref s2.heap.objs.size) s3.heap.objs.size)
   { s3 with heap:=pushCells (s3.heap.push { cls:=.type "dict",data:=.dict #[] }) sc.names }:=by
  refine G6 (X:=dY X sc N s3 H2 (s2.heap.objs.size::fp)) rfl hc (ht it _ _) (hg _ _ _) (htt _ _ _) (hin _ _ _ _) T I4 a4 (F4 _ (ax ..)) st4 (λb hb=>F4 b (aq _ hb)) hDfp lp λσ' H' xs' s' I' a' n' k'=>?_;obtain⟨m,hn,_⟩:=I'.loc;exact hR σ' H' xs' s3 s' _ _ (du I2.sz (ak _)) rfl ⟨m,hn⟩ a' ⟨n',fD.2⟩ (I3.fpOk (ak _) I'.free) hlt (λh' hh=>TR I3 hex I' hh) k'
 have ha:((gens)[0]?).elim false (·.is_async != 0)=false:=by rw[eg];rfl
 subst hs3;exact G7 ha loop (T.self _ 0 _ _ _ st4 loop)
theorem HC {elt:bj}{gens:List md}{sc:gw}{ps:Pos}{tg iter:bj}{ifs:List bj}{rest:List md}{inner:ah->Env->Sem Unit}{wi:TI}{g:TG}{tt:TT}{ti:TC}{N:List Str}{cap:List (Option Nat)}
  (hc:X.calm=true) (C:CapOk X sc N cap) (eg:gens=⟨tg,iter,ifs,0⟩::rest)
  (ht:∀it D env,compTurn (.ListComp elt gens sc ps) 0 (.ref it) (.ref D) env=mU iter.pos (.ref it) tg ifs env (inner D env) (.compLoop (.ListComp elt gens sc ps) 0 (.ref it) (.ref D) env))
  (hi:PI X tg iter wi) (hg:∀s H ex,PG (dY X sc N s H ex) tg g) (htt:∀s H ex,PTs (dY X sc N s H ex) ifs tt) (hin:∀s H ex D,PCl (dY X sc N s H ex) D (inner D (dY X sc N s H ex).env) ti)
  (hs:∀x,foldedSetIterable iter X.env x=pure x):PE X (.ListComp elt gens sc ps) (G9 wi cap g tt ti):=by
 intro pins s σ H Q I h;rw[eval_ListComp];have hcl:closureFor sc X.env=pure (cS X.env sc.names []):=GZ λx hx=>I.ok.has x (C.free x hx);have e1:firstAsync gens=false:=by rw[eg];rfl
 have e2:firstIter gens X.env=eval iter X.env:=by rw[eg];rfl
 rw[e1,e2];refine wpAny_comprehension_free (use:=none) (g:=⟨tg,iter,ifs,0⟩) (gs:=rest) (by rw[eg];rfl) hs hcl C.kind C.nd (aW (hi pins s σ H _ I h) λv s1 h1=>aW h1 λitv s2 h2=>?_);obtain⟨it,fp,tn,J,H2,e,I2,T,st2,f2,lp⟩:=h2;subst e;refine T4 (N:=N) (inner:=inner) (R:=λacc C=>compPost (model X.prog X.w) X.A X.xe none (EP X pins σ Q) acc C) hc C eg ht hg htt hin I2 T st2 f2 lp ?_;intro σ' H' xs s3 s' C D hD0 hC hn a f fC hDC hout k;obtain⟨m,hn⟩:=hn;refine⟨m,hn,λh' hh=>?_⟩;have I5:=hout h' hh;obtain⟨hz,its,n,r,eD⟩:=a;have eD':h'.get? D=some { cls:=.type "list",data:=.seq its.toArray n }:=(hh.2 D (bf hDC)).trans eD;refine⟨.ref D,aQ H' D (.lst xs),I5.adopt f hD0 ⟨hz,its,n,r,eD'⟩,rfl,k D f.1⟩
end
section
variable{X:Cx}
end
inductive Dt where
 |non|bl (b:Bool)|int (i:Int)|str (x:Str)|tup (xs:List Dt)|lst (xs:List Dt)|dct
mutual
def Den (P:ah->Prop) (H:Hp):Dt->V->Prop
 | .non,v=>v=.non
 | .bl b,v=>v=.bl b
 | .int i,v=>v=.int i
 | .str x,v=>v=.str x
 | .tup ds,v=>∃a vs,v=.ref a/\H a=some (.tup vs)/\DenL P H ds vs
 | .lst ds,v=>∃a vs,v=.ref a/\P a/\H a=some (.lst vs)/\DenL P H ds vs
 | .dct,v=>∃a,v=.ref a/\P a/\H a=some (.dK [])
def DenL (P:ah->Prop) (H:Hp):List Dt->List V->Prop
 | [],vs=>vs=[]
 |d::ds,vs=>∃v r,vs=v::r/\Den P H d v/\DenL P H ds r
end
theorem DenL.length {P:ah->Prop}{H:Hp}:∀{ds:List Dt}{vs:List V},DenL P H ds vs->vs.length=ds.length
 | [],vs,h=>by rw[DenL]at h;rw[h];rfl
 |d::ds,vs,h=>by rw[DenL]at h;obtain⟨v,r,rfl,_,h2⟩:=h;simp[DenL.length h2]
theorem DenL.get {P:ah->Prop}{H:Hp}:∀{ds:List Dt}{vs:List V}{i:Nat}{v:V},DenL P H ds vs->vs[i]?=some v->∃d,ds[i]?=some d/\Den P H d v
 | [],vs,i,v,h,e=>by rw[DenL]at h;rw[h]at e;simp at e
 |d::ds,vs,i,v,h,e=>by
  rw[DenL]at h;obtain⟨w,r,rfl,h1,h2⟩:=h
  cases i with
  |zero=>simp at e;subst e;exact⟨d,rfl,h1⟩
  |succ i=>simp at e;exact DenL.get (i:=i) h2 e
theorem DenL.nil {P:ah->Prop}{H:Hp}:DenL P H [] []:=by rw[DenL]
theorem DenL.cons {P:ah->Prop}{H:Hp}{d:Dt}{v:V}{ds:List Dt}{vs:List V}(h:Den P H d v) (t:DenL P H ds vs):DenL P H (d::ds) (v::vs):=by rw[DenL];exact⟨v,vs,rfl,h,t⟩
mutual
def bH:Dt->Dt->Bool
 | .non,.non=>true
 | .bl a,.bl b=>a==b
 | .bl a,.int j=>(if a then 1 else 0)==j
 | .int i,.bl b=>i==(if b then 1 else 0)
 | .int i,.int j=>i==j
 | .str x,.str y=>x==y
 | .tup xs,.tup ys=>hY xs ys
 | .lst xs,.lst ys=>hY xs ys
 |_,_=>false
def hY:List Dt->List Dt->Bool
 | [],[]=>true
 |x::xs,y::ys=>bH x y&&hY xs ys
 |_,_=>false
end
mutual
def fT:Dt->Nat
 | .tup xs=>lK xs+1
 | .lst xs=>lK xs+1
 |_=>0
def lK:List Dt->Nat
 | []=>0
 |x::xs=>max (fT x) (lK xs)
end
mutual
def nod:Dt->Bool
 | .tup xs=>jD xs
 | .lst xs=>jD xs
 | .dct=>false
 |_=>true
def jD:List Dt->Bool
 | []=>true
 |x::xs=>nod x&&jD xs
end
mutual
theorem AY:∀d:Dt,nod d=true->bH d d=true
 | .non,_=>rfl
 | .bl b,_=>by simp[bH]
 | .int i,_=>by simp[bH]
 | .str x,_=>by simp[bH]
 | .tup xs,h=>by rw[bH];exact AZ xs (by rw[nod]at h;exact h)
 | .lst xs,h=>by rw[bH];exact AZ xs (by rw[nod]at h;exact h)
 | .dct,h=>by simp[nod]at h
theorem AZ:∀l:List Dt,jD l=true->hY l l=true
 | [],_=>rfl
 |x::xs,h=>by rw[jD,cf]at h;rw[hY,AY x h.1,AZ xs h.2];rfl
end
theorem A0:∀{l:List Dt}{d:Dt},d∈l->fT d<=lK l
 |x::xs,d,h=>by
  rw[lK]
  rcases ay.mp h with rfl|h
  ·omega
  ·have:=A0 h;omega
theorem sW:∀{l:List Dt}{d:Dt},jD l=true->d∈l->nod d=true
 |x::xs,d,h,hd=>by
  rw[jD,cf]at h
  rcases ay.mp hd with rfl|hd
  ·exact h.1
  ·exact sW h.2 hd
theorem sX:∀{xs ys:List Dt},xs.length=ys.length->hY xs ys=(bo xs.length).all λi=>bH (xs.getD i .non) (ys.getD i .non)
 | [],[],_=>rfl
 |x::xs,y::ys,h=>by rw[hY,sX (xs:=xs) (ys:=ys) (by simpa using h),cp,Al,List.all_cons,List.all_map];rfl
theorem sY:∀{xs ys:List Dt},xs.length≠ys.length->hY xs ys=false
 | [],[],h=>absurd rfl h
 | [],_::_,_=>rfl
 |_::_,[],_=>rfl
 |x::xs,y::ys,h=>by rw[hY,sY (xs:=xs) (ys:=ys) (by simpa using h),pg]
mutual
theorem Den.inj {P:ah->Prop}{H:Hp}:∀(d d':Dt) (v:V),Den P H d v->Den P H d' v->d=d'
 | .non,d',v,h,h'=>by
  rw[Den]at h;subst h
  cases d' <;> rw[Den]at h' <;> first|rfl|(obtain⟨_,_,e,_⟩:=h';cases e;done)|(obtain⟨_,e,_⟩:=h';cases e;done)|(cases h';done)
 | .bl b,d',v,h,h'=>by
  rw[Den]at h;subst h
  cases d' <;> rw[Den]at h' <;> first|(obtain⟨_,_,e,_⟩:=h';cases e;done)|(obtain⟨_,e,_⟩:=h';cases e;done)|(cases h';done)|(cases h';rfl)
 | .int b,d',v,h,h'=>by
  rw[Den]at h;subst h
  cases d' <;> rw[Den]at h' <;> first|(obtain⟨_,_,e,_⟩:=h';cases e;done)|(obtain⟨_,e,_⟩:=h';cases e;done)|(cases h';done)|(cases h';rfl)
 | .str b,d',v,h,h'=>by
  rw[Den]at h;subst h
  cases d' <;> rw[Den]at h' <;> first|(obtain⟨_,_,e,_⟩:=h';cases e;done)|(obtain⟨_,e,_⟩:=h';cases e;done)|(cases h';done)|(cases h';rfl)
 | .tup ds,d',v,h,h'=>by
  rw[Den]at h;obtain⟨a,vs,rfl,h1,h2⟩:=h
  cases d' with
  |tup ds'=>rw[Den]at h';obtain⟨a',vs',e,h1',h2'⟩:=h';cases e;rw[h1]at h1';cases h1';rw[DenL.inj ds ds' vs h2 h2']
  |lst ds'=>rw[Den]at h';obtain⟨a',vs',e,_,h1',h2'⟩:=h';cases e;rw[h1]at h1';cases h1'
  |dct=>rw[Den]at h';obtain⟨a',e,_,h1'⟩:=h';cases e;rw[h1]at h1';cases h1'
  |_=>rw[Den]at h';cases h'
 | .lst ds,d',v,h,h'=>by
  rw[Den]at h;obtain⟨a,vs,rfl,_,h1,h2⟩:=h
  cases d' with
  |tup ds'=>rw[Den]at h';obtain⟨a',vs',e,h1',h2'⟩:=h';cases e;rw[h1]at h1';cases h1'
  |lst ds'=>rw[Den]at h';obtain⟨a',vs',e,_,h1',h2'⟩:=h';cases e;rw[h1]at h1';cases h1';rw[DenL.inj ds ds' vs h2 h2']
  |dct=>rw[Den]at h';obtain⟨a',e,_,h1'⟩:=h';cases e;rw[h1]at h1';cases h1'
  |_=>rw[Den]at h';cases h'
 | .dct,d',v,h,h'=>by
  rw[Den]at h;obtain⟨a,rfl,_,h1⟩:=h
  cases d' with
  |tup ds'=>rw[Den]at h';obtain⟨a',vs',e,h1',h2'⟩:=h';cases e;rw[h1]at h1';cases h1'
  |lst ds'=>rw[Den]at h';obtain⟨a',vs',e,_,h1',h2'⟩:=h';cases e;rw[h1]at h1';cases h1'
  |dct=>rfl
  |_=>rw[Den]at h';cases h'
theorem DenL.inj {P:ah->Prop}{H:Hp}:∀(ds ds':List Dt) (vs:List V),DenL P H ds vs->DenL P H ds' vs->ds=ds'
 | [],ds',vs,h,h'=>by
  rw[DenL]at h;subst h
  cases ds' with
  |nil=>rfl
  |cons d ds'=>rw[DenL]at h';obtain⟨_,_,e,_⟩:=h';cases e
 |d::ds,ds',vs,h,h'=>by
  rw[DenL]at h;obtain⟨v,r,rfl,h1,h2⟩:=h
  cases ds' with
  |nil=>rw[DenL]at h';cases h'
  |cons d' ds'=>rw[DenL]at h';obtain⟨v',r',e,h1',h2'⟩:=h';cases e;rw[Den.inj d d' v h1 h1',DenL.inj ds ds' r h2 h2']
end
section
variable{Pg:bg}{w:cq}{P:ah->Prop}{H:Hp}{s:ag}
theorem gF (hok:HOk Pg w H s.heap) {a:ah}{vs:List V}(e:H a=some (.tup vs)):∃its:List af,Vals vs its/\s.heap.IsTuple a its.toArray:=by
 obtain⟨_,its,r,p⟩:=(show ObjOk Pg w H s.heap a (.tup vs) from hok a _ e)
 exact⟨its,r,p.tup⟩
theorem gG (hok:HOk Pg w H s.heap) {a:ah}{vs:List V}(e:H a=some (.lst vs)):∃its:List af,Vals vs its/\s.heap.IsList a its.toArray:=by
 obtain⟨_,its,n,r,p⟩:=(show ObjOk Pg w H s.heap a (.lst vs) from hok a _ e)
 exact⟨its,r,_,p,rfl,n,rfl⟩
theorem vR {vs:List V}{its:List af}(r:Vals vs its) {j:Nat}(h:j<its.toArray.size):∃v,vs[j]?=some v/\RelV v its.toArray[j]:=by
 have hl:=r.length;have h':j<its.length:=by simpa using h
 have hv:j<vs.length:=by omega
 obtain⟨u,e,q⟩:=r.get (i:=j) (x:=vs[j]) (bc hv);refine⟨vs[j],bc hv, ?_⟩;have:its.toArray[j]=u:=by have:its[j]?=some its[j]:=bc h';rw[this]at e;simpa using e
 rw[this];exact q
theorem A1 (hok:HOk Pg w H s.heap):∀(n:Nat) (A:cn) (d d':Dt) (v v':V) (u u':af),fT d<=n->A.units+n+1<cLine->nod d=true->nod d'=true->Den P H d v->Den P H d' v'->RelV v u->RelV v' u'->
  Bp A s u u' (bH d d')/\ue A s u u' (bH d d'):=by
 intro n
 induction n with
 |zero=>
  intro A d d' v v' u u' hn hu n1 n2 h h' r r';have hu':A.units<cLine:=by omega
  cases d with
  |non=>
   rw[Den]at h;subst h;cases r
   cases d' with
   |non=>rw[Den]at h';subst h';cases r';exact⟨xi,qi _⟩
   |bl b'=>rw[Den]at h';subst h';cases r';exact⟨xj _,xk _⟩
   |int i'=>rw[Den]at h';subst h';obtain⟨t2,rfl⟩:=r';exact⟨yo _ _,yp _ _⟩
   |str x'=>rw[Den]at h';subst h';obtain⟨t2,rfl⟩:=r';exact⟨yq _ _,yr _ _⟩
   |tup ds'=>rw[Den]at h';obtain⟨a2,vs2,rfl,e2,g2⟩:=h';cases r';obtain⟨its2,q2,tp2⟩:=gF hok e2;exact⟨wt  tp2 hu',wu  tp2 hu'⟩
   |lst ds'=>rw[Den]at h';obtain⟨a2,vs2,rfl,_,e2,g2⟩:=h';cases r';obtain⟨its2,q2,tp2⟩:=gG hok e2;exact⟨xl  tp2 hu',xm  tp2 hu'⟩
   |dct=>simp[nod]at n2
  |bl b=>
   rw[Den]at h;subst h;cases r
   cases d' with
   |non=>rw[Den]at h';subst h';cases r';exact⟨xq _,xr _⟩
   |bl b'=>rw[Den]at h';subst h';cases r';exact⟨xu _ _,xv _ _⟩
   |int i'=>rw[Den]at h';subst h';obtain⟨t2,rfl⟩:=r';exact⟨yt _ _ _,yu _ _ _⟩
   |str x'=>rw[Den]at h';subst h';obtain⟨t2,rfl⟩:=r';exact⟨yv _ _ _,yw _ _ _⟩
   |tup ds'=>rw[Den]at h';obtain⟨a2,vs2,rfl,e2,g2⟩:=h';cases r';obtain⟨its2,q2,tp2⟩:=gF hok e2;exact⟨wx _ tp2 hu',wy _ tp2 hu'⟩
   |lst ds'=>rw[Den]at h';obtain⟨a2,vs2,rfl,_,e2,g2⟩:=h';cases r';obtain⟨its2,q2,tp2⟩:=gG hok e2;exact⟨xw _ tp2 hu',ya _ tp2 hu'⟩
   |dct=>simp[nod]at n2
  |int i=>
   rw[Den]at h;subst h;obtain⟨t1,rfl⟩:=r
   cases d' with
   |non=>rw[Den]at h';subst h';cases r';exact⟨yx _ _,yy _ _⟩
   |bl b'=>rw[Den]at h';subst h';cases r';exact⟨yz _ _ _,zb _ _ _⟩
   |int i'=>rw[Den]at h';subst h';obtain⟨t2,rfl⟩:=r';exact⟨zv _ _ _ _,sy _ _ _ _⟩
   |str x'=>rw[Den]at h';subst h';obtain⟨t2,rfl⟩:=r';exact⟨zw _ _ _ _,sr _ _ _ _⟩
   |tup ds'=>rw[Den]at h';obtain⟨a2,vs2,rfl,e2,g2⟩:=h';cases r';obtain⟨its2,q2,tp2⟩:=gF hok e2;exact⟨yb _ _ tp2 hu',yc _ _ tp2 hu'⟩
   |lst ds'=>rw[Den]at h';obtain⟨a2,vs2,rfl,_,e2,g2⟩:=h';cases r';obtain⟨its2,q2,tp2⟩:=gG hok e2;exact⟨zc _ _ tp2 hu',zd _ _ tp2 hu'⟩
   |dct=>simp[nod]at n2
  |str x=>
   rw[Den]at h;subst h;obtain⟨t1,rfl⟩:=r
   cases d' with
   |non=>rw[Den]at h';subst h';cases r';exact⟨ze _ _,zf _ _⟩
   |bl b'=>rw[Den]at h';subst h';cases r';exact⟨zg _ _ _,zh _ _ _⟩
   |int i'=>rw[Den]at h';subst h';obtain⟨t2,rfl⟩:=r';exact⟨zx _ _ _ _,sv _ _ _ _⟩
   |str x'=>rw[Den]at h';subst h';obtain⟨t2,rfl⟩:=r';exact⟨zy _ _ _ _,Aa _ _ _ _⟩
   |tup ds'=>rw[Den]at h';obtain⟨a2,vs2,rfl,e2,g2⟩:=h';cases r';obtain⟨its2,q2,tp2⟩:=gF hok e2;exact⟨yd _ _ tp2 hu',ye _ _ tp2 hu'⟩
   |lst ds'=>rw[Den]at h';obtain⟨a2,vs2,rfl,_,e2,g2⟩:=h';cases r';obtain⟨its2,q2,tp2⟩:=gG hok e2;exact⟨zi _ _ tp2 hu',zj _ _ tp2 hu'⟩
   |dct=>simp[nod]at n2
  |tup ds=>rw[fT]at hn;omega
  |lst ds=>rw[fT]at hn;omega
  |dct=>simp[nod]at n1
 |succ n ih=>
  intro A d d' v v' u u' hn hu n1 n2 h h' r r';have hu':A.units<cLine:=by omega
  have hin:∀{vs vs':List V}{ds ds':List Dt}{its its':List af},lK ds<=n->jD ds=true->jD ds'=true->DenL P H ds vs->DenL P H ds' vs'->Vals vs its->Vals vs' its'->
    ∀j (h1:j<its.toArray.size) (h2:j<its'.toArray.size),ue A.in1 s its.toArray[j] its'.toArray[j] (bH (ds.getD j .non) (ds'.getD j .non)):=by
   intro vs vs' ds ds' its its' hd m1 m2 g g' q q' j h1 h2;obtain⟨x,ex,rx⟩:=vR q h1;obtain⟨x',ex',rx'⟩:=vR q' h2;obtain⟨dx,edx,gx⟩:=g.get ex;obtain⟨dx',edx',gx'⟩:=g'.get ex';have e1:ds.getD j .non=dx:=by simp[kh,edx]
   have e2:ds'.getD j .non=dx':=by simp[kh,edx']
   rw[e1,e2];have hm:=bw edx;exact(ih A.in1 dx dx' x x' _ _ (du (A0 hm) hd) (by show A.units+1+n+1<cLine;omega) (sW m1 hm) (sW m2 (bw edx')) gx gx' rx rx').2
  cases d with
  |non=>
   rw[Den]at h;subst h;cases r
   cases d' with
   |non=>rw[Den]at h';subst h';cases r';exact⟨xi,qi _⟩
   |bl b'=>rw[Den]at h';subst h';cases r';exact⟨xj _,xk _⟩
   |int i'=>rw[Den]at h';subst h';obtain⟨t2,rfl⟩:=r';exact⟨yo _ _,yp _ _⟩
   |str x'=>rw[Den]at h';subst h';obtain⟨t2,rfl⟩:=r';exact⟨yq _ _,yr _ _⟩
   |tup ds'=>rw[Den]at h';obtain⟨a2,vs2,rfl,e2,g2⟩:=h';cases r';obtain⟨its2,q2,tp2⟩:=gF hok e2;exact⟨wt  tp2 hu',wu  tp2 hu'⟩
   |lst ds'=>rw[Den]at h';obtain⟨a2,vs2,rfl,_,e2,g2⟩:=h';cases r';obtain⟨its2,q2,tp2⟩:=gG hok e2;exact⟨xl  tp2 hu',xm  tp2 hu'⟩
   |dct=>simp[nod]at n2
  |bl b=>
   rw[Den]at h;subst h;cases r
   cases d' with
   |non=>rw[Den]at h';subst h';cases r';exact⟨xq _,xr _⟩
   |bl b'=>rw[Den]at h';subst h';cases r';exact⟨xu _ _,xv _ _⟩
   |int i'=>rw[Den]at h';subst h';obtain⟨t2,rfl⟩:=r';exact⟨yt _ _ _,yu _ _ _⟩
   |str x'=>rw[Den]at h';subst h';obtain⟨t2,rfl⟩:=r';exact⟨yv _ _ _,yw _ _ _⟩
   |tup ds'=>rw[Den]at h';obtain⟨a2,vs2,rfl,e2,g2⟩:=h';cases r';obtain⟨its2,q2,tp2⟩:=gF hok e2;exact⟨wx _ tp2 hu',wy _ tp2 hu'⟩
   |lst ds'=>rw[Den]at h';obtain⟨a2,vs2,rfl,_,e2,g2⟩:=h';cases r';obtain⟨its2,q2,tp2⟩:=gG hok e2;exact⟨xw _ tp2 hu',ya _ tp2 hu'⟩
   |dct=>simp[nod]at n2
  |int i=>
   rw[Den]at h;subst h;obtain⟨t1,rfl⟩:=r
   cases d' with
   |non=>rw[Den]at h';subst h';cases r';exact⟨yx _ _,yy _ _⟩
   |bl b'=>rw[Den]at h';subst h';cases r';exact⟨yz _ _ _,zb _ _ _⟩
   |int i'=>rw[Den]at h';subst h';obtain⟨t2,rfl⟩:=r';exact⟨zv _ _ _ _,sy _ _ _ _⟩
   |str x'=>rw[Den]at h';subst h';obtain⟨t2,rfl⟩:=r';exact⟨zw _ _ _ _,sr _ _ _ _⟩
   |tup ds'=>rw[Den]at h';obtain⟨a2,vs2,rfl,e2,g2⟩:=h';cases r';obtain⟨its2,q2,tp2⟩:=gF hok e2;exact⟨yb _ _ tp2 hu',yc _ _ tp2 hu'⟩
   |lst ds'=>rw[Den]at h';obtain⟨a2,vs2,rfl,_,e2,g2⟩:=h';cases r';obtain⟨its2,q2,tp2⟩:=gG hok e2;exact⟨zc _ _ tp2 hu',zd _ _ tp2 hu'⟩
   |dct=>simp[nod]at n2
  |str x=>
   rw[Den]at h;subst h;obtain⟨t1,rfl⟩:=r
   cases d' with
   |non=>rw[Den]at h';subst h';cases r';exact⟨ze _ _,zf _ _⟩
   |bl b'=>rw[Den]at h';subst h';cases r';exact⟨zg _ _ _,zh _ _ _⟩
   |int i'=>rw[Den]at h';subst h';obtain⟨t2,rfl⟩:=r';exact⟨zx _ _ _ _,sv _ _ _ _⟩
   |str x'=>rw[Den]at h';subst h';obtain⟨t2,rfl⟩:=r';exact⟨zy _ _ _ _,Aa _ _ _ _⟩
   |tup ds'=>rw[Den]at h';obtain⟨a2,vs2,rfl,e2,g2⟩:=h';cases r';obtain⟨its2,q2,tp2⟩:=gF hok e2;exact⟨yd _ _ tp2 hu',ye _ _ tp2 hu'⟩
   |lst ds'=>rw[Den]at h';obtain⟨a2,vs2,rfl,_,e2,g2⟩:=h';cases r';obtain⟨its2,q2,tp2⟩:=gG hok e2;exact⟨zi _ _ tp2 hu',zj _ _ tp2 hu'⟩
   |dct=>simp[nod]at n2
  |tup ds=>
   rw[Den]at h;obtain⟨a1,vs1,rfl,e1,g1⟩:=h;cases r;obtain⟨its1,q1,tp1⟩:=gF hok e1
   cases d' with
   |non=>rw[Den]at h';subst h';cases r';exact⟨SeqAt.RcAt.tuple_none  tp1 hu',SeqAt.EqAt.tuple_none  tp1 hu'⟩
   |bl b'=>rw[Den]at h';subst h';cases r';exact⟨SeqAt.RcAt.tuple_bool _ tp1 hu',SeqAt.EqAt.tuple_bool _ tp1 hu'⟩
   |int i'=>rw[Den]at h';subst h';obtain⟨t2,rfl⟩:=r';exact⟨SeqAt.RcAt.tuple_int _ _ tp1 hu',SeqAt.EqAt.tuple_int _ _ tp1 hu'⟩
   |str x'=>rw[Den]at h';subst h';obtain⟨t2,rfl⟩:=r';exact⟨SeqAt.RcAt.tuple_str _ _ tp1 hu',SeqAt.EqAt.tuple_str _ _ tp1 hu'⟩
   |tup ds'=>
    rw[Den]at h';obtain⟨a2,vs2,rfl,e2,g2⟩:=h';cases r';obtain⟨its2,q2,tp2⟩:=gF hok e2;rw[nod]at n1 n2;rw[fT]at hn;have hl1:=g1.length;have hl2:=g2.length;have hq1:=q1.length;have hq2:=q2.length;have key:Bp A s (.ref a1) (.ref a2) (bH (.tup ds) (.tup ds')):=by
     rw[bH];have z:=SeqAt.RcAt.tuples (e:=λj=>bH (ds.getD j .non) (ds'.getD j .non)) tp1 tp2 hu' (hin (by omega) n1 n2 g1 g2 q1 q2);have s1:its1.toArray.size=ds.length:=by simp;omega
     have s2:its2.toArray.size=ds'.length:=by simp;omega
     rw[s1,s2]at z
     by_cases hlen:ds.length=ds'.length
     ·rw[sX hlen];rw[<-hlen,Nat.min_self]at z;simpa using z
     ·rw[sY hlen];rw[show(ds.length==ds'.length)=false from beq_eq_false_iff_ne.mpr hlen,pg]at z;exact z
    refine⟨key, ?_⟩
    by_cases hab:a1=a2
    ·subst hab;rw[e1]at e2;cases e2;rw[DenL.inj ds ds' _ g1 g2,AY _ (by rw[nod];exact n2)];exact qi _
    ·exact Ab hab key
   |lst ds'=>rw[Den]at h';obtain⟨a2,vs2,rfl,_,e2,g2⟩:=h';cases r';obtain⟨its2,q2,tp2⟩:=gG hok e2;exact⟨SeqAt.RcAt.tuple_list tp1 tp2 hu',SeqAt.EqAt.tuple_list tp1 tp2 hu'⟩
   |dct=>simp[nod]at n2
  |lst ds=>
   rw[Den]at h;obtain⟨a1,vs1,rfl,_,e1,g1⟩:=h;cases r;obtain⟨its1,q1,tp1⟩:=gG hok e1
   cases d' with
   |non=>rw[Den]at h';subst h';cases r';exact⟨SeqAt.RcAt.list_none  tp1 hu',SeqAt.EqAt.list_none  tp1 hu'⟩
   |bl b'=>rw[Den]at h';subst h';cases r';exact⟨SeqAt.RcAt.list_bool _ tp1 hu',SeqAt.EqAt.list_bool _ tp1 hu'⟩
   |int i'=>rw[Den]at h';subst h';obtain⟨t2,rfl⟩:=r';exact⟨SeqAt.RcAt.list_int _ _ tp1 hu',SeqAt.EqAt.list_int _ _ tp1 hu'⟩
   |str x'=>rw[Den]at h';subst h';obtain⟨t2,rfl⟩:=r';exact⟨SeqAt.RcAt.list_str _ _ tp1 hu',SeqAt.EqAt.list_str _ _ tp1 hu'⟩
   |tup ds'=>rw[Den]at h';obtain⟨a2,vs2,rfl,e2,g2⟩:=h';cases r';obtain⟨its2,q2,tp2⟩:=gF hok e2;exact⟨SeqAt.RcAt.list_tuple tp1 tp2 hu',SeqAt.EqAt.list_tuple tp1 tp2 hu'⟩
   |lst ds'=>
    rw[Den]at h';obtain⟨a2,vs2,rfl,_,e2,g2⟩:=h';cases r';obtain⟨its2,q2,tp2⟩:=gG hok e2;rw[nod]at n1 n2;rw[fT]at hn;have hl1:=g1.length;have hl2:=g2.length;have hq1:=q1.length;have hq2:=q2.length;have key:Bp A s (.ref a1) (.ref a2) (bH (.lst ds) (.lst ds')):=by
     rw[bH]
     by_cases hlen:ds.length=ds'.length
     ·have z:=SeqAt.RcAt.lists (e:=λj=>bH (ds.getD j .non) (ds'.getD j .non)) tp1 tp2 (by simp;omega) hu' (hin (by omega) n1 n2 g1 g2 q1 q2);rw[sX hlen];simpa[hq1.symm,hl1]using z
     ·rw[sY hlen];exact SeqAt.RcAt.lists_lengths tp1 tp2 (by simp;omega) hu'
    refine⟨key, ?_⟩
    by_cases hab:a1=a2
    ·subst hab;rw[e1]at e2;cases e2;rw[DenL.inj ds ds' _ g1 g2,AY _ (by rw[nod];exact n2)];exact qi _
    ·exact Ab hab key
   |dct=>simp[nod]at n2
  |dct=>simp[nod]at n1
end
end L2
namespace L2.Mr
open PySem PySem.Spec PyProof.Rows
inductive Dv where
 |non|bl (b:Bool)|int (i:Int)|str (x:Str)|tup (xs:List Dv)|ref (i:Nat)|edc|exc (c:Nat)|scr
inductive Ob where
 |lst (xs:List Dv)
abbrev Hs:=List Ob
abbrev Ev:=List (Option Dv)
inductive Rs (α:Type) where
 |ok (a:α) (h:Hs)|ex (c:Nat) (h:Hs)|bad
def Rs.bind {α β:Type}(r:Rs α) (f:α->Hs->Rs β):Rs β:=match r with
 | .ok a h=>f a h
 | .ex c h=>.ex c h
 | .bad=>.bad
@[simp] theorem Rs.bind_ok {α β:Type}(a:α) (h:Hs) (f:α->Hs->Rs β):(Rs.ok a h).bind f=f a h:=rfl
@[simp] theorem Rs.bind_ex {α β:Type}(c:Nat) (h:Hs) (f:α->Hs->Rs β):(Rs.ex c h).bind f=.ex c h:=rfl
@[simp] theorem Rs.bind_bad {α β:Type}(f:α->Hs->Rs β):(Rs.bad).bind f=.bad:=rfl
abbrev M (α:Type):=Ev->Hs->Rs α
structure Cfg where
 K:ar
 cl:Nat->ah
 scr:List Int
 sa:ah
 tab:Option ah:=none
 lq:Str:=oi
def dF (C:af) (e T:ah) (a0:af) (h:cx):Prop:=∃oe vs,h.get? e=some oe/\oe.cls=C/\oe.data=.fields vs/\vs[0]?=some a0/\vs[1]?=some (.ref T)/\oe.dict=none
def vS (G:Cfg) (H:Hp) (c:Nat) (u:af):Prop:=∃e φ,u=.ref e/\H e=some (.ext φ)/\∀h,φ h->∃o,h.get? e=some o/\o.cls=.ref (G.cl c)
def A2:HO->Prop
 | .tup _=>True
 | .dK kvs=>kvs=[]
 | .frz _ _=>True
 |_=>False
def FzL (K:ar) (H:Hp) (a:ah) (xs:List V):Prop:=(∃o,H a=some (.frz o (.lst xs))) ∨
  ∃(o:Obj) (its:Array af) (n:Nat),K.lookup a=some o/\o.cls=.type "list"/\o.dict=none/\o.data=.seq its n/\its.size<=bp/\Vals xs its.toList
theorem FzL.sq {K:ar}{H:Hp}{a:ah}{xs:List V}(h:FzL K H a xs):SqL K H a xs:=by
 rcases h with⟨o,h⟩|h
 ·exact .inl (.inr ⟨o,h⟩)
 ·exact .inr h
theorem FzL.keep {K:ar}{H H':Hp}{a:ah}{xs:List V}(h:FzL K H a xs) (k:∀a o,A2 o->H a=some o->H' a=some o):FzL K H' a xs:=by
 rcases h with⟨o,h⟩|h
 ·exact .inl ⟨o,k a _ trivial h⟩
 ·exact .inr h
mutual
def RelD (G:Cfg) (μ:Nat->ah) (n:Nat) (H:Hp):Dv->V->Prop
 | .non,v=>v=.non
 | .bl b,v=>v=.bl b
 | .int i,v=>v=.int i
 | .str x,v=>v=.str x
 | .tup ds,v=>∃a vs,v=.ref a/\H a=some (.tup vs)/\RelDL G μ n H ds vs
 | .ref i,v=>i<n/\v=.ref (μ i)
 | .edc,v=>∃a,v=.ref a/\H a=some (.dK [])
 | .exc c,v=>∃a o u,v=.ref a/\H a=some (.frz o u)/\o.cls=.ref (G.cl c)/\o.dict=none/\∃vs,o.data=.fields vs
 | .scr,v=>v=.ref G.sa/\FzL G.K H G.sa (G.scr.map V.int)
def RelDL (G:Cfg) (μ:Nat->ah) (n:Nat) (H:Hp):List Dv->List V->Prop
 | [],vs=>vs=[]
 |d::ds,vs=>∃v r,vs=v::r/\RelD G μ n H d v/\RelDL G μ n H ds r
end
structure Ext (μ:Nat->ah) (n:Nat) (H:Hp) (μ':Nat->ah) (n':Nat) (H':Hp):Prop where
 le:n<=n'
 mu:∀i,i<n->μ' i=μ i
 im:∀a o,A2 o->H a=some o->H' a=some o
theorem Ext.refl {μ:Nat->ah}{n:Nat}{H:Hp}:Ext μ n H μ n H:=⟨ak _,λ_ _=>rfl,λ_ _ _ e=>e⟩
theorem Ext.trans {μ μ1 μ2:Nat->ah}{n n1 n2:Nat}{H H1 H2:Hp}(a:Ext μ n H μ1 n1 H1) (b:Ext μ1 n1 H1 μ2 n2 H2):Ext μ n H μ2 n2 H2:=⟨du a.le b.le,λi hi=>(b.mu i (aw hi a.le)).trans (a.mu i hi),λc o i e=>b.im c o i (a.im c o i e)⟩
section
variable{G:Cfg}{μ μ':Nat->ah}{n n':Nat}{H H':Hp}
mutual
theorem RelD.mono (x:Ext μ n H μ' n' H'):∀(d:Dv) (v:V),RelD G μ n H d v->RelD G μ' n' H' d v
 | .non,v,h=>h
 | .bl b,v,h=>h
 | .int i,v,h=>h
 | .str s,v,h=>h
 | .tup ds,v,h=>by obtain⟨a,vs,e,h1,h2⟩:=h;exact⟨a,vs,e,x.im a _ trivial h1,RelDL.mono x ds vs h2⟩
 | .ref i,v,h=>by obtain⟨h1,h2⟩:=h;exact⟨aw h1 x.le,by rw[x.mu i h1];exact h2⟩
 | .edc,v,h=>by obtain⟨a,e,h1⟩:=h;exact⟨a,e,x.im a _ rfl h1⟩
 | .exc c,v,h=>by obtain⟨a,o,u,e,h1,h2⟩:=h;exact⟨a,o,u,e,x.im a _ trivial h1,h2⟩
 | .scr,v,h=>by obtain⟨h1,h2⟩:=h;exact⟨h1,h2.keep x.im⟩
theorem RelDL.mono (x:Ext μ n H μ' n' H'):∀(ds:List Dv) (vs:List V),RelDL G μ n H ds vs->RelDL G μ' n' H' ds vs
 | [],vs,h=>h
 |d::ds,vs,h=>by obtain⟨v,r,e,h1,h2⟩:=h;exact⟨v,r,e,RelD.mono x d v h1,RelDL.mono x ds r h2⟩
end
theorem RelDL.length:∀{ds:List Dv}{vs:List V},RelDL G μ n H ds vs->vs.length=ds.length
 | [],_,h=>by rw[RelDL]at h;subst h;rfl
 |d::ds,_,h=>by rw[RelDL]at h;obtain⟨v,r,rfl,_,h2⟩:=h;rw[cp,cp,RelDL.length h2]
theorem RelDL.get:∀{ds:List Dv}{vs:List V}{i:Nat}{d:Dv},RelDL G μ n H ds vs->ds[i]?=some d->∃v,vs[i]?=some v/\RelD G μ n H d v
 | [],_,_,_,_,e=>by simp at e
 |d::ds,_,0,d',h,e=>by rw[RelDL]at h;obtain⟨v,r,rfl,h1,_⟩:=h;simp at e;subst e;exact⟨v,rfl,h1⟩
 |d::ds,_,i+1,d',h,e=>by rw[RelDL]at h;obtain⟨v,r,rfl,_,h2⟩:=h;obtain⟨u,e1,h3⟩:=RelDL.get (i:=i) h2 (by simpa using e);exact⟨u,by simpa using e1,h3⟩
theorem RelDL.nil:RelDL G μ n H [] []:=by rw[RelDL]
theorem RelDL.cons {d:Dv}{v:V}{ds:List Dv}{vs:List V}(h:RelD G μ n H d v) (t:RelDL G μ n H ds vs):RelDL G μ n H (d::ds) (v::vs):=by rw[RelDL];exact⟨v,vs,rfl,h,t⟩
theorem RelDL.append:∀{ds es:List Dv}{vs ws:List V},RelDL G μ n H ds vs->RelDL G μ n H es ws->RelDL G μ n H (ds++es) (vs++ws)
 | [],_,_,_,h,h'=>by rw[RelDL]at h;subst h;exact h'
 |d::ds,_,_,_,h,h'=>by rw[RelDL]at h;obtain⟨v,r,rfl,h1,h2⟩:=h;exact RelDL.cons h1 (RelDL.append h2 h')
theorem RelDL.take:∀{ds:List Dv}{vs:List V}(k:Nat),RelDL G μ n H ds vs->RelDL G μ n H (ds.take k) (vs.take k)
 | [],_,k,h=>by rw[RelDL]at h;subst h;simp[RelDL.nil]
 |d::ds,_,0,h=>by simp[RelDL.nil]
 |d::ds,_,k+1,h=>by rw[RelDL]at h;obtain⟨v,r,rfl,h1,h2⟩:=h;exact RelDL.cons h1 (RelDL.take k h2)
theorem RelDL.drop:∀{ds:List Dv}{vs:List V}(k:Nat),RelDL G μ n H ds vs->RelDL G μ n H (ds.drop k) (vs.drop k)
 | [],_,k,h=>by rw[RelDL]at h;subst h;simp[RelDL.nil]
 |d::ds,_,0,h=>h
 |d::ds,_,k+1,h=>by rw[RelDL]at h;obtain⟨v,r,rfl,h1,h2⟩:=h;exact RelDL.drop k h2
theorem RelDL.set {x:Dv}{u:V}(hx:RelD G μ n H x u):∀{ds:List Dv}{vs:List V}(i:Nat),RelDL G μ n H ds vs->RelDL G μ n H (ds.set i x) (vs.set i u)
 | [],_,_,h=>by rw[RelDL]at h;subst h;exact RelDL.nil
 |d::ds,_,0,h=>by rw[RelDL]at h;obtain⟨v,r,rfl,h1,h2⟩:=h;exact RelDL.cons hx h2
 |d::ds,_,i+1,h=>by rw[RelDL]at h;obtain⟨v,r,rfl,h1,h2⟩:=h;exact RelDL.cons h1 (RelDL.set hx i h2)
end
def T5 (G:Cfg) (μ:Nat->ah) (n:Nat) (H:Hp) (a:ah):Ob->Prop
 | .lst xs=>∃vs,H a=some (.lst vs)/\RelDL G μ n H xs vs
def vT (q:Str) (oc:Obj):Prop:=∃vs t,oc.data=.fields vs/\vs[1]?=some (.str q t)
def TabOk (G:Cfg) (H:Hp):Prop:=∀P,G.tab=some P->∃ps,H P=some (.tbl ps)/\uw ps.toList/\∀pos cv,codeAmong pos ps.toList=some cv->∃q oc,cv=.ref q/\H q=some (.frz oc (.own 0))/\vT G.lq oc
theorem TabOk.keep {G:Cfg}{H H':Hp}(t:TabOk G H) (k:∀a o,(∀xs,o≠.lst xs)->(∀φ,o≠.ext φ)->H a=some o->H' a=some o):TabOk G H':=λP e=>by obtain⟨ps,h1,h2,h3⟩:=t P e;refine⟨ps,k P _ (λ_ z=>by cases z) (λ_ z=>by cases z) h1,h2,λpos cv q=>?_⟩;obtain⟨a,oc,e1,e2,e3⟩:=h3 pos cv q;exact⟨a,oc,e1,k a _ (λ_ z=>by cases z) (λ_ z=>by cases z) e2,e3⟩
structure Sim (G:Cfg) (μ:Nat->ah) (h:Hs) (H:Hp):Prop where
 inj:∀i j,i<h.length->j<h.length->μ i=μ j->i=j
 ob:∀(i:Nat) (o:Ob),h[i]?=some o->T5 G μ h.length H (μ i) o
 tab:TabOk G H
structure RelS (G:Cfg) (μ:Nat->ah) (n:Nat) (H:Hp) (ρ:Ev) (σ:St):Prop where
 len:ρ.length=σ.length
 at_:∀(i:Nat) (d:Dv),ρ[i]?=some (some d)->∃v,σ[i]?=some (some v)/\RelD G μ n H d v
theorem RelS.mono {G:Cfg}{μ μ':Nat->ah}{n n':Nat}{H H':Hp}{ρ:Ev}{σ:St}(r:RelS G μ n H ρ σ) (x:Ext μ n H μ' n' H'):RelS G μ' n' H' ρ σ:=⟨r.len,λi d e=>let ⟨v,e1,h⟩:=r.at_ i d e;⟨v,e1,RelD.mono x d v h⟩⟩
def Out {α β:Type}(G:Cfg) (E:XK) (μ:Nat->ah) (n:Nat) (H:Hp) (r:Rs α) (R:(Nat->ah)->Nat->Hp->α->β->Prop) (Q:β->Hp->Prop):Prop:=
 match r with
 | .ok d h'=>∀μ' H' v,Ext μ n H μ' h'.length H'->Sim G μ' h' H'->R μ' h'.length H' d v->Q v H'
 | .ex c h'=>∀μ' H' u,Ext μ n H μ' h'.length H'->Sim G μ' h' H'->vS G H' c u->E u none H'
 | .bad=>False
theorem Out.bind {α β γ δ:Type}{G:Cfg}{E:XK}{μ:Nat->ah}{n:Nat}{H:Hp}{r:Rs α}{f:α->Hs->Rs γ}{R:(Nat->ah)->Nat->Hp->γ->δ->Prop}{Q:δ->Hp->Prop}{R1:(Nat->ah)->Nat->Hp->α->β->Prop}
  (o:Out G E μ n H (r.bind f) R Q):Out G E μ n H r R1 λv H1=>∃μ1 d h1,Ext μ n H μ1 h1.length H1/\Sim G μ1 h1 H1/\R1 μ1 h1.length H1 d v/\Out G E μ1 h1.length H1 (f d h1) R Q:=by
 cases r with
 |bad=>exact o
 |ex c h'=>exact o
 |ok d h'=>
  intro μ1 H1 v x1 s1 r1;refine⟨μ1,d,h',x1,s1,r1, ?_⟩;have o':Out G E μ n H (f d h') R Q:=o
  cases e:f d h' with
  |bad=>rw[e]at o';exact o'
  |ex c h2=>rw[e]at o';exact λμ2 H2 u x2 s2 r2=>o' μ2 H2 u (x1.trans x2) s2 r2
  |ok d2 h2=>rw[e]at o';exact λμ2 H2 u x2 s2 r2=>o' μ2 H2 u (x1.trans x2) s2 r2
theorem Out.mono {α β:Type}{G:Cfg}{E:XK}{μ:Nat->ah}{n:Nat}{H:Hp}{r:Rs α}{R:(Nat->ah)->Nat->Hp->α->β->Prop}{Q Q':β->Hp->Prop}(o:Out G E μ n H r R Q) (h:∀v H',Q v H'->Q' v H'):Out G E μ n H r R Q':=by
 cases r with
 |bad=>exact o
 |ex c h'=>exact o
 |ok d h'=>exact λμ' H' v x s r=>h _ _ (o μ' H' v x s r)
abbrev RB:(Nat->ah)->Nat->Hp->Bool->Bool->Prop:=λ_ _ _ b b'=>b'=b
def gH (G:Cfg) (E:XK) (m:M Dv):TE:=λσ H Q=>∃μ ρ h,RelS G μ h.length H ρ σ/\Sim G μ h H/\Out G E μ h.length H (m ρ h) (RelD G) Q
def jS (G:Cfg) (E:XK) (m:M Bool):TT:=λσ H Q=>∃μ ρ h,RelS G μ h.length H ρ σ/\Sim G μ h H/\Out G E μ h.length H (m ρ h) RB Q
def A3 (G:Cfg) (E:XK) (m:M (List Dv)):TA:=λσ H Q=>∃μ ρ h,RelS G μ h.length H ρ σ/\Sim G μ h H/\Out G E μ h.length H (m ρ h) (RelDL G) Q
def aI (X:Cx) (G:Cfg) (E:XK) (pe:bj) (m:M Dv):Prop:=X.K=G.K->PE X pe (gH G E m)
def fY (X:Cx) (G:Cfg) (E:XK) (pe:bj) (m:M Bool):Prop:=X.K=G.K->PT X pe (jS G E m)
def cY (X:Cx) (G:Cfg) (E:XK) (pe:List bj) (m:M (List Dv)):Prop:=X.K=G.K->PA X pe (A3 G E m)
theorem PE.imp {X:Cx}{e:bj}{t t':TE}(h:PE X e t) (i:∀σ H Q,t' σ H Q->t σ H Q):PE X e t':=λpins s σ H Q I q=>h pins s σ H Q I (i σ H Q q)
theorem PT.imp {X:Cx}{e:bj}{t t':TT}(h:PT X e t) (i:∀σ H Q,t' σ H Q->t σ H Q):PT X e t':=λpins s σ H Q I q=>h pins s σ H Q I (i σ H Q q)
theorem PA.imp {X:Cx}{e:List bj}{t t':TA}(h:PA X e t) (i:∀σ H Q,t' σ H Q->t σ H Q):PA X e t':=λpos pins s σ H Q I q=>h pos pins s σ H Q I (i σ H Q q)
section
variable{G:Cfg}{E:XK}{σ:St}{H:Hp}
theorem cZ {m:M Dv}{γ δ:Type}{f:Dv->Hs->Rs γ}{R:(Nat->ah)->Nat->Hp->γ->δ->Prop}{Q:δ->Hp->Prop}{Q1:V->Hp->Prop}{μ:Nat->ah}{ρ:Ev}{h:Hs}(rs:RelS G μ h.length H ρ σ) (s:Sim G μ h H) (o:Out G E μ h.length H ((m ρ h).bind f) R Q)
  (k:∀μ1 d h1 v H1,Ext μ h.length H μ1 h1.length H1->RelS G μ1 h1.length H1 ρ σ->Sim G μ1 h1 H1->RelD G μ1 h1.length H1 d v->Out G E μ1 h1.length H1 (f d h1) R Q->Q1 v H1):gH G E m σ H Q1:=
 ⟨μ,ρ,h,rs,s,(o.bind (R1:=RelD G)).mono λv H1 ⟨μ1,d,h1,x,s1,r1,o1⟩=>k μ1 d h1 v H1 x (rs.mono x) s1 r1 o1⟩
theorem A4 {m:M Bool}{γ δ:Type}{f:Bool->Hs->Rs γ}{R:(Nat->ah)->Nat->Hp->γ->δ->Prop}{Q:δ->Hp->Prop}{Q1:Bool->Hp->Prop}{μ:Nat->ah}{ρ:Ev}{h:Hs}(rs:RelS G μ h.length H ρ σ) (s:Sim G μ h H) (o:Out G E μ h.length H ((m ρ h).bind f) R Q)
  (k:∀μ1 b h1 H1,Ext μ h.length H μ1 h1.length H1->RelS G μ1 h1.length H1 ρ σ->Sim G μ1 h1 H1->Out G E μ1 h1.length H1 (f b h1) R Q->Q1 b H1):jS G E m σ H Q1:=
 ⟨μ,ρ,h,rs,s,(o.bind (R1:=RB)).mono λv H1 ⟨μ1,d,h1,x,s1,r1,o1⟩=>by have e:v=d:=r1;subst e;exact k μ1 v h1 H1 x (rs.mono x) s1 o1⟩
theorem kK {m:M (List Dv)}{γ δ:Type}{f:List Dv->Hs->Rs γ}{R:(Nat->ah)->Nat->Hp->γ->δ->Prop}{Q:δ->Hp->Prop}{Q1:List V->Hp->Prop}{μ:Nat->ah}{ρ:Ev}{h:Hs}(rs:RelS G μ h.length H ρ σ) (s:Sim G μ h H) (o:Out G E μ h.length H ((m ρ h).bind f) R Q)
  (k:∀μ1 d h1 v H1,Ext μ h.length H μ1 h1.length H1->RelS G μ1 h1.length H1 ρ σ->Sim G μ1 h1 H1->RelDL G μ1 h1.length H1 d v->Out G E μ1 h1.length H1 (f d h1) R Q->Q1 v H1):A3 G E m σ H Q1:=
 ⟨μ,ρ,h,rs,s,(o.bind (R1:=RelDL G)).mono λv H1 ⟨μ1,d,h1,x,s1,r1,o1⟩=>k μ1 d h1 v H1 x (rs.mono x) s1 r1 o1⟩
theorem Out.val {α β:Type}{μ:Nat->ah}{h:Hs}{d:α}{R:(Nat->ah)->Nat->Hp->α->β->Prop}{Q:β->Hp->Prop}{v:β}(s:Sim G μ h H) (o:Out G E μ h.length H (.ok d h) R Q) (r:R μ h.length H d v):Q v H:=o μ H v Ext.refl s r
end
section
variable{G:Cfg}{μ:Nat->ah}{h:Hs}{H H':Hp}{p:ah}{n:Nat}
theorem Ext.same (e:Same H H'):Ext μ n H μ n H':=⟨ak _,λ_ _=>rfl,λa o _ q=>e a o q⟩
theorem Sim.same (s:Sim G μ h H) (e:Same H H'):Sim G μ h H':=⟨s.inj,λi o q=>by
 have r:=s.ob i o q
 cases o with
 |lst xs=>obtain⟨vs,e1,r1⟩:=r;exact⟨vs,e _ _ e1,RelDL.mono (Ext.same e) _ _ r1⟩,s.tab.keep λa o _ _ q=>e a o q⟩
theorem cL {o:HO}(h:H p=none):Same H (aQ H p o):=λb u e=>by rw[bK (dX e h)];exact e
theorem Sim.not (s:Sim G μ h H) (hp:H p=none):∀(i:Nat),i<h.length->μ i≠p:=λi hi z=>by
 have q:h[i]?=some h[i]:=bc hi;generalize h[i]=o at q
 cases o with
 |lst xs=>obtain⟨vs,e1,_⟩:=s.ob i _ q;rw[z,hp]at e1;cases e1
theorem Sim.alloc {ds:List Dv}{vs:List V}(s:Sim G μ h H) (hp:H p=none) (r:RelDL G μ h.length H ds vs):
  Ext μ h.length H (λi=>if i=h.length then p else μ i) (h++[Ob.lst ds]).length (aQ H p (.lst vs))/\Sim G (λi=>if i=h.length then p else μ i) (h++[.lst ds]) (aQ H p (.lst vs)):=by
 have hl:(h++[Ob.lst ds]).length=h.length+1:=by simp
 have hq:=s.not hp;have x:Ext μ h.length H (λi=>if i=h.length then p else μ i) (h++[Ob.lst ds]).length (aQ H p (.lst vs)):=⟨by omega,λi hi=>if_neg (bf hi),λa o _ e=>cL hp a o e⟩
 refine⟨x,λi j hi hj e=>?_,λi o q=>?_,s.tab.keep λa o _ _ q=>cL hp a o q⟩
 ·rw[hl]at hi hj
  by_cases h1:i=h.length <;> by_cases h2:j=h.length
  ·omega
  ·rw[if_pos h1,if_neg h2]at e;exact absurd e.symm (hq j (by omega))
  ·rw[if_neg h1,if_pos h2]at e;exact absurd e (hq i (by omega))
  ·rw[if_neg h1,if_neg h2]at e;exact s.inj i j (by omega) (by omega) e
 ·by_cases h1:i<h.length
  ·rw[dk h1]at q;have r1:=s.ob i o q
   cases o with
   |lst xs=>obtain⟨ws,e1,r2⟩:=r1;exact⟨ws,by rw[if_neg (bf h1)];exact cL hp _ _ e1,RelDL.mono x _ _ r2⟩
  ·rw[dy (by omega)]at q;have h2:i=h.length:=by have:=(ba.mp q).1;simp at this;omega
   subst h2;simp at q;subst q;exact⟨vs,by rw[if_pos rfl];exact cK,RelDL.mono x _ _ r⟩
theorem Sim.write {xs ys:List Dv}{i:Nat}{vs:List V}(s:Sim G μ h H) (q:h[i]?=some (.lst xs)) (r:RelDL G μ h.length H ys vs):
  Ext μ h.length H μ (h.set i (.lst ys)).length (aQ H (μ i) (.lst vs))/\Sim G μ (h.set i (.lst ys)) (aQ H (μ i) (.lst vs)):=by
 obtain⟨us,e0,r0⟩:=s.ob i _ q;have hi:i<h.length:=(ba.mp q).1;have im:∀a o,A2 o->H a=some o->aQ H (μ i) (.lst vs) a=some o:=λa o m e=>by
  rw[bK];exact e
  rintro rfl;rw[e0]at e;cases e;exact m
 have x:Ext μ h.length H μ (h.set i (.lst ys)).length (aQ H (μ i) (.lst vs)):=⟨by simp,λ_ _=>rfl,im⟩
 refine⟨x,λa b ha hb=>?_,λj o e=>?_,s.tab.keep λa o n1 _ q=>?_⟩
 rotate_left 2
 ·rw[bK];exact q
  rintro rfl;rw[e0]at q;cases q;exact n1 _ rfl
 ·rw[kg]at ha hb;exact s.inj a b ha hb
 ·by_cases hij:i=j
  ·subst hij;rw[dm hi]at e;cases e;exact⟨vs,cK,RelDL.mono x _ _ r⟩
  ·rw[fh hij]at e;have hj:j<h.length:=(ba.mp e).1;have r1:=s.ob j o e;have ne:μ j≠μ i:=λz=>hij (s.inj j i hj hi z).symm
   cases o with
   |lst zs=>obtain⟨ws,e1,r2⟩:=r1;exact⟨ws,by rw[bK ne];exact e1,RelDL.mono x _ _ r2⟩
end
def lim {α:Type}(n:Nat) (r:Rs α):Rs α:=if n<=1000000 then r else .bad
theorem kL {n:Nat}(h:n<=1000000):n<=bp:=du h (by decide)
def getL (h:Hs) (i:Nat):Option (List Dv):=match h[i]? with
 |some (.lst xs)=>some xs
 |none=>none
theorem dH {h:Hs}{i:Nat}{xs:List Dv}(e:getL h i=some xs):h[i]?=some (.lst xs):=by
 unfold getL at e
 cases q:h[i]? with
 |none=>rw[q]at e;cases e
 |some o=>cases o;rw[q]at e;cases e;rfl
section
variable{X:Cx}{G:Cfg}{E:XK}{a b c:bj}{ma mb mc:M Dv}{pos:Pos}{es:List bj}{aS:M (List Dv)}
def aA (i:Nat):M Dv:=λρ h=>match ρ[i]? with
 |some (some d)=>.ok d h
 |_=>.bad
theorem aE (i:Nat) {x:Str}(hN:X.N[i]?=some x:=by rfl) (hv:qP X.env.scope x:=by first|exact Or.inl rfl|exact Or.inr (Or.inl rfl)|exact Or.inr (Or.inr rfl))
  (hd:(x==("__debug__" : Str))=false:=by decide) (hcd:(x==("__classdict__" : Str))=false:=by decide):aI X G E (.Name x pos) (aA i):=λ_=>PE.imp (AA hN hv hd hcd) λσ H Q ⟨μ,ρ,h,rs,s,o⟩=>by
 unfold aA at o
 split at o
 ·rename_i d e;obtain⟨v,e1,r⟩:=rs.at_ i d e;exact⟨v,e1,o.val s r⟩
 ·exact o.elim
def mC (d:Dv):M Dv:=λ_ h=>.ok d h
theorem aO {i j}:aI X G E (.Constant (.int i) j pos) (mC (.int i)):=λ_=>PE.imp O7 λσ H Q ⟨μ,ρ,h,rs,s,o⟩=>o.val s (show RelD G μ _ H (.int i) (.int i) from rfl)
theorem gY {i j}:aI X G E (.Constant (.bool i) j pos) (mC (.bl i)):=λ_=>PE.imp O8 λσ H Q ⟨μ,ρ,h,rs,s,o⟩=>o.val s (show RelD G μ _ H (.bl i) (.bl i) from rfl)
theorem qS {j}:aI X G E (.Constant .none j pos) (mC .non):=λ_=>PE.imp FN λσ H Q ⟨μ,ρ,h,rs,s,o⟩=>o.val s (show RelD G μ _ H .non .non from rfl)
theorem eK {x j}:aI X G E (.Constant (.str x) j pos) (mC (.str x)):=λ_=>PE.imp O9 λσ H Q ⟨μ,ρ,h,rs,s,o⟩=>o.val s (show RelD G μ _ H (.str x) (.str x) from rfl)
def aC:M (List Dv):=λ_ h=>.ok [] h
def aB (m:M Dv) (ms:M (List Dv)):M (List Dv):=λρ h=>(m ρ h).bind λd h1=>(ms ρ h1).bind λds h2=>.ok (d::ds) h2
theorem aM:cY X G E [] aC:=λ_=>PA.imp iG λσ H Q ⟨μ,ρ,h,rs,s,o⟩=>o.val s RelDL.nil
theorem aH (ha:aI X G E a ma) (hr:cY X G E es aS) (hs:ao (a::es) X.env=(false,eval a X.env)::ao es X.env:=by rfl):cY X G E (a::es) (aB ma aS):=λhK=>PA.imp (gE (ha hK) (hr hK) hs) λσ H Q ⟨μ,ρ,h,rs,s,o⟩=>cZ rs s o λμ1 d h1 v H1 x1 rs1 s1 r1 o1=>kK rs1 s1 o1 λμ2 ds h2 vs H2 x2 rs2 s2 r2 o2=>o2.val s2 (RelDL.cons (RelD.mono x2 _ _ r1) r2)
def cC (ms:M (List Dv)):M Dv:=λρ h=>(ms ρ h).bind λds h1=>lim ds.length (.ok (.tup ds) h1)
theorem lL {k} (h:cY X G E es aS):aI X G E (.Tuple es k pos) (cC aS):=λhK=>PE.imp (F6 (h hK)) λσ H Q ⟨μ,ρ,h,rs,s,o⟩=>kK rs s o λμ1 ds h1 vs H1 x1 rs1 s1 r1 o1=>by
 unfold lim at o1
 split at o1
 ·rename_i hl;refine⟨by rw[r1.length];exact kL hl,λp hp=>?_⟩;exact o1 μ1 _ _ (Ext.same (cL hp)) (s1.same (cL hp)) ⟨p,vs,rfl,cK,RelDL.mono (Ext.same (cL hp)) _ _ r1⟩
 ·exact o1.elim
def aV (ms:M (List Dv)):M Dv:=λρ h=>(ms ρ h).bind λds h1=>lim ds.length (.ok (.ref h1.length) (h1++[.lst ds]))
theorem pQ {μ:Nat->ah}{h:Hs}{H:Hp}{ds:List Dv}{vs:List V}{Q:VK}{p:ah}(s:Sim G μ h H) (r:RelDL G μ h.length H ds vs) (hp:H p=none) (o:Out G E μ h.length H (.ok (.ref h.length) (h++[.lst ds])) (RelD G) Q):Q (.ref p) (aQ H p (.lst vs)):=by obtain⟨x,s'⟩:=s.alloc hp r;exact o _ _ _ x s' ⟨by simp,by show V.ref p=V.ref (if h.length=h.length then p else μ h.length);rw[if_pos rfl]⟩
theorem eO (h:cY X G E es aS):aI X G E (.List es pos) (aV aS):=λhK=>PE.imp (RV (h hK)) λσ H Q ⟨μ,ρ,h,rs,s,o⟩=>kK rs s o λμ1 ds h1 vs H1 x1 rs1 s1 r1 o1=>by
 unfold lim at o1
 split at o1
 ·rename_i hl;exact⟨by rw[r1.length];exact kL hl,λp hp=>pQ s1 r1 hp o1⟩
 ·exact o1.elim
def m2 (f:Dv->Dv->Hs->Rs Dv) (ma mb:M Dv):M Dv:=λρ h=>(ma ρ h).bind λx h1=>(mb ρ h1).bind λy h2=>f x y h2
def dZ (G:Cfg) (r:R2) (f:Dv->Dv->Hs->Rs Dv):Prop:=∀(E:XK) (μ:Nat->ah) (h:Hs) (H:Hp) (x y:Dv) (vx vy:V) (Q:VK),Sim G μ h H->RelD G μ h.length H x vx->RelD G μ h.length H y vy->Out G E μ h.length H (f x y h) (RelD G) Q->r vx vy H Q
theorem qT {r:R2}{f:Dv->Dv->Hs->Rs Dv}(hd:dZ G r f) {σ:St}{H:Hp}{Q:VK}(t:gH G E (m2 f ma mb) σ H Q):sL r (gH G E ma) (gH G E mb) σ H Q:=by obtain⟨μ,ρ,h,rs,s,o⟩:=t;exact cZ rs s o λμ1 x h1 vx H1 x1 rs1 s1 r1 o1=>cZ rs1 s1 o1 λμ2 y h2 vy H2 x2 rs2 s2 r2 o2=>hd E μ2 h2 H2 x y vx vy Q s2 (RelD.mono x2 _ _ r1) r2 o2
theorem pR {op:Operator}{r:R2}{f:Dv->Dv->Hs->Rs Dv}(ho:OpR X (binaryOp op) r) (hd:dZ G r f) (ha:aI X G E a ma) (hb:aI X G E b mb):aI X G E (.BinOp a op b pos) (m2 f ma mb):=λhK=>PE.imp (Q2 ho (ha hK) (hb hK)) λ_ _ _ t=>qT hd t
theorem vU {op:As}{r:R2}{f:Dv->Dv->Hs->Rs Dv}(ho:OpR X (compareOp op) r) (hd:dZ G r f) (ha:aI X G E a ma) (hb:aI X G E b mb) (hm:behindInMarks op b=false):aI X G E (.Compare a [op] [b] pos) (m2 f ma mb):=λhK=>PE.imp (RF ho (ha hK) (hb hK) hm) λ_ _ _ t=>qT hd t
def dI:Dv->Hs->Rs Bool
 | .bl b,h=>.ok b h
 |_,_=>.bad
def mB (m:M Dv):M Bool:=λρ h=>(m ρ h).bind dI
theorem HD {m:M Dv}{σ:St}{H:Hp}{Q:Bool->Hp->Prop}(t:jS G E (mB m) σ H Q):gH G E m σ H λx H'=>∃k,x=.bl k/\Q k H':=by
 obtain⟨μ,ρ,h,rs,s,o⟩:=t;refine cZ rs s o λμ1 x h1 vx H1 x1 rs1 s1 r1 o1=>?_
 cases x with
 |bl k=>exact⟨k,r1,o1.val s1 rfl⟩
 |_=>exact o1.elim
theorem qU {op:As}{r:R2}{f:Dv->Dv->Hs->Rs Dv}(ho:OpR X (compareOp op) r) (hd:dZ G r f) (ha:aI X G E a ma) (hb:aI X G E b mb) (hm:behindInMarks op b=false):fY X G E (.Compare a [op] [b] pos) (mB (m2 f ma mb)):=λhK=>PT.imp (RG ho (ha hK) (hb hK) hm) λσ H Q t=>qT hd (HD t)
def iS (f f':Dv->Dv->Hs->Rs Dv) (ma mb mc:M Dv):M Dv:=λρ h=>(ma ρ h).bind λx h1=>(mb ρ h1).bind λy h2=>(f x y h2).bind λz h3=>match z with
 | .bl true=>(mc ρ h3).bind λw h4=>f' y w h4
 | .bl false=>.ok (.bl false) h3
 |_=>.bad
theorem HE {r r':R2}{f f':Dv->Dv->Hs->Rs Dv}(hd:dZ G r f) (hd':dZ G r' f') {σ:St}{H:Hp}{Q:VK}(t:gH G E (iS f f' ma mb mc) σ H Q):AK r r' (gH G E ma) (gH G E mb) (gH G E mc) σ H Q:=by
 obtain⟨μ,ρ,h,rs,s,o⟩:=t;refine cZ rs s o λμ1 x h1 vx H1 x1 rs1 s1 r1 o1=>cZ rs1 s1 o1 λμ2 y h2 vy H2 x2 rs2 s2 r2 o2=>?_;refine hd E μ2 h2 H2 x y vx vy _ s2 (RelD.mono x2 _ _ r1) r2 ((o2.bind (R1:=RelD G)).mono λvz H3 ⟨μ3,z,h3,x3,s3,r3,o3⟩=>?_)
 cases z with
 |bl k=>
  refine⟨k,r3, ?_⟩
  cases k with
  |true=>exact GY (cZ (rs2.mono x3) s3 o3 λμ4 w h4 vw H4 x4 pI s4 r4 o4=>hd' E μ4 h4 H4 y w vy vw Q s4 (RelD.mono (x3.trans x4) _ _ r2) r4 o4)
  |false=>exact GX (o3.val s3 rfl)
 |_=>exact o3.elim
theorem T6 {op op':As}{r r':R2}{f f':Dv->Dv->Hs->Rs Dv}(ho:OpR X (compareOp op) r) (ho':OpR X (compareOp op') r') (hd:dZ G r f) (hd':dZ G r' f') (ha:aI X G E a ma) (hb:aI X G E b mb) (hc:aI X G E c mc)
  (hm:lastMarks [op,op'] [b,c]=false:=by with_unfolding_all rfl):aI X G E (.Compare a [op,op'] [b,c] pos) (iS f f' ma mb mc):=λhK=>
 PE.imp (RH ho ho' (ha hK) (hb hK) (hc hK) hm) λ_ _ _ t=>HE hd hd' t
theorem T7 {op op':As}{r r':R2}{f f':Dv->Dv->Hs->Rs Dv}(ho:OpR X (compareOp op) r) (ho':OpR X (compareOp op') r') (hd:dZ G r f) (hd':dZ G r' f') (ha:aI X G E a ma) (hb:aI X G E b mb) (hc:aI X G E c mc)
  (hm:lastMarks [op,op'] [b,c]=false:=by with_unfolding_all rfl):fY X G E (.Compare a [op,op'] [b,c] pos) (mB (iS f f' ma mb mc)):=λhK=>
 PT.imp (RI ho ho' (ha hK) (hb hK) (hc hK) hm) λσ H Q t=>HE hd hd' (HD t)
def jT (G:Cfg) (r:V->Hp->VK->Prop) (f:Dv->Hs->Rs Dv):Prop:=∀(E:XK) (μ:Nat->ah) (h:Hs) (H:Hp) (x:Dv) (vx:V) (Q:VK),Sim G μ h H->RelD G μ h.length H x vx->Out G E μ h.length H (f x h) (RelD G) Q->r vx H Q
def m1 (f:Dv->Hs->Rs Dv) (ma:M Dv):M Dv:=λρ h=>(ma ρ h).bind f
theorem T9 {op:UnaryOp}{r:V->Hp->VK->Prop}{f:Dv->Hs->Rs Dv}(ho:vH X (unaryOp op) r) (hd:jT G r f) (ha:aI X G E a ma):aI X G E (.UnaryOp op a pos) (m1 f ma):=λhK=>PE.imp (Q3 ho (ha hK)) λσ H Q ⟨μ,ρ,h,rs,s,o⟩=>cZ rs s o λμ1 x h1 vx H1 x1 rs1 s1 r1 o1=>hd E μ1 h1 H1 x vx Q s1 r1 o1
variable{tA tB':M Bool}{rest:List bj}
def bF (t u:M Bool):M Bool:=λρ h=>(t ρ h).bind λc h1=>if c=true then .ok true h1 else u ρ h1
def bE (t:M Bool):M Bool:=λρ h=>(t ρ h).bind λc h1=>.ok (!c) h1
def SndW (X:Cx) (G:Cfg) (E:XK) (pe:bj) (m:M Bool):Prop:=X.K=G.K->PW X pe (jS G E m)
theorem SndW.t {pe:bj}{m:M Bool}(h:SndW X G E pe m):fY X G E pe m:=λhK=>(h hK).pt
theorem PW.imp {e:bj}{t t':TT}(h:PW X e t) (i:∀σ H Q,t' σ H Q->t σ H Q):PW X e t':=λwh pins s σ H Q I q=>h wh pins s σ H Q I (i σ H Q q)
theorem kM (ha:fY X G E a tA):SndW X G E (.BoolOp .Or [a] pos) tA:=λhK=>PC (ha hK)
theorem UA {σ:St}{H:Hp}{Q:Bool->Hp->Prop}(t:jS G E (bF tA tB') σ H Q):FO (jS G E tA) (jS G E tB') σ H Q:=by
 obtain⟨μ,ρ,h,rs,s,o⟩:=t;refine A4 rs s o λμ1 k h1 H1 x1 rs1 s1 o1=>?_
 cases k with
 |false=>rw[if_neg (by decide)]at o1 ⊢;exact⟨μ1,ρ,h1,rs1,s1,o1⟩
 |true=>rw[if_pos rfl]at o1 ⊢;exact o1.val s1 rfl
theorem fZ (ha:fY X G E a tA) (hb:SndW X G E (.BoolOp .Or (b::rest) pos) tB'):SndW X G E (.BoolOp .Or (a::b::rest) pos) (bF tA tB'):=λhK=>PW.imp (PD (ha hK) (hb hK)) λ_ _ _ t=>UA t
theorem gZ (ha:fY X G E a tA):fY X G E (.UnaryOp .Not a pos) (bE tA):=λhK=>PT.imp (PF (ha hK)) λσ H Q ⟨μ,ρ,h,rs,s,o⟩=>A4 rs s o λμ1 k h1 H1 x1 rs1 s1 o1=>o1.val s1 rfl
def cT (m u:M Dv):M Dv:=λρ h=>(m ρ h).bind λd h1=>match d with
 | .bl true=>u ρ h1
 | .bl false=>.ok (.bl false) h1
 |_=>.bad
def mV:Dv->Hs->Rs Dv
 | .bl b,h=>.ok (.bl (!b)) h
 |_,_=>.bad
theorem oE {op} {m:M Dv}(h:aI X G E a m):aI X G E (.BoolOp op [a] pos) m:=λhK=>PL (h hK)
theorem oF (ha:aI X G E a ma) (hb:aI X G E (.BoolOp .And (b::rest) pos) mb):aI X G E (.BoolOp .And (a::b::rest) pos) (cT ma mb):=λhK=>PE.imp (PM (ha hK) (hb hK)) λσ H Q ⟨μ,ρ,h,rs,s,o⟩=>
 cZ rs s o λμ1 x h1 vx H1 x1 rs1 s1 r1 o1=>by
  cases x with
  |bl k=>
   refine⟨k,r1, ?_⟩
   cases k with
   |true=>exact GY ⟨μ1,ρ,h1,rs1,s1,o1⟩
   |false=>exact GX (o1.val s1 rfl)
  |_=>exact o1.elim
theorem A5 (ha:aI X G E a ma):aI X G E (.UnaryOp .Not a pos) (m1 mV ma):=λhK=>PE.imp (PN (ha hK)) λσ H Q ⟨μ,ρ,h,rs,s,o⟩=>
 cZ rs s o λμ1 x h1 vx H1 x1 rs1 s1 r1 o1=>by
  cases x with
  |bl k=>exact⟨k,r1,o1.val s1 rfl⟩
  |_=>exact o1.elim
def cN:Dv->Hs->Rs Bool
 | .non,h=>.ok false h
 | .bl b,h=>.ok b h
 | .int i,h=>.ok (i != 0) h
 | .tup xs,h=>.ok (!xs.isEmpty) h
 | .ref i,h=>match getL h i with
  |some xs=>.ok (!xs.isEmpty) h
  |none=>.bad
 |_,_=>.bad
def aT (m:M Dv):M Bool:=λρ h=>(m ρ h).bind cN
theorem HF {μ:Nat->ah}{n:Nat}{H:Hp}{ds:List Dv}{vs:List V}(r:RelDL G μ n H ds vs):vs.isEmpty=ds.isEmpty:=by
 have:=r.length
 cases ds <;> cases vs <;> simp_all
theorem fJ (ha:aI X G E a ma) (he:∀whole,isTrue a X.env whole=(do let v <-whole;standAt a.pos;holding [v] (truthy v)):=by intro _;rfl):fY X G E a (aT ma):=λhK=>PT.imp (RM (ha hK) he) λσ H Q ⟨μ,ρ,h,rs,s,o⟩=>
 cZ rs s o λμ1 x h1 vx H1 x1 rs1 s1 r1 o1=>by
  cases x with
  |non=>rw[RelD]at r1;subst r1;exact⟨_,rfl,o1.val s1 rfl⟩
  |bl k=>rw[RelD]at r1;subst r1;exact⟨_,rfl,o1.val s1 rfl⟩
  |int i=>rw[RelD]at r1;subst r1;exact⟨_,rfl,o1.val s1 rfl⟩
  |tup ds=>obtain⟨p,vs,rfl,e,r⟩:=r1;exact⟨_,.inr (.inl ⟨vs,SqT.of e,rfl⟩),by rw[HF r];exact o1.val s1 rfl⟩
  |ref i=>
   obtain⟨hi,rfl⟩:=r1;dsimp only[cN]at o1
   cases q:getL h1 i with
   |none=>rw[q]at o1;exact o1.elim
   |some xs=>obtain⟨vs,e,r⟩:=s1.ob i _ (dH q);rw[q]at o1;exact⟨_,.inl ⟨vs,SqL.of e,rfl⟩,by rw[HF r];exact o1.val s1 rfl⟩
  |_=>exact o1.elim
end
end L2.Mr
namespace L2
open PySem PySem.Spec PyProof.Rows
section
variable{Pg:bg}{w:cq}{P:ah->Prop}{H:Hp}{s:ag}
theorem UB (hok:HOk Pg w H s.heap) (n:Nat) (A:cn) (d d':Dt) (v v':V) (u u':af) (hn:fT d<=n) (hu:A.units+n+1<cLine) (n1:nod d=true) (n2:nod d'=true) (h:Den P H d v) (h':Den P H d' v') (r:RelV v u) (r':RelV v' u'):
  SeqAt.RcNeAt A s u u' (!bH d d'):=by
 have hu':A.units<cLine:=by omega
 have hin:∀{vs vs':List V}{ds ds':List Dt}{its its':List af},lK ds+1<=n->jD ds=true->jD ds'=true->DenL P H ds vs->DenL P H ds' vs'->Vals vs its->Vals vs' its'->
   ∀j (h1:j<its.toArray.size) (h2:j<its'.toArray.size),ue A.in1 s its.toArray[j] its'.toArray[j] (bH (ds.getD j .non) (ds'.getD j .non)):=by
  intro vs vs' ds ds' its its' hd m1 m2 g g' q q' j h1 h2;obtain⟨x,ex,rx⟩:=vR q h1;obtain⟨x',ex',rx'⟩:=vR q' h2;obtain⟨dx,edx,gx⟩:=g.get ex;obtain⟨dx',edx',gx'⟩:=g'.get ex';have e1:ds.getD j .non=dx:=by simp[kh,edx]
  have e2:ds'.getD j .non=dx':=by simp[kh,edx']
  rw[e1,e2];have hm:=bw edx;have hdm:=A0 hm;exact(A1 hok (n - 1) A.in1 dx dx' x x' _ _ (by omega) (by show A.units+1+(n - 1)+1<cLine;omega) (sW m1 hm) (sW m2 (bw edx')) gx gx' rx rx').2
 cases d with
 |non=>
  rw[Den]at h;subst h;cases r
  cases d' with
  |non=>rw[Den]at h';subst h';cases r';exact SeqAt.RcNeAt.none_none
  |bl b'=>rw[Den]at h';subst h';cases r';exact SeqAt.RcNeAt.none_bool  _
  |int i'=>rw[Den]at h';subst h';obtain⟨t2,rfl⟩:=r';exact SeqAt.RcNeAt.none_int  _ _
  |str x'=>rw[Den]at h';subst h';obtain⟨t2,rfl⟩:=r';exact SeqAt.RcNeAt.none_str  _ _
  |tup ds'=>rw[Den]at h';obtain⟨a2,vs2,rfl,e2,g2⟩:=h';cases r';obtain⟨its2,q2,tp2⟩:=gF hok e2;exact SeqAt.RcNeAt.none_tuple  tp2 hu'
  |lst ds'=>rw[Den]at h';obtain⟨a2,vs2,rfl,_,e2,g2⟩:=h';cases r';obtain⟨its2,q2,tp2⟩:=gG hok e2;exact SeqAt.RcNeAt.none_list  tp2 hu'
  |dct=>simp[nod]at n2
 |bl b=>
  rw[Den]at h;subst h;cases r
  cases d' with
  |non=>rw[Den]at h';subst h';cases r';exact SeqAt.RcNeAt.bool_none _
  |bl b'=>rw[Den]at h';subst h';cases r';exact SeqAt.RcNeAt.bool_bool _ _
  |int i'=>rw[Den]at h';subst h';obtain⟨t2,rfl⟩:=r';exact SeqAt.RcNeAt.bool_int _ _ _
  |str x'=>rw[Den]at h';subst h';obtain⟨t2,rfl⟩:=r';exact SeqAt.RcNeAt.bool_str _ _ _
  |tup ds'=>rw[Den]at h';obtain⟨a2,vs2,rfl,e2,g2⟩:=h';cases r';obtain⟨its2,q2,tp2⟩:=gF hok e2;exact SeqAt.RcNeAt.bool_tuple _ tp2 hu'
  |lst ds'=>rw[Den]at h';obtain⟨a2,vs2,rfl,_,e2,g2⟩:=h';cases r';obtain⟨its2,q2,tp2⟩:=gG hok e2;exact SeqAt.RcNeAt.bool_list _ tp2 hu'
  |dct=>simp[nod]at n2
 |int i=>
  rw[Den]at h;subst h;obtain⟨t1,rfl⟩:=r
  cases d' with
  |non=>rw[Den]at h';subst h';cases r';exact SeqAt.RcNeAt.int_none _ _
  |bl b'=>rw[Den]at h';subst h';cases r';exact SeqAt.RcNeAt.int_bool _ _ _
  |int i'=>rw[Den]at h';subst h';obtain⟨t2,rfl⟩:=r';exact SeqAt.RcNeAt.int_int _ _ _ _
  |str x'=>rw[Den]at h';subst h';obtain⟨t2,rfl⟩:=r';exact SeqAt.RcNeAt.int_str _ _ _ _
  |tup ds'=>rw[Den]at h';obtain⟨a2,vs2,rfl,e2,g2⟩:=h';cases r';obtain⟨its2,q2,tp2⟩:=gF hok e2;exact SeqAt.RcNeAt.int_tuple _ _ tp2 hu'
  |lst ds'=>rw[Den]at h';obtain⟨a2,vs2,rfl,_,e2,g2⟩:=h';cases r';obtain⟨its2,q2,tp2⟩:=gG hok e2;exact SeqAt.RcNeAt.int_list _ _ tp2 hu'
  |dct=>simp[nod]at n2
 |str x=>
  rw[Den]at h;subst h;obtain⟨t1,rfl⟩:=r
  cases d' with
  |non=>rw[Den]at h';subst h';cases r';exact SeqAt.RcNeAt.str_none _ _
  |bl b'=>rw[Den]at h';subst h';cases r';exact SeqAt.RcNeAt.str_bool _ _ _
  |int i'=>rw[Den]at h';subst h';obtain⟨t2,rfl⟩:=r';exact SeqAt.RcNeAt.str_int _ _ _ _
  |str x'=>rw[Den]at h';subst h';obtain⟨t2,rfl⟩:=r';exact SeqAt.RcNeAt.str_str _ _ _ _
  |tup ds'=>rw[Den]at h';obtain⟨a2,vs2,rfl,e2,g2⟩:=h';cases r';obtain⟨its2,q2,tp2⟩:=gF hok e2;exact SeqAt.RcNeAt.str_tuple _ _ tp2 hu'
  |lst ds'=>rw[Den]at h';obtain⟨a2,vs2,rfl,_,e2,g2⟩:=h';cases r';obtain⟨its2,q2,tp2⟩:=gG hok e2;exact SeqAt.RcNeAt.str_list _ _ tp2 hu'
  |dct=>simp[nod]at n2
 |tup ds=>
  rw[Den]at h;obtain⟨a1,vs1,rfl,e1,g1⟩:=h;cases r;obtain⟨its1,q1,tp1⟩:=gF hok e1
  cases d' with
  |non=>rw[Den]at h';subst h';cases r';exact SeqAt.RcNeAt.tuple_none  tp1 hu'
  |bl b'=>rw[Den]at h';subst h';cases r';exact SeqAt.RcNeAt.tuple_bool _ tp1 hu'
  |int i'=>rw[Den]at h';subst h';obtain⟨t2,rfl⟩:=r';exact SeqAt.RcNeAt.tuple_int _ _ tp1 hu'
  |str x'=>rw[Den]at h';subst h';obtain⟨t2,rfl⟩:=r';exact SeqAt.RcNeAt.tuple_str _ _ tp1 hu'
  |tup ds'=>
   rw[Den]at h';obtain⟨a2,vs2,rfl,e2,g2⟩:=h';cases r';obtain⟨its2,q2,tp2⟩:=gF hok e2;rw[nod]at n1 n2;rw[fT]at hn;have hl1:=g1.length;have hl2:=g2.length;have hq1:=q1.length;have hq2:=q2.length;rw[bH];have z:=SeqAt.RcNeAt.tuples (e:=λj=>bH (ds.getD j .non) (ds'.getD j .non)) tp1 tp2 hu' (hin hn n1 n2 g1 g2 q1 q2);have s1:its1.toArray.size=ds.length:=by simp;omega
   have s2:its2.toArray.size=ds'.length:=by simp;omega
   rw[s1,s2]at z
   by_cases hlen:ds.length=ds'.length
   ·rw[sX hlen];rw[<-hlen,Nat.min_self]at z;simpa using z
   ·rw[sY hlen];rw[show(ds.length==ds'.length)=false from beq_eq_false_iff_ne.mpr hlen,pg]at z;exact z
  |lst ds'=>rw[Den]at h';obtain⟨a2,vs2,rfl,_,e2,g2⟩:=h';cases r';obtain⟨its2,q2,tp2⟩:=gG hok e2;exact SeqAt.RcNeAt.tuple_list tp1 tp2 hu'
  |dct=>simp[nod]at n2
 |lst ds=>
  rw[Den]at h;obtain⟨a1,vs1,rfl,_,e1,g1⟩:=h;cases r;obtain⟨its1,q1,tp1⟩:=gG hok e1
  cases d' with
  |non=>rw[Den]at h';subst h';cases r';exact SeqAt.RcNeAt.list_none  tp1 hu'
  |bl b'=>rw[Den]at h';subst h';cases r';exact SeqAt.RcNeAt.list_bool _ tp1 hu'
  |int i'=>rw[Den]at h';subst h';obtain⟨t2,rfl⟩:=r';exact SeqAt.RcNeAt.list_int _ _ tp1 hu'
  |str x'=>rw[Den]at h';subst h';obtain⟨t2,rfl⟩:=r';exact SeqAt.RcNeAt.list_str _ _ tp1 hu'
  |tup ds'=>rw[Den]at h';obtain⟨a2,vs2,rfl,e2,g2⟩:=h';cases r';obtain⟨its2,q2,tp2⟩:=gF hok e2;exact SeqAt.RcNeAt.list_tuple tp1 tp2 hu'
  |lst ds'=>
   rw[Den]at h';obtain⟨a2,vs2,rfl,_,e2,g2⟩:=h';cases r';obtain⟨its2,q2,tp2⟩:=gG hok e2;rw[nod]at n1 n2;rw[fT]at hn;have hl1:=g1.length;have hl2:=g2.length;have hq1:=q1.length;have hq2:=q2.length;rw[bH]
   by_cases hlen:ds.length=ds'.length
   ·have z:=SeqAt.RcNeAt.lists (e:=λj=>bH (ds.getD j .non) (ds'.getD j .non)) tp1 tp2 (by simp;omega) hu' (hin hn n1 n2 g1 g2 q1 q2);rw[sX hlen];simpa[hq1.symm,hl1]using z
   ·rw[sY hlen];exact SeqAt.RcNeAt.lists_lengths tp1 tp2 (by simp;omega) hu'
  |dct=>simp[nod]at n2
 |dct=>simp[nod]at n1
end
end L2
namespace L2.Mr
open PySem PySem.Spec PyProof.Rows
def bI {α β:Type}(f:α->Option β):List α->Option (List β)
 | []=>some []
 |x::xs=>match f x with
  |none=>none
  |some y=>match bI f xs with
   |none=>none
   |some ys=>some (y::ys)
def bM:Nat->Hs->Dv->Option Dt
 |0,_,_=>none
 |k+1,h,d=>match d with
  | .non=>some .non
  | .bl b=>some (.bl b)
  | .int i=>some (.int i)
  | .str x=>some (.str x)
  | .tup xs=>match bI (bM k h) xs with
   |some ts=>some (.tup ts)
   |none=>none
  | .ref i=>match getL h i with
   |some xs=>match bI (bM k h) xs with
    |some ts=>some (.lst ts)
    |none=>none
   |none=>none
  |_=>none
abbrev jU:ah->Prop:=λ_=>True
section
variable{G:Cfg}{μ:Nat->ah}{h:Hs}{H:Hp}
theorem qV (s:Sim G μ h H):∀(k:Nat) (d:Dv) (v:V) (t:Dt),RelD G μ h.length H d v->bM k h d=some t->Den jU H t v/\fT t<=k/\nod t=true:=by
 intro k
 induction k with
 |zero=>intro d v t _ e;cases e
 |succ k ih=>
  have il:∀(xs:List Dv) (vs:List V) (ts:List Dt),RelDL G μ h.length H xs vs->bI (bM k h) xs=some ts->DenL jU H ts vs/\lK ts<=k/\jD ts=true:=by
   intro xs
   induction xs with
   |nil=>intro vs ts r e;cases e;rw[RelDL]at r;subst r;exact⟨DenL.nil,by simp[lK],rfl⟩
   |cons x xs ihx=>
    intro vs ts r e;rw[RelDL]at r;obtain⟨v,rr,rfl,r1,r2⟩:=r;unfold bI at e
    cases q:bM k h x with
    |none=>rw[q]at e;cases e
    |some y=>
     rw[q]at e;dsimp only at e
     cases q2:bI (bM k h) xs with
     |none=>rw[q2]at e;cases e
     |some ys=>rw[q2]at e;cases e;obtain⟨a1,a2,a3⟩:=ih x v y r1 q;obtain⟨b1,b2,b3⟩:=ihx rr ys r2 q2;exact⟨DenL.cons a1 b1,by rw[lK];omega,by rw[jD,a3,b3];rfl⟩
  intro d v t r e;unfold bM at e
  cases d with
  |non=>cases e;rw[RelD]at r;subst r;exact⟨by rw[Den],by simp[fT],rfl⟩
  |bl b=>cases e;rw[RelD]at r;subst r;exact⟨by rw[Den],by simp[fT],rfl⟩
  |int b=>cases e;rw[RelD]at r;subst r;exact⟨by rw[Den],by simp[fT],rfl⟩
  |str b=>cases e;rw[RelD]at r;subst r;exact⟨by rw[Den],by simp[fT],rfl⟩
  |tup xs=>
   dsimp only at e
   cases q:bI (bM k h) xs with
   |none=>rw[q]at e;cases e
   |some ts=>rw[q]at e;cases e;obtain⟨a,vs,rfl,e1,r1⟩:=r;obtain⟨b1,b2,b3⟩:=il xs vs ts r1 q;exact⟨by rw[Den];exact⟨a,vs,rfl,e1,b1⟩,by rw[fT];omega,by rw[nod];exact b3⟩
  |ref i=>
   dsimp only at e
   cases g:getL h i with
   |none=>rw[g]at e;cases e
   |some xs=>
    rw[g]at e;dsimp only at e
    cases q:bI (bM k h) xs with
    |none=>rw[q]at e;cases e
    |some ts=>rw[q]at e;cases e;obtain⟨hi,rfl⟩:=r;obtain⟨vs,e1,r1⟩:=s.ob i _ (dH g);obtain⟨b1,b2,b3⟩:=il xs vs ts r1 q;exact⟨by rw[Den];exact⟨_,vs,rfl,trivial,e1,b1⟩,by rw[fT];omega,by rw[nod];exact b3⟩
  |edc=>cases e
  |exc c=>cases e
  |scr=>cases e
end
def bR:Nat:=30
def bN (x y:Dv) (h:Hs):Rs Dv:=match bM bR h x,bM bR h y with
 |some s,some t=>.ok (.bl (bH s t)) h
 |_,_=>.bad
def bC (x y:Dv) (h:Hs):Rs Dv:=match bM bR h x,bM bR h y with
 |some s,some t=>.ok (.bl (!bH s t)) h
 |_,_=>.bad
def vV (neg:Bool):R2:=λx y H Q=>∃t t',Den jU H t x/\Den jU H t' y/\fT t<=bR/\nod t=true/\nod t'=true/\Q (.bl (if neg then !bH t t' else bH t t')) H
section
variable{X:Cx}{G:Cfg}
theorem HG (hu:X.A.units+64<cLine):OpR X (compareOp .Eq) (vV false):=by intro pins s σ H x y v u Q I r1 r2 ⟨t,t',d,d',hd,n1,n2,q⟩;exact EqBoolInt.of_rc (A1 I.hok bR X.A t t' x y v u hd (by unfold bR;omega) n1 n2 d d' r1 r2).1 ⟨.bl _,H,I,rfl,q⟩
theorem UC (hu:X.A.units+64<cLine):OpR X (compareOp .NotEq) (vV true):=by intro pins s σ H x y v u Q I r1 r2 ⟨t,t',d,d',hd,n1,n2,q⟩;exact EqBoolInt.of_rcne (UB I.hok bR X.A t t' x y v u hd (by unfold bR;omega) n1 n2 d d' r1 r2) ⟨.bl _,H,I,rfl,q⟩
theorem HH:dZ G (vV false) bN:=by
 intro E μ h H x y vx vy Q s rx ry o;unfold bN at o
 split at o
 ·rename_i t t' e e';obtain⟨a1,a2,a3⟩:=qV s _ x vx t rx e;obtain⟨b1,b2,b3⟩:=qV s _ y vy t' ry e';exact⟨t,t',a1,b1,a2,a3,b3,o.val s rfl⟩
 ·exact o.elim
theorem UD:dZ G (vV true) bC:=by
 intro E μ h H x y vx vy Q s rx ry o;unfold bC at o
 split at o
 ·rename_i t t' e e';obtain⟨a1,a2,a3⟩:=qV s _ x vx t rx e;obtain⟨b1,b2,b3⟩:=qV s _ y vy t' ry e';exact⟨t,t',a1,b1,a2,a3,b3,o.val s rfl⟩
 ·exact o.elim
end
def hZ (g:Int->Int->Dv):Dv->Dv->Hs->Rs Dv
 | .int i,.int j,h=>.ok (g i j) h
 |_,_,_=>.bad
def jV (C:Int->Int->Bool) (g:Int->Int->Dv):Dv->Dv->Hs->Rs Dv
 | .int i,.int j,h=>if C i j=true then .ok (g i j) h else .bad
 |_,_,_=>.bad
section
variable{X:Cx}{G:Cfg}
theorem UE {f:Int->Int->Int}:dZ G (jQ λi j=>.int (f i j)) (hZ λi j=>.int (f i j)):=by
 intro E μ h H x y vx vy Q s rx ry o
 cases x with
 |int i=>
  cases y with
  |int j=>exact⟨i,j,rx,ry,o.val s rfl⟩
  |_=>exact o.elim
 |_=>exact o.elim
theorem pS {f:Int->Int->Bool}:dZ G (jQ λi j=>.bl (f i j)) (hZ λi j=>.bl (f i j)):=by
 intro E μ h H x y vx vy Q s rx ry o
 cases x with
 |int i=>
  cases y with
  |int j=>exact⟨i,j,rx,ry,o.val s rfl⟩
  |_=>exact o.elim
 |_=>exact o.elim
theorem vW {C:Int->Int->Prop}{B:Int->Int->Bool}{f:Int->Int->Int}(hB:∀i j,B i j=true->C i j):dZ G (rI C λi j=>.int (f i j)) (jV B λi j=>.int (f i j)):=by
 intro E μ h H x y vx vy Q s rx ry o
 cases x with
 |int i=>
  cases y with
  |int j=>
   dsimp only[jV]at o
   split at o
   ·rename_i hb;exact⟨i,j,rx,ry,hB i j hb,o.val s rfl⟩
   ·exact o.elim
  |_=>exact o.elim
 |_=>exact o.elim
def lM (i:Int):Bool:=decide (-18446744073709551616<i)&&decide (i<18446744073709551616)
def vX (i j:Int):Bool:=lM i||lM j
theorem UG (i j:Int) (h:vX i j=true):CMul i j:=by
 unfold vX lM at h;unfold CMul;simp only[wg,cf,decide_eq_true_eq]at h
 rcases h with h|h
 ·exact .inl ⟨by omega,by omega⟩
 ·exact .inr ⟨by omega,by omega⟩
def oG (_ j:Int):Bool:=decide (0<j)
theorem UH (i j:Int) (h:oG i j=true):0<j:=by unfold oG at h;simpa using h
def sZ (i j:Int):Bool:=decide (0<=j)&&decide (j<=1000000)&&decide (i.natAbs<18446744073709551616)
theorem UI (i j:Int) (h:sZ i j=true):AJ i j:=by unfold sZ at h;unfold AJ;simp only[cf,decide_eq_true_eq]at h;exact⟨h.1.1,h.1.2,by have:=h.2;omega⟩
def mW:Dv->Dv->Hs->Rs Dv
 | .int i,.int j,h=>.ok (.int (i+j)) h
 | .ref i,.ref j,h=>match getL h i,getL h j with
  |some xs,some ys=>lim (xs.length+ys.length) (.ok (.ref h.length) (h++[.lst (xs++ys)]))
  |_,_=>.bad
 | .tup xs,.tup ys,h=>if xs.isEmpty=true then .bad else lim (xs.length+ys.length) (.ok (.tup (xs++ys)) h)
 |_,_,_=>.bad
def A6 (K:ar):R2:=λx y H Q=>(jQ λi j=>.int (i+j)) x y H Q∨GU x y H Q∨GK K x y H Q
theorem UJ:OpR X (binaryOp .Add) (A6 X.K):=op_add.or (op_cat.or SN)
theorem UK:dZ G (A6 G.K) mW:=by
 intro E μ h H x y vx vy Q s rx ry o
 cases x with
 |int i=>
  cases y with
  |int j=>exact .inl ⟨i,j,rx,ry,o.val s rfl⟩
  |_=>exact o.elim
 |ref i=>
  cases y with
  |ref j=>
   dsimp only[mW]at o
   cases g1:getL h i with
   |none=>rw[g1]at o;exact o.elim
   |some xs=>
    cases g2:getL h j with
    |none=>rw[g1,g2]at o;exact o.elim
    |some ys=>
     rw[g1,g2]at o;dsimp only at o;unfold lim at o
     split at o
     ·rename_i hl;obtain⟨vs,e1,r1⟩:=s.ob i _ (dH g1);obtain⟨ws,e2,r2⟩:=s.ob j _ (dH g2);obtain⟨_,rfl⟩:=rx;obtain⟨_,rfl⟩:=ry;exact .inr (.inl ⟨_,_,vs,ws,rfl,rfl,e1,e2,by rw[r1.length,r2.length];exact kL hl,λp hp=>pQ s (r1.append r2) hp o⟩)
     ·exact o.elim
  |_=>exact o.elim
 |tup xs=>
  cases y with
  |tup ys=>
   dsimp only[mW]at o
   split at o
   ·exact o.elim
   ·rename_i hne;unfold lim at o
    split at o
    ·rename_i hl;obtain⟨a,vs,rfl,e1,r1⟩:=rx;obtain⟨b,ws,rfl,e2,r2⟩:=ry;refine .inr (.inr ⟨a,b,vs,ws,rfl,rfl,SqT.of e1,SqT.of e2, ?_,by rw[r1.length,r2.length];exact kL hl,λz=>?_,λ_ p hp=>?_⟩)
     ·intro z;subst z;have:=r1.length
      cases xs <;> simp_all
     ·subst z;have e3:ys=[]:=by have:=r2.length;cases ys <;> simp_all
      subst e3;refine o.val s ?_;rw[lh];exact⟨a,vs,rfl,e1,r1⟩
     ·exact o μ _ _ (Ext.same (cL hp)) (s.same (cL hp)) ⟨p,_,rfl,cK,RelDL.mono (Ext.same (cL hp)) _ _ (r1.append r2)⟩
    ·exact o.elim
  |_=>exact o.elim
 |_=>exact o.elim
def kN (xs:List Dv) (i:Int) (h:Hs):Rs Dv:=match fS xs i with
 |some d=>.ok d h
 |none=>.bad
def gI (scr:List Int):Dv->Dv->Hs->Rs Dv
 | .tup xs,.int i,h=>kN xs i h
 | .ref k,.int i,h=>match getL h k with
  |some xs=>kN xs i h
  |none=>.bad
 | .scr,.int i,h=>kN (scr.map Dv.int) i h
 |_,_,_=>.bad
theorem tD {μ:Nat->ah}{n:Nat}{H:Hp}:∀ns:List Int,RelDL G μ n H (ns.map Dv.int) (ns.map V.int)
 | []=>RelDL.nil
 |i::ns=>RelDL.cons rfl (tD ns)
theorem A7 {E:XK}{μ:Nat->ah}{h:Hs}{H:Hp}{xs:List Dv}{vs:List V}{i:Int}{Q:VK}(s:Sim G μ h H) (r:RelDL G μ h.length H xs vs) (o:Out G E μ h.length H (kN xs i h) (RelD G) Q):∃v,fS vs i=some v/\Q v H:=by
 unfold kN at o
 cases e:fS xs i with
 |none=>rw[e]at o;exact o.elim
 |some d=>
  rw[e]at o;unfold fS at e ⊢;rw[r.length]
  cases q:fI xs.length i with
  |none=>rw[q]at e;cases e
  |some j=>rw[q]at e;obtain⟨v,e1,r1⟩:=r.get e;exact⟨v,e1,o.val s r1⟩
theorem HI:dZ G (AS G.K) (gI G.scr):=by
 intro E μ h H x y vx vy Q s rx ry o
 cases y with
 |int i=>
  cases x with
  |tup xs=>obtain⟨a,vs,rfl,e1,r1⟩:=rx;obtain⟨v,e2,q⟩:=A7 s r1 o;exact .inr (.inl ⟨a,vs,i,v,rfl,ry,SqT.of e1,e2,q⟩)
  |ref k=>
   dsimp only[gI]at o
   cases g:getL h k with
   |none=>rw[g]at o;exact o.elim
   |some xs=>rw[g]at o;obtain⟨vs,e1,r1⟩:=s.ob k _ (dH g);obtain⟨_,rfl⟩:=rx;obtain⟨v,e2,q⟩:=A7 s r1 o;exact .inl ⟨_,vs,i,v,rfl,ry,SqL.of e1,e2,q⟩
  |scr=>obtain⟨rfl,hf⟩:=rx;obtain⟨v,e2,q⟩:=A7 s (tD G.scr) o;exact .inl ⟨_,_,i,v,rfl,ry,hf.sq,e2,q⟩
  |_=>exact o.elim
 |_=>cases x <;> exact o.elim
theorem UL {E:XK}{a b:bj}{ma mb:M Dv}{pos:Pos}(ha:aI X G E a ma) (hb:aI X G E b mb) (hs:sP b:=by intro _ _;rfl):aI X G E (.Subscript a b pos) (m2 (gI G.scr) ma mb):=λhK=>PE.imp (AQ (by have:=GP (X:=X);rw[hK]at this;exact this) (ha hK) (hb hK) hs) λ_ _ _ t=>qT HI t
theorem vY:dg "tuple" = some (.type "tuple"):=by decide +kernel
theorem vZ:dg "list" = some (.type "list"):=by decide +kernel
theorem HJ:dg "max" = some (.builtin "max"):=by decide +kernel
theorem HK:dg "min" = some (.builtin "min"):=by decide +kernel
variable{E:XK}{aS:M (List Dv)}{e:bj}{es:List bj}{x:Str}{p pos:Pos}{id T:String}
def pT (G:Cfg) (r:List V->Hp->VK->Prop) (f:List Dv->Hs->Rs Dv):Prop:=∀(E:XK) (μ:Nat->ah) (h:Hs) (H:Hp) (xs:List Dv) (vs:List V) (Q:VK),Sim G μ h H->RelDL G μ h.length H xs vs->Out G E μ h.length H (f xs h) (RelD G) Q->r vs H Q
def aD (f:List Dv->Hs->Rs Dv) (ms:M (List Dv)):M Dv:=λρ h=>(ms ρ h).bind f
theorem HL {r:List V->Hp->VK->Prop}{f:List Dv->Hs->Rs Dv}(hd:pT G r f) {σ:St}{H:Hp}{Q:VK}(t:gH G E (aD f aS) σ H Q):vL r (A3 G E aS) σ H Q:=by obtain⟨μ,ρ,h,rs,s,o⟩:=t;exact kK rs s o λμ1 ds h1 vs H1 x1 rs1 s1 r1 o1=>hd E μ1 h1 H1 ds vs Q s1 r1 o1
theorem pU {r:List V->Hp->VK->Prop}{f:List Dv->Hs->Rs Dv}(hc:CallR X (.builtin id) r) (hd:pT G r f) (hg:Gl X x) (hm:X.mg x=none) (hv:dg x=some (.builtin id)) (ha:cY X G E (e::es) aS) (hn:x ≠ "__name__" := by decide) (hdb:(x==("__debug__" : Str))=false:=by decide)
  (he:ao (e::es) X.env=(false,eval e X.env)::ao es X.env:=by rfl) (hpl:(backTo pos (ao es X.env)).any (·.1)=false:=by rfl):aI X G E (.Call (.Name x p) (e::es) [] pos) (aD f aS):=λhK=>
 PE.imp (sN hc hg hm hv (ha hK) hn hdb he hpl) λ_ _ _ t=>HL hd t
theorem wC {r:List V->Hp->VK->Prop}{f:List Dv->Hs->Rs Dv}(hc:CallR X (.type T) r) (hd:pT G r f) (hg:Gl X x) (hm:X.mg x=none) (hv:dg x=some (.type T)) (ha:cY X G E (e::es) aS) (hn:x ≠ "__name__" := by decide) (hdb:(x==("__debug__" : Str))=false:=by decide)
  (he:ao (e::es) X.env=(false,eval e X.env)::ao es X.env:=by rfl) (hpl:(backTo pos (ao es X.env)).any (·.1)=false:=by rfl):aI X G E (.Call (.Name x p) (e::es) [] pos) (aD f aS):=λhK=>
 PE.imp (sO hc hg hm hv (ha hK) hn hdb he hpl) λ_ _ _ t=>HL hd t
def hJ (scr:List Int):Dv->Hs->Option (List Dv)
 | .tup xs,_=>some xs
 | .ref i,h=>getL h i
 | .scr,_=>some (scr.map Dv.int)
 |_,_=>none
def f1 (g:Dv->Hs->Rs Dv):List Dv->Hs->Rs Dv
 | [d],h=>g d h
 |_,_=>.bad
def iU (scr:List Int) (d:Dv) (h:Hs):Rs Dv:=match hJ scr d h with
 |some xs=>.ok (.int xs.length) h
 |none=>.bad
theorem tE {μ:Nat->ah}{n:Nat}{H:Hp}{d:Dv}{vs:List V}(r:RelDL G μ n H [d] vs):∃v,vs=[v]/\RelD G μ n H d v:=by rw[RelDL]at r;obtain⟨v,rr,rfl,h1,h2⟩:=r;rw[RelDL]at h2;subst h2;exact⟨v,rfl,h1⟩
theorem mX {r:V->Hp->VK->Prop}{g:Dv->Hs->Rs Dv}(hg:jT G r g):pT G (λxs H Q=>∃v,xs=[v]/\r v H Q) (f1 g):=by
 intro E μ h H xs vs Q s rr o
 match xs,rr,o with
 | [],_,o=>exact o.elim
 |_::_::_,_,o=>exact o.elim
 | [d],rr,o=>obtain⟨v,rfl,r1⟩:=tE rr;exact⟨v,rfl,hg E μ h H d v Q s r1 o⟩
theorem wD {μ:Nat->ah}{n:Nat}{H:Hp}{d d':Dv}{vs:List V}(r:RelDL G μ n H [d,d'] vs):∃v v',vs=[v,v']/\RelD G μ n H d v/\RelD G μ n H d' v':=by rw[RelDL]at r;obtain⟨v,rr,rfl,h1,h2⟩:=r;obtain⟨v',rfl,h3⟩:=tE h2;exact⟨v,v',rfl,h1,h3⟩
theorem A8 {μ:Nat->ah}{h:Hs}{H:Hp}{d:Dv}{v:V}{xs:List Dv}(s:Sim G μ h H) (r:RelD G μ h.length H d v) (e:hJ G.scr d h=some xs):∃a vs,v=.ref a/\(SqL G.K H a vs∨SqT G.K H a vs)/\RelDL G μ h.length H xs vs:=by
 cases d with
 |tup ds=>cases e;obtain⟨a,vs,rfl,e1,r1⟩:=r;exact⟨a,vs,rfl,.inr (SqT.of e1),r1⟩
 |ref i=>obtain⟨_,rfl⟩:=r;obtain⟨vs,e1,r1⟩:=s.ob i _ (dH e);exact⟨_,vs,rfl,.inl (SqL.of e1),r1⟩
 |scr=>cases e;obtain⟨rfl,hf⟩:=r;exact⟨_,_,rfl,.inl hf.sq,tD _⟩
 |_=>cases e
def HM (K:ar):V->Hp->VK->Prop:=λx H Q=>∃p ys,x=.ref p/\(SqL K H p ys∨SqT K H p ys)/\Q (.int ys.length) H
theorem HN:jT G (HM G.K) (iU G.scr):=by
 intro E μ h H d v Q s r1 o;unfold iU at o
 cases e:hJ G.scr d h with
 |none=>rw[e]at o;exact o.elim
 |some ys=>rw[e]at o;obtain⟨a,ws,rfl,hs,r2⟩:=A8 s r1 e;exact⟨a,ws,rfl,hs,by rw[r2.length];exact o.val s rfl⟩
theorem CallR.imp {f:af}{r r':List V->Hp->VK->Prop}(h:CallR X f r) (i:∀xs H Q,r' xs H Q->r xs H Q):CallR X f r':=λpins s σ H xs us Q I rv q=>h pins s σ H xs us Q I rv (i xs H Q q)
theorem HP (hg:Gl X "len") (hm:X.mg "len" = none) (ha:cY X G E (e::es) aS)
  (he:ao (e::es) X.env=(false,eval e X.env)::ao es X.env:=by rfl) (hpl:(backTo pos (ao es X.env)).any (·.1)=false:=by rfl):aI X G E (.Call (.Name "len" p) (e::es) [] pos) (aD (f1 (iU G.scr)) aS):=λhK=>
 pU (CallR.imp (GQ (X:=X)) λxs H Q ⟨v,h1,a,ys,h2,h3,h4⟩=>⟨a,ys,by rw[h1,h2],by rw[hK];exact h3,h4⟩) (mX HN) hg hm wz ha (by decide) (by decide) he hpl hK
def mY:List Dv->Hs->Rs Dv
 | [.int i,.int j],h=>.ok (.int (if j>i then j else i)) h
 |_,_=>.bad
def qW:List Dv->Hs->Rs Dv
 | [.int i,.int j],h=>.ok (.int (if j<i then j else i)) h
 |_,_=>.bad
theorem HQ {f:List Dv->Hs->Rs Dv}{g:Int->Int->Int}(h2:∀i j h,f [.int i,.int j] h=.ok (.int (g i j)) h) (hb:∀xs h,(∀i j,xs≠[.int i,.int j])->f xs h=.bad):
  pT G (λxs H Q=>∃i j,xs=[.int i,.int j]/\Q (.int (g i j)) H) f:=by
 intro E μ h H xs vs Q s r o
 by_cases hx:∃i j,xs=[.int i,.int j]
 ·obtain⟨i,j,rfl⟩:=hx;obtain⟨v,v',rfl,r1,r2⟩:=wD r;rw[RelD]at r1 r2;subst r1;subst r2;rw[h2]at o;exact⟨i,j,rfl,o.val s rfl⟩
 ·rw[hb xs h (λi j e=>hx ⟨i,j,e⟩)]at o;exact o.elim
theorem UM:pT G (λxs H Q=>∃i j,xs=[.int i,.int j]/\Q (.int (if j>i then j else i)) H) mY:=HQ (λ_ _ _=>rfl) λxs h hx=>by
 unfold mY;split
 ·rename_i i j;exact absurd rfl (hx i j)
 ·rfl
theorem UN:pT G (λxs H Q=>∃i j,xs=[.int i,.int j]/\Q (.int (if j<i then j else i)) H) qW:=HQ (λ_ _ _=>rfl) λxs h hx=>by
 unfold qW;split
 ·rename_i i j;exact absurd rfl (hx i j)
 ·rfl
def iH:Dv->Hs->Rs Dv
 | .tup xs,h=>.ok (.tup xs) h
 | .ref i,h=>match getL h i with
  |some xs=>.ok (.tup xs) h
  |none=>.bad
 |_,_=>.bad
def UO (K:ar):V->Hp->VK->Prop:=λx H Q=>∃p ys,x=.ref p/\((SqL K H p ys/\∀l,H l=none->Q (.ref l) (aQ H l (.tup ys)))∨(SqT K H p ys/\Q (.ref p) H))
theorem UP:jT G (UO G.K) iH:=by
 intro E μ h H d v Q s r1 o
 cases d with
 |tup ds=>have r1':=r1;obtain⟨a,ws,rfl,e1,r2⟩:=r1;exact⟨a,ws,rfl,.inr ⟨SqT.of e1,o.val s r1'⟩⟩
 |ref i=>
  dsimp only[iH]at o
  cases g:getL h i with
  |none=>rw[g]at o;exact o.elim
  |some ys=>rw[g]at o;obtain⟨_,rfl⟩:=r1;obtain⟨ws,e1,r2⟩:=s.ob i _ (dH g);exact⟨_,ws,rfl,.inl ⟨SqL.of e1,λl hl=>o μ _ _ (Ext.same (cL hl)) (s.same (cL hl)) ⟨l,ws,rfl,cK,RelDL.mono (Ext.same (cL hl)) _ _ r2⟩⟩⟩
 |_=>exact o.elim
theorem HR (hg:Gl X "tuple") (hm:X.mg "tuple" = none) (ha:cY X G E (e::es) aS)
  (he:ao (e::es) X.env=(false,eval e X.env)::ao es X.env:=by rfl) (hpl:(backTo pos (ao es X.env)).any (·.1)=false:=by rfl):aI X G E (.Call (.Name "tuple" p) (e::es) [] pos) (aD (f1 iH) aS):=λhK=>
 wC (CallR.imp (GR (X:=X)) λxs H Q ⟨v,h1,a,ys,h2,h3⟩=>⟨a,ys,by rw[h1,h2],by rw[hK];exact h3⟩) (mX UP) hg hm vY ha (by decide) (by decide) he hpl hK
def qX (scr:List Int) (d:Dv) (h:Hs):Rs Dv:=match hJ scr d h with
 |some xs=>.ok (.ref h.length) (h++[.lst xs])
 |none=>.bad
theorem UQ:jT G (λx H Q=>∃p ys,x=.ref p/\(SqL G.K H p ys∨SqT G.K H p ys)/\∀l,H l=none->Q (.ref l) (aQ H l (.lst ys))) (qX G.scr):=by
 intro E μ h H d v Q s r1 o;unfold qX at o
 cases e:hJ G.scr d h with
 |none=>rw[e]at o;exact o.elim
 |some ys=>rw[e]at o;obtain⟨a,ws,rfl,hs,r2⟩:=A8 s r1 e;exact⟨a,ws,rfl,hs,λl hl=>pQ s r2 hl o⟩
theorem HS (hc:X.calm=true) (hg:Gl X "max") (hm:X.mg "max" = none) (ha:cY X G E (e::es) aS)
  (he:ao (e::es) X.env=(false,eval e X.env)::ao es X.env:=by rfl) (hpl:(backTo pos (ao es X.env)).any (·.1)=false:=by rfl):aI X G E (.Call (.Name "max" p) (e::es) [] pos) (aD mY aS):=
 pU (RO hc) UM hg hm HJ ha (by decide) (by decide) he hpl
theorem UR (hc:X.calm=true) (hg:Gl X "min") (hm:X.mg "min" = none) (ha:cY X G E (e::es) aS)
  (he:ao (e::es) X.env=(false,eval e X.env)::ao es X.env:=by rfl) (hpl:(backTo pos (ao es X.env)).any (·.1)=false:=by rfl):aI X G E (.Call (.Name "min" p) (e::es) [] pos) (aD qW aS):=
 pU (RP hc) UN hg hm HK ha (by decide) (by decide) he hpl
end
inductive Sr where
 |nx (ρ:Ev) (h:Hs)|rt (d:Dv) (h:Hs)|bk (ρ:Ev) (h:Hs)|ct (ρ:Ev) (h:Hs)|ex (c:Nat) (h:Hs)|bad
abbrev MS:=Ev->Hs->Sr
def SOut (G:Cfg) (E:XK) (μ:Nat->ah) (n:Nat) (H:Hp) (r:Sr) (D:Ends):Prop:=match r with
 | .nx ρ h'=>∀μ' H' σ',Ext μ n H μ' h'.length H'->Sim G μ' h' H'->RelS G μ' h'.length H' ρ σ'->D.nx σ' H'
 | .bk ρ h'=>∀μ' H' σ',Ext μ n H μ' h'.length H'->Sim G μ' h' H'->RelS G μ' h'.length H' ρ σ'->D.bk σ' H'
 | .ct ρ h'=>∀μ' H' σ',Ext μ n H μ' h'.length H'->Sim G μ' h' H'->RelS G μ' h'.length H' ρ σ'->D.ct σ' H'
 | .rt d h'=>∀μ' H' v,Ext μ n H μ' h'.length H'->Sim G μ' h' H'->RelD G μ' h'.length H' d v->D.rt v H'
 | .ex c h'=>∀μ' H' u,Ext μ n H μ' h'.length H'->Sim G μ' h' H'->vS G H' c u->E u none H'
 | .bad=>False
theorem SOut.ext {G:Cfg}{E:XK}{μ μ1:Nat->ah}{n n1:Nat}{H H1:Hp}{r:Sr}{D:Ends}(o:SOut G E μ n H r D) (x:Ext μ n H μ1 n1 H1):SOut G E μ1 n1 H1 r D:=by
 cases r with
 |nx ρ h'=>exact λμ' H' σ' y=>o μ' H' σ' (x.trans y)
 |bk ρ h'=>exact λμ' H' σ' y=>o μ' H' σ' (x.trans y)
 |ct ρ h'=>exact λμ' H' σ' y=>o μ' H' σ' (x.trans y)
 |rt d h'=>exact λμ' H' σ' y=>o μ' H' σ' (x.trans y)
 |ex c h'=>exact λμ' H' σ' y=>o μ' H' σ' (x.trans y)
 |bad=>exact o
def wF (G:Cfg) (E:XK) (m:MS):TS:=λD σ H=>∃μ ρ h,RelS G μ h.length H ρ σ/\Sim G μ h H/\SOut G E μ h.length H (m ρ h) D
def iV (X:Cx) (G:Cfg) (E:XK) (st:ig) (m:MS):Prop:=X.K=G.K->PS X st (wF G E m)
def jE (X:Cx) (G:Cfg) (E:XK) (st:List ig) (m:MS):Prop:=X.K=G.K->PSs X st (wF G E m)
theorem PS.imp {X:Cx}{e:ig}{t t':TS}(h:PS X e t) (i:∀D σ H,t' D σ H->t D σ H):PS X e t':=λpins s σ H D I q=>h pins s σ H D I (i D σ H q)
theorem PSs.imp {X:Cx}{e:List ig}{t t':TS}(h:PSs X e t) (i:∀D σ H,t' D σ H->t D σ H):PSs X e t':=λpins s σ H D I q=>h pins s σ H D I (i D σ H q)
def Rs.thenS {α:Type}(r:Rs α) (f:α->Hs->Sr):Sr:=match r with
 | .ok a h=>f a h
 | .ex c h=>.ex c h
 | .bad=>.bad
@[simp] theorem Rs.thenS_ok {α:Type}(a:α) (h:Hs) (f:α->Hs->Sr):(Rs.ok a h).thenS f=f a h:=rfl
@[simp] theorem Rs.thenS_ex {α:Type}(c:Nat) (h:Hs) (f:α->Hs->Sr):(Rs.ex c h).thenS f=.ex c h:=rfl
@[simp] theorem Rs.thenS_bad {α:Type}(f:α->Hs->Sr):(Rs.bad).thenS f=.bad:=rfl
theorem SOut.thenS {α β:Type}{G:Cfg}{E:XK}{μ:Nat->ah}{n:Nat}{H:Hp}{r:Rs α}{f:α->Hs->Sr}{D:Ends}{R:(Nat->ah)->Nat->Hp->α->β->Prop}
  (o:SOut G E μ n H (r.thenS f) D):Out G E μ n H r R λv H1=>∃μ1 d h1,Ext μ n H μ1 h1.length H1/\Sim G μ1 h1 H1/\R μ1 h1.length H1 d v/\SOut G E μ1 h1.length H1 (f d h1) D:=by
 cases r with
 |bad=>exact o
 |ex c h'=>exact o
 |ok d h'=>exact λμ1 H1 v x1 s1 r1=>⟨μ1,d,h',x1,s1,r1,SOut.ext o x1⟩
section
variable{X:Cx}{G:Cfg}{E:XK}{st:ig}{rest:List ig}{m u:MS}{e:bj}{me:M Dv}{pos:Pos}
theorem pV {m:M Dv}{σ:St}{H:Hp}{f:Dv->Hs->Sr}{D:Ends}{Q1:V->Hp->Prop}{μ:Nat->ah}{ρ:Ev}{h:Hs}(rs:RelS G μ h.length H ρ σ) (s:Sim G μ h H) (o:SOut G E μ h.length H ((m ρ h).thenS f) D)
  (k:∀μ1 d h1 v H1,Ext μ h.length H μ1 h1.length H1->RelS G μ1 h1.length H1 ρ σ->Sim G μ1 h1 H1->RelD G μ1 h1.length H1 d v->SOut G E μ1 h1.length H1 (f d h1) D->Q1 v H1):gH G E m σ H Q1:=
 ⟨μ,ρ,h,rs,s,(o.thenS (R:=RelD G)).mono λv H1 ⟨μ1,d,h1,x,s1,r1,o1⟩=>k μ1 d h1 v H1 x (rs.mono x) s1 r1 o1⟩
theorem HU {m:M Bool}{σ:St}{H:Hp}{f:Bool->Hs->Sr}{D:Ends}{Q1:Bool->Hp->Prop}{μ:Nat->ah}{ρ:Ev}{h:Hs}(rs:RelS G μ h.length H ρ σ) (s:Sim G μ h H) (o:SOut G E μ h.length H ((m ρ h).thenS f) D)
  (k:∀μ1 b h1 H1,Ext μ h.length H μ1 h1.length H1->RelS G μ1 h1.length H1 ρ σ->Sim G μ1 h1 H1->SOut G E μ1 h1.length H1 (f b h1) D->Q1 b H1):jS G E m σ H Q1:=
 ⟨μ,ρ,h,rs,s,(o.thenS (R:=RB)).mono λv H1 ⟨μ1,d,h1,x,s1,r1,o1⟩=>by have e:v=d:=r1;subst e;exact k μ1 v h1 H1 x (rs.mono x) s1 o1⟩
def aX:MS:=λρ h=>.nx ρ h
def aJ (m u:MS):MS:=λρ h=>match m ρ h with
 | .nx ρ1 h1=>u ρ1 h1
 |r=>r
theorem eQ:jE X G E [] aX:=λ_=>PSs.imp PY λD σ H ⟨μ,ρ,h,rs,s,o⟩=>o μ H σ Ext.refl s rs
theorem bB (h1:iV X G E st m) (h2:jE X G E rest u):jE X G E (st::rest) (aJ m u):=λhK=>PSs.imp (PZ (h1 hK) (h2 hK)) λD σ H ⟨μ,ρ,h,rs,s,o⟩=>by
 refine⟨μ,ρ,h,rs,s, ?_⟩;unfold aJ at o
 cases q:m ρ h with
 |nx ρ1 h1=>rw[q]at o;exact λμ1 H1 σ1 x1 s1 rs1=>⟨μ1,ρ1,h1,rs1,s1,SOut.ext o x1⟩
 |bk ρ1 h1=>rw[q]at o;exact o
 |ct ρ1 h1=>rw[q]at o;exact o
 |rt ρ1 h1=>rw[q]at o;exact o
 |ex ρ1 h1=>rw[q]at o;exact o
 |bad=>rw[q]at o;exact o
theorem bJ (h1:iV X G E st m):jE X G E [st] m:=λhK=>FP (h1 hK)
def fU (me:M Dv):MS:=λρ h=>(me ρ h).thenS λ_ h1=>.nx ρ h1
theorem tF (he:aI X G E e me) (hs:swapsWith e none pos.line X.env=pure false:=by rfl):iV X G E (.Expr e pos) (fU me):=λhK=>PS.imp (P4 (he hK) hs) λD σ H ⟨μ,ρ,h,rs,s,o⟩=>pV rs s o λμ1 d h1 v H1 x1 rs1 s1 r1 o1=>o1 μ1 H1 σ Ext.refl s1 rs1
def aL (me:M Dv):MS:=λρ h=>(me ρ h).thenS λd h1=>.rt d h1
theorem cA (he:aI X G E e me):iV X G E (.Return (some e) pos) (aL me):=λhK=>PS.imp (P6 (he hK)) λD σ H ⟨μ,ρ,h,rs,s,o⟩=>pV rs s o λμ1 d h1 v H1 x1 rs1 s1 r1 o1=>o1 μ1 H1 v Ext.refl s1 r1
def aR (c:M Bool) (t u:MS):MS:=λρ h=>(c ρ h).thenS λb h1=>if b=true then t ρ h1 else u ρ h1
theorem eC {c:bj}{a b:List ig}{mc:M Bool}(hc:fY X G E c mc) (ha:jE X G E a m) (hb:jE X G E b u):iV X G E (.If c a b pos) (aR mc m u):=λhK=>PS.imp (P8 (hc hK) (ha hK) (hb hK)) λD σ H ⟨μ,ρ,h,rs,s,o⟩=>
 HU rs s o λμ1 k h1 H1 x1 rs1 s1 o1=>by
  cases k with
  |true=>rw[if_pos rfl]at o1 ⊢;exact⟨μ1,ρ,h1,rs1,s1,o1⟩
  |false=>rw[if_neg (by decide)]at o1 ⊢;exact⟨μ1,ρ,h1,rs1,s1,o1⟩
theorem RelS.set {μ:Nat->ah}{n:Nat}{H:Hp}{ρ:Ev}{σ:St}{d:Dv}{v:V}(rs:RelS G μ n H ρ σ) (i:Nat) (r:RelD G μ n H d v):RelS G μ n H (ρ.set i (some d)) (σ.set i (some v)):=⟨by rw[kg,kg];exact rs.len,λj d' e=>by
 have hl:=rs.len
 by_cases hij:i=j
 ·subst hij;have hi:i<ρ.length:=by have:=(ba.mp e).1;simpa using this
  rw[dm hi]at e;cases e;exact⟨v,dm (by omega),r⟩
 ·rw[fh hij]at e ⊢;exact rs.at_ j d' e⟩
abbrev cU:=Dv->Ev->Option Ev
def tG (G:Cfg) (st:cU):TG:=λv σ H Q=>∃μ ρ h d ρ',RelS G μ h H ρ σ/\RelD G μ h H d v/\st d ρ=some ρ'/\∀σ',RelS G μ h H ρ' σ'->Q σ' H
def mZ (X:Cx) (G:Cfg) (tg:bj) (st:cU):Prop:=X.K=G.K->PG X tg (tG G st)
theorem PG.imp {tg:bj}{t t':TG}(h:PG X tg t) (i:∀v σ H Q,t' v σ H Q->t v σ H Q):PG X tg t':=λpins s σ H v u Q I r q=>h pins s σ H v u Q I r (i v σ H Q q)
theorem PGs.imp {tg:List bj}{t t':mS}(h:PGs X tg t) (i:∀v σ H Q,t' v σ H Q->t v σ H Q):PGs X tg t':=λpins s σ H v u Q I r q=>h pins s σ H v u Q I r (i v σ H Q q)
def aF (i:Nat):cU:=λd ρ=>some (ρ.set i (some d))
theorem US {i:Nat}{x:Str}(hN:X.N.Nodup) (hi:X.N[i]?=some x) (hx:mR X.env.scope x) (hf:X.fn x=true∨X.env.scope.names.lookup x=some .local:=by first|exact .inl rfl|exact .inr rfl|assumption):mZ X G (.Name x pos) (aF i):=λ_=>PG.imp (P9 hN hi hx hf) λv σ H Q ⟨μ,ρ,h,d,ρ',rs,r,e,k⟩=>by cases e;exact k _ (rs.set i r)
abbrev oH:=List Dv->Ev->Option Ev
def UT (G:Cfg) (st:oH):mS:=λvs σ H Q=>∃μ ρ h ds ρ',RelS G μ h H ρ σ/\RelDL G μ h H ds vs/\st ds ρ=some ρ'/\∀σ',RelS G μ h H ρ' σ'->Q σ' H
def wG (X:Cx) (G:Cfg) (tg:List bj) (st:oH):Prop:=X.K=G.K->PGs X tg (UT G st)
def cO:oH:=λds ρ=>match ds with
 | []=>some ρ
 |_=>none
def bG (s:cU) (t:oH):oH:=λds ρ=>match ds with
 |d::r=>match s d ρ with
  |some ρ1=>t r ρ1
  |none=>none
 | []=>none
theorem jW:wG X G [] cO:=λ_=>PGs.imp QC λvs σ H Q ⟨μ,ρ,h,ds,ρ',rs,r,e,k⟩=>by
 cases ds with
 |nil=>cases e;rw[RelDL]at r;subst r;exact⟨rfl,k _ rs⟩
 |cons d r=>cases e
theorem eV {tg:bj}{tgs:List bj}{s:cU}{t:oH}(h1:mZ X G tg s) (h2:wG X G tgs t)
  (hs:(assignEach (tg::tgs) X.env).map (·.2)=assign tg X.env::(assignEach tgs X.env).map (·.2):=by rfl):wG X G (tg::tgs) (bG s t):=λhK=>PGs.imp (QD (h1 hK) (h2 hK) hs) λvs σ H Q ⟨μ,ρ,h,ds,ρ',rs,r,e,k⟩=>by
 cases ds with
 |nil=>cases e
 |cons d ds=>
  rw[RelDL]at r;obtain⟨v,rr,rfl,r1,r2⟩:=r;unfold bG at e;dsimp only at e
  cases q:s d ρ with
  |none=>rw[q]at e;cases e
  |some ρ1=>rw[q]at e;exact⟨v,rr,rfl,μ,ρ,h,d,ρ1,rs,r1,q,λσ1 rs1=>⟨μ,ρ1,h,ds,ρ',rs1,r2,e,k⟩⟩
def cM (n:Nat) (t:oH):cU:=λd ρ=>match d with
 | .tup ds=>if ds.length=n then t ds ρ else none
 |_=>none
theorem jX {tgs:List bj}{k:Nat}{t:oH}{n:Nat}(hc:X.calm=true) (h:wG X G tgs t)
  (hn:(assignEach tgs X.env).length=n:=by rfl) (hst:(assignEach tgs X.env).findIdx? (·.1)=none:=by rfl):mZ X G (.Tuple tgs k pos) (cM n t):=λhK=>
 PG.imp (QF hc (h hK) hn hst) λv σ H Q ⟨μ,ρ,hh,d,ρ',rs,r,e,kk⟩=>by
  cases d with
  |tup ds=>
   dsimp only[cM]at e
   split at e
   ·rename_i hl;obtain⟨a,vs,rfl,e1,r1⟩:=r;exact⟨a,vs,rfl,SqT.of e1,by rw[r1.length];exact hl,μ,ρ,hh,ds,ρ',rs,r1,e,kk⟩
   ·cases e
  |_=>cases e
def aK (me:M Dv) (st:cU):MS:=λρ h=>(me ρ h).thenS λd h1=>match st d ρ with
 |some ρ1=>.nx ρ1 h1
 |none=>.bad
theorem UU {st:cU}{σ:St}{H:Hp}{D:Ends}(t:wF G E (aK me st) D σ H):AE (gH G E me) (tG G st) D σ H:=by
 obtain⟨μ,ρ,h,rs,s,o⟩:=t;refine pV rs s o λμ1 d h1 v H1 x1 rs1 s1 r1 o1=>?_
 cases q:st d ρ with
 |none=>rw[q]at o1;exact o1.elim
 |some ρ1=>rw[q]at o1;exact⟨μ1,ρ,h1.length,d,ρ1,rs1,r1,q,λσ' rs'=>o1 μ1 H1 σ' Ext.refl s1 rs'⟩
theorem HV {tg:bj}{st:cU}(he:aI X G E e me) (hg:mZ X G tg st) (hs:swapsWithSole [tg] e pos.line X.env=pure false:=by rfl) (hw:swappedStores [tg] e X.env=pure none:=by rfl)
  (h1:(assignEach [tg] X.env).map (·.2)=[assign tg X.env]:=by rfl):iV X G E (.Assign [tg] e pos) (aK me st):=λhK=>PS.imp (FT (he hK) (hg hK) hs hw h1) λ_ _ _ t=>UU t
theorem HW {i:Nat}{x:Str}{pos':Pos}(hN:X.N.Nodup) (hi:X.N[i]?=some x) (hx:mR X.env.scope x) (he:aI X G E e me) (hs:swapsWith e (some (.Name x pos')) pos.line X.env=pure false:=by rfl) (hf:X.fn x=true∨X.env.scope.names.lookup x=some .local:=by first|exact .inl rfl|exact .inr rfl|assumption):
  iV X G E (.Assign [.Name x pos'] e pos) (aK me (aF i)):=λhK=>PS.imp (AF hN hi hx (he hK) hs hf) λD σ H t=>by
 obtain⟨μ,ρ,h,rs,s,o⟩:=t;exact pV rs s o λμ1 d h1 v H1 x1 rs1 s1 r1 o1=>o1 μ1 H1 _ Ext.refl s1 (rs1.set i r1)
end
structure Src where
 n:Nat
 get:Nat->Hs->Option Dv
 fin:Hs->Bool
def ItOk (G:Cfg) (μ0:Nat->ah) (n0:Nat) (H0:Hp) (src:Src) (J:It):Prop:=
 ∀(k:Nat) (μ:Nat->ah) (h:Hs) (H:Hp),Ext μ0 n0 H0 μ h.length H->Sim G μ h H->
  (k<src.n->∀d,src.get k h=some d->J.go k H/\∀x H',J.yld k H x H'->Same H H'/\RelD G μ h.length H' d x)/\(k=src.n->src.fin h=true->J.stop k H)
def A9 (G:Cfg) (E:XK) (m:M Src):TI:=λσ H R=>∃μ ρ h,RelS G μ h.length H ρ σ/\Sim G μ h H/\Out G E μ h.length H (m ρ h) (ItOk G) R
def lN (X:Cx) (G:Cfg) (E:XK) (tg iter:bj) (m:M Src):Prop:=X.K=G.K->PI X tg iter (A9 G E m)
theorem PI.imp {X:Cx}{tg iter:bj}{t t':TI}(h:PI X tg iter t) (i:∀σ H R,t' σ H R->t σ H R):PI X tg iter t':=λpins s σ H R I q=>h pins s σ H R I (i σ H R q)
def cQ (xs:List Dv):Src:=⟨xs.length,λk _=>xs[k]?,λ_=>true⟩
def eW (i n:Nat):Src:=⟨n,λk h=>match getL h i with
 |some xs=>if xs.length=n then xs[k]? else none
 |none=>none,λh=>match getL h i with
 |some xs=>xs.length==n
 |none=>false⟩
def eX (lo hi:Int):Src:=⟨(hi - lo).toNat,λk _=>some (.int (lo+k)),λ_=>true⟩
def bQ (f:Dv->Hs->Rs Src) (m:M Dv):M Src:=λρ h=>(m ρ h).bind f
section
variable{X:Cx}{G:Cfg}{E:XK}{tg e a b:bj}{me ma mb:M Dv}{pos p:Pos}
def eE:Dv->Hs->Rs Src
 | .ref i,h=>match getL h i with
  |some xs=>.ok (eW i xs.length) h
  |none=>.bad
 |_,_=>.bad
def eF:Dv->Hs->Rs Src
 | .tup xs,h=>.ok (cQ xs) h
 |_,_=>.bad
theorem tH (he:aI X G E e me):lN X G E tg e (bQ eE me):=λhK=>PI.imp (QR (he hK)) λσ H R ⟨μ,ρ,h,rs,s,o⟩=>cZ rs s o λμ1 x h1 vx H1 x1 rs1 s1 r1 o1=>by
 rw[hK]
 cases x with
 |ref i=>
  obtain⟨hi,rfl⟩:=r1;dsimp only[eE]at o1
  cases g:getL h1 i with
  |none=>rw[g]at o1;exact o1.elim
  |some xs=>
   rw[g]at o1;obtain⟨vs,e1,r2⟩:=s1.ob i _ (dH g);refine⟨_,rfl,⟨vs,SqL.of e1⟩,o1.val s1 λk μ2 h2 H2 x2 s2=>?_⟩;have emu:=x2.mu i hi;constructor
   ·intro hk d hd;dsimp only[eW]at hd
    cases g2:getL h2 i with
    |none=>rw[g2]at hd;cases hd
    |some ys=>
     rw[g2]at hd;dsimp only at hd
     split at hd
     ·obtain⟨ws,e2,r3⟩:=s2.ob i _ (dH g2);rw[emu]at e2;obtain⟨v,ev,rv⟩:=r3.get hd;refine⟨⟨ws,v,SqL.of e2,ev⟩,λx H' hy=>?_⟩;obtain⟨rfl,hy⟩:=hy;have:=hy ws (SqL.of e2);rw[ev]at this;cases this;exact⟨Same.refl _,rv⟩
     ·cases hd
   ·intro hk hf;dsimp only[eW]at hf
    cases g2:getL h2 i with
    |none=>rw[g2]at hf;cases hf
    |some ys=>
     rw[g2]at hf;obtain⟨ws,e2,r3⟩:=s2.ob i _ (dH g2);rw[emu]at e2;refine⟨ws,SqL.of e2, ?_⟩;have h3:ys.length=xs.length:=by simpa using hf
     rw[r3.length,h3,hk];exact ak _
 |_=>exact o1.elim
theorem ItOk.tup {μ:Nat->ah}{n:Nat}{H:Hp}{a:ah}{vs:List V}{xs:List Dv}{K:ar}(e:H a=some (.tup vs)) (r:RelDL G μ n H xs vs) (hi:∀(X:Cx),True):ItOk G μ n H (cQ xs) (AG K a):=by
 intro k μ2 h2 H2 x2 s2;have e2:=x2.im a (.tup vs) trivial e;have r2:=RelDL.mono x2 _ _ r;have inj:∀ws,SqT K H2 a ws->ws=vs->True:=λ_ _ _=>trivial;constructor
 ·intro hk d hd;obtain⟨v,ev,rv⟩:=r2.get hd;refine⟨⟨vs,v,SqT.of e2,ev⟩,λx H' hy=>?_⟩;obtain⟨rfl,hy⟩:=hy;have:=hy vs (SqT.of e2);rw[ev]at this;cases this;exact⟨Same.refl _,rv⟩
 ·intro hk _;exact⟨vs,SqT.of e2,by rw[r2.length,hk];exact ak _⟩
theorem oI (he:aI X G E e me):lN X G E tg e (bQ eF me):=λhK=>PI.imp (QS (he hK)) λσ H R ⟨μ,ρ,h,rs,s,o⟩=>cZ rs s o λμ1 x h1 vx H1 x1 rs1 s1 r1 o1=>by
 cases x with
 |tup xs=>obtain⟨a,vs,rfl,e1,r2⟩:=r1;exact⟨a,rfl,⟨vs,SqT.of e1⟩,o1.val s1 (ItOk.tup e1 r2 λ_=>trivial)⟩
 |_=>exact o1.elim
def nA (i:Int):Bool:=decide (-4611686018427387904<=i)&&decide (i<4611686018427387904)
def fK:List Dv->Hs->Rs Src
 | [.int j],h=>if nA j=true then .ok (eX 0 j) h else .bad
 |_,_=>.bad
def pW:List Dv->Hs->Rs Src
 | [.int i,.int j],h=>if nA i=true/\nA j=true then .ok (eX i j) h else .bad
 |_,_=>.bad
def aS (f:List Dv->Hs->Rs Src) (ms:M (List Dv)):M Src:=λρ h=>(ms ρ h).bind f
theorem ItOk.rng {μ:Nat->ah}{n:Nat}{H:Hp}(lo hi:Int):ItOk G μ n H (eX lo hi) (sJ lo (hi - lo).toNat):=by
 intro k μ2 h2 H2 x2 s2;constructor
 ·intro hk d hd;cases hd;exact⟨hk,λx H' hy=>by obtain⟨rfl,rfl⟩:=hy;exact⟨Same.refl _,rfl⟩⟩
 ·intro hk _;exact mz hk.symm
variable{ms:M (List Dv)}
theorem qY (hg:Gl X "range") (hm:X.mg "range" = none) (ha:cY X G E [a] ms) (hs:ao [a] X.env=[(false,eval a X.env)]:=by rfl):lN X G E tg (.Call (.Name "range" p) [a] [] pos) (aS fK ms):=λhK=>
 PI.imp (QV hg hm (ha hK) hs) λσ H R ⟨μ,ρ,h,rs,s,o⟩=>kK rs s o λμ1 ds h1 vs H1 x1 rs1 s1 r1 o1=>by
  unfold fK at o1
  split at o1
  ·rename_i j
   split at o1
   ·rename_i hj;obtain⟨v,rfl,rv⟩:=tE r1;rw[RelD]at rv;subst rv;simp only[nA,cf,decide_eq_true_eq]at hj;refine⟨j,rfl,by omega,by omega, ?_⟩;have:=o1.val s1 (ItOk.rng (G:=G) (μ:=μ1) (n:=h1.length) (H:=H1) 0 j);rw[Int.sub_zero]at this;exact this
   ·exact o1.elim
  ·exact o1.elim
theorem UW (hg:Gl X "range") (hm:X.mg "range" = none) (ha:cY X G E [a,b] ms) (hs:ao [a,b] X.env=[(false,eval a X.env),(false,eval b X.env)]:=by rfl) (hs2:ao [b] X.env=[(false,eval b X.env)]:=by rfl):lN X G E tg (.Call (.Name "range" p) [a,b] [] pos) (aS pW ms):=λhK=>
 PI.imp (QW hg hm (ha hK) hs hs2) λσ H R ⟨μ,ρ,h,rs,s,o⟩=>kK rs s o λμ1 ds h1 vs H1 x1 rs1 s1 r1 o1=>by
  unfold pW at o1
  split at o1
  ·rename_i i j
   split at o1
   ·rename_i hj;obtain⟨v,v',rfl,rv,rv'⟩:=wD r1;rw[RelD]at rv rv';subst rv;subst rv';simp only[nA,cf,decide_eq_true_eq]at hj;exact⟨i,j,rfl,⟨by omega,by omega,by omega,by omega⟩,o1.val s1 (ItOk.rng (G:=G) (μ:=μ1) (n:=h1.length) (H:=H1) i j)⟩
   ·exact o1.elim
  ·exact o1.elim
end
def eR (src:Src) (st:cU) (body:MS):Nat->Nat->MS
 |0,_=>λρ h=>if src.fin h=true then .nx ρ h else .bad
 |f+1,k=>λρ h=>match src.get k h with
  |none=>.bad
  |some d=>match st d ρ with
   |none=>.bad
   |some ρ1=>match body ρ1 h with
    | .nx ρ2 h2=>eR src st body f (k+1) ρ2 h2
    | .ct ρ2 h2=>eR src st body f (k+1) ρ2 h2
    | .bk ρ2 h2=>.nx ρ2 h2
    |r=>r
def eS (mi:M Src) (st:cU) (body:MS):MS:=λρ h=>(mi ρ h).thenS λsrc h1=>eR src st body src.n 0 ρ h1
section
variable{X:Cx}{G:Cfg}{E:XK}{tg iter:bj}{body:List ig}{mi:M Src}{st:cU}{mb:MS}{pos:Pos}
theorem oJ (hp:yj (model X.prog X.w) X.A X.env X.xe) (hc:X.calm=true) (hi:lN X G E tg iter mi) (hg:mZ X G tg st) (hb:jE X G E body mb)
  (hs:∀x,foldedSetIterable iter X.env x=pure x:=by intro _;rfl):iV X G E (.For tg iter body [] pos) (eS mi st mb):=λhK=>PS.imp (QY hp hc (hi hK) (hg hK) (hb hK) hs) λD σ H ⟨μ,ρ,h,rs,s,o⟩=>by
 refine⟨μ,ρ,h,rs,s,(o.thenS (R:=ItOk G)).mono λJ H1 ⟨μ1,src,h1,x1,s1,ok,o1⟩=>?_⟩;refine⟨λi m σ H=>∃μ2 ρ2 h2,Ext μ1 h1.length H1 μ2 h2.length H/\RelS G μ2 h2.length H ρ2 σ/\Sim G μ2 h2 H/\i+m=src.n/\SOut G E μ2 h2.length H (eR src st mb m i ρ2 h2) D,⟨src.n,μ1,ρ,h1,Ext.refl,rs.mono x1,s1,Nat.zero_add _,o1⟩, ?_⟩
 rintro i m σ2 H2 ⟨μ2,ρ2,h2,x2,rs2,s2,him,o2⟩
 cases m with
 |zero=>
  unfold eR at o2
  split at o2
  ·rename_i hf;exact .inl ⟨(ok i μ2 h2 H2 x2 s2).2 (by omega) hf,o2 μ2 H2 σ2 Ext.refl s2 rs2⟩
  ·exact o2.elim
 |succ m=>
  unfold eR at o2
  cases q:src.get i h2 with
  |none=>rw[q]at o2;exact o2.elim
  |some d=>
   rw[q]at o2;dsimp only at o2
   cases q2:st d ρ2 with
   |none=>rw[q2]at o2;exact o2.elim
   |some ρ3=>
    rw[q2]at o2;dsimp only at o2;obtain⟨go,yl⟩:=(ok i μ2 h2 H2 x2 s2).1 (by omega) d q;refine .inr ⟨go,λσ' H'=>∃μ3 ρ4 h4,Ext μ1 h1.length H1 μ3 h4.length H'/\RelS G μ3 h4.length H' ρ4 σ'/\Sim G μ3 h4 H'/\(i+1)+m=src.n/\SOut G E μ3 h4.length H' (eR src st mb m (i+1) ρ4 h4) D,λσ' H' z=>⟨m,jo m,z⟩,λx H' hy=>?_⟩;obtain⟨sm,rx⟩:=yl x H' hy;have xs:Ext μ2 h2.length H2 μ2 h2.length H':=Ext.same sm;refine⟨μ2,ρ2,h2.length,d,ρ3,rs2.mono xs,rx,q2,λσ3 rs3=>⟨μ2,ρ3,h2,rs3,s2.same sm, ?_⟩⟩;have step:∀ρ5 h5,SOut G E μ2 h2.length H2 (eR src st mb m (i+1) ρ5 h5) D->∀μ6 H6 σ6,Ext μ2 h2.length H' μ6 h5.length H6->Sim G μ6 h5 H6->RelS G μ6 h5.length H6 ρ5 σ6->
      ∃μ3 ρ4 h4,Ext μ1 h1.length H1 μ3 h4.length H6/\RelS G μ3 h4.length H6 ρ4 σ6/\Sim G μ3 h4 H6/\(i+1)+m=src.n/\SOut G E μ3 h4.length H6 (eR src st mb m (i+1) ρ4 h4) D:=
     λρ5 h5 o5 μ6 H6 σ6 x6 s6 rs6=>⟨μ6,ρ5,h5,(x2.trans xs).trans x6,rs6,s6,by omega,o5.ext (xs.trans x6)⟩
    cases q3:mb ρ3 h2 with
    |nx ρ5 h5=>rw[q3]at o2;exact step ρ5 h5 o2
    |ct ρ5 h5=>rw[q3]at o2;exact step ρ5 h5 o2
    |bk ρ5 h5=>rw[q3]at o2;exact λμ6 H6 σ6 x6 s6 rs6=>o2 μ6 H6 σ6 (xs.trans x6) s6 rs6
    |rt d5 h5=>rw[q3]at o2;exact λμ6 H6 σ6 x6 s6 rs6=>o2 μ6 H6 σ6 (xs.trans x6) s6 rs6
    |ex d5 h5=>rw[q3]at o2;exact λμ6 H6 σ6 x6 s6 rs6=>o2 μ6 H6 σ6 (xs.trans x6) s6 rs6
    |bad=>rw[q3]at o2;exact o2.elim
end
abbrev MC:=Ev->Hs->List Dv->Rs (Ev×List Dv)
def bX (me:M Dv):MC:=λρ h acc=>match me ρ h with
 | .ok d h1=>if acc.length<1000000 then .ok (ρ,acc++[d]) h1 else .bad
 |_=>.bad
def gJ (src:Src) (st:cU) (test:M Bool) (inner:MC):Nat->Nat->MC
 |0,_=>λρ h acc=>if src.fin h=true then .ok (ρ,acc) h else .bad
 |f+1,k=>λρ h acc=>match src.get k h with
  |none=>.bad
  |some d=>match st d ρ with
   |none=>.bad
   |some ρ1=>match test ρ1 h with
    | .ok true h2=>match inner ρ1 h2 acc with
     | .ok r h3=>gJ src st test inner f (k+1) r.1 h3 r.2
     |_=>.bad
    | .ok false h2=>gJ src st test inner f (k+1) ρ1 h2 acc
    |_=>.bad
def nB (mi:M Src) (st:cU) (test:M Bool) (inner:MC):MC:=λρ h acc=>match mi ρ h with
 | .ok src h1=>gJ src st test inner src.n 0 ρ h1 acc
 |_=>.bad
def dJ:M Bool:=λ_ h=>.ok true h
def lO (cap:List (Option Nat)) (ρ:Ev):Ev:=cap.map λo=>match o with
 |some j=>(ρ[j]?).getD none
 |none=>none
def cD (mi:M Src) (cap:List (Option Nat)) (st:cU) (test:M Bool) (inner:MC):M (List Dv):=λρ h=>(mi ρ h).bind λsrc h1=>match gJ src st test inner src.n 0 (lO cap ρ) h1 []with
 | .ok r h2=>.ok r.2 h2
 |_=>.bad
def tI (G:Cfg) (m:MC):TC:=λσ H vs K=>∃μ ρ h xs ρ' xs' h',RelS G μ h.length H ρ σ/\Sim G μ h H/\RelDL G μ h.length H xs vs/\m ρ h xs=.ok (ρ',xs') h' /\
 ∀μ' H' σ' vs',Ext μ h.length H μ' h'.length H'->Sim G μ' h' H'->RelS G μ' h'.length H' ρ' σ'->RelDL G μ' h'.length H' xs' vs'->K σ' H' vs'
section
variable{G:Cfg}
theorem UX {μ:Nat->ah}{n:Nat}{H:Hp}{ρ:Ev}{σ:St}(rs:RelS G μ n H ρ σ) (cap:List (Option Nat)):RelS G μ n H (lO cap ρ) (qR cap σ):=⟨by simp[lO,qR],λi d e=>by
 unfold lO at e;rw[dv]at e
 cases q:cap[i]? with
 |none=>rw[q]at e;cases e
 |some o=>
  rw[q]at e
  cases o with
  |none=>cases e
  |some j=>
   have e':(ρ[j]?).getD none=some d:=by simpa using e
   have e2:ρ[j]?=some (some d):=by
    cases z:ρ[j]? with
    |none=>rw[z]at e';cases e'
    |some y=>rw[z]at e';simp at e';rw[e']
   obtain⟨v,e3,r⟩:=rs.at_ j d e2;refine⟨v, ?_,r⟩;unfold qR;rw[dv,q];simp[e3]⟩
theorem HX {E:XK}{me:M Dv}{σ:St}{H:Hp}{vs:List V}{K:St->Hp->List V->Prop}(t:tI G (bX me) σ H vs K):G3 (gH G E me) σ H vs K:=by
 obtain⟨μ,ρ,h,xs,ρ',xs',h',rs,s,r,e,k⟩:=t;refine⟨μ,ρ,h,rs,s, ?_⟩;unfold bX at e
 cases q:me ρ h with
 |bad=>rw[q]at e;cases e
 |ex c h1=>rw[q]at e;cases e
 |ok d h1=>
  rw[q]at e;dsimp only at e
  split at e
  ·rename_i hl;cases e;intro μ1 H1 v x1 s1 r1;refine⟨?_,k μ1 H1 σ _ x1 s1 (rs.mono x1) ((RelDL.mono x1 _ _ r).append (RelDL.cons r1 RelDL.nil))⟩;rw[r.length];exact aw hl (by decide)
  ·cases e
theorem HY {E:XK}{src:Src}{st:cU}{test:M Bool}{inner:MC}{J:It}{μ1:Nat->ah}{h1:Hs}{H1:Hp}{ρ ρ':Ev}{σ:St}{xs xs':List Dv}{vs:List V}{h':Hs}{K:St->Hp->List V->Prop}
  (ok:ItOk G μ1 h1.length H1 src J) (rs:RelS G μ1 h1.length H1 ρ σ) (s1:Sim G μ1 h1 H1) (r:RelDL G μ1 h1.length H1 xs vs) (e:gJ src st test inner src.n 0 ρ h1 xs=.ok (ρ',xs') h')
  (k:∀μ' H' σ' vs',Ext μ1 h1.length H1 μ' h'.length H'->Sim G μ' h' H'->RelS G μ' h'.length H' ρ' σ'->RelDL G μ' h'.length H' xs' vs'->K σ' H' vs'):
  sU J (tG G st) (jS G E test) (tI G inner) K σ H1 vs:=by
 refine⟨λi m σ H vs=>∃μ2 ρ2 h2 xs2,Ext μ1 h1.length H1 μ2 h2.length H/\RelS G μ2 h2.length H ρ2 σ/\Sim G μ2 h2 H/\RelDL G μ2 h2.length H xs2 vs/\i+m=src.n/\gJ src st test inner m i ρ2 h2 xs2=.ok (ρ',xs') h',⟨src.n,μ1,ρ,h1,xs,Ext.refl,rs,s1,r,Nat.zero_add _,e⟩, ?_⟩
 rintro i m σ2 H2 vs2 ⟨μ2,ρ2,h2,xs2,x2,rs2,s2,r2,him,e2⟩
 cases m with
 |zero=>
  unfold gJ at e2
  split at e2
  ·rename_i hf;cases e2;exact .inl ⟨(ok i μ2 _ H2 x2 s2).2 (by omega) hf,k μ2 H2 σ2 vs2 x2 s2 rs2 r2⟩
  ·cases e2
 |succ m=>
  unfold gJ at e2
  cases q:src.get i h2 with
  |none=>rw[q]at e2;cases e2
  |some d=>
   rw[q]at e2;dsimp only at e2
   cases q2:st d ρ2 with
   |none=>rw[q2]at e2;cases e2
   |some ρ3=>
    rw[q2]at e2;dsimp only at e2;obtain⟨go,yl⟩:=(ok i μ2 h2 H2 x2 s2).1 (by omega) d q;refine .inr ⟨go,λσ' H' vs'=>∃μ3 ρ4 h4 xs4,Ext μ1 h1.length H1 μ3 h4.length H'/\RelS G μ3 h4.length H' ρ4 σ'/\Sim G μ3 h4 H'/\RelDL G μ3 h4.length H' xs4 vs'/\(i+1)+m=src.n/\gJ src st test inner m (i+1) ρ4 h4 xs4=.ok (ρ',xs') h',
     λσ' H' vs' z=>⟨m,jo m,z⟩,λx H' hy=>?_⟩
    obtain⟨sm,rx⟩:=yl x H' hy;have xsm:Ext μ2 h2.length H2 μ2 h2.length H':=Ext.same sm;refine⟨μ2,ρ2,h2.length,d,ρ3,rs2.mono xsm,rx,q2,λσ3 rs3=>⟨μ2,ρ3,h2,rs3,s2.same sm, ?_⟩⟩
    cases q3:test ρ3 h2 with
    |bad=>rw[q3]at e2;cases e2
    |ex c h3=>rw[q3]at e2;cases e2
    |ok b h3=>
     rw[q3]at e2;intro μ4 H4 b' x4 s4 rb;have eb:b'=b:=rb;subst eb
     cases b' with
     |false=>rw[if_neg (by decide)];exact⟨μ4,ρ3,h3,xs2,(x2.trans xsm).trans x4,rs3.mono x4,s4,RelDL.mono (xsm.trans x4) _ _ r2,by omega,e2⟩
     |true=>
      rw[if_pos rfl];dsimp only at e2
      cases q4:inner ρ3 h3 xs2 with
      |bad=>rw[q4]at e2;cases e2
      |ex c h5=>rw[q4]at e2;cases e2
      |ok rr h5=>rw[q4]at e2;obtain⟨ρ5,xs5⟩:=rr;exact⟨μ4,ρ3,h3,xs2,ρ5,xs5,h5,rs3.mono x4,s4,RelDL.mono (xsm.trans x4) _ _ r2,q4,λμ6 H6 σ6 vs6 x6 s6 rs6 r6=>⟨μ6,ρ5,h5,xs5,((x2.trans xsm).trans x4).trans x6,rs6,s6,r6,by omega,e2⟩⟩
theorem UY {E:XK}{mi:M Src}{st:cU}{test:M Bool}{inner:MC}{σ:St}{H:Hp}{vs:List V}{K:St->Hp->List V->Prop}(t:tI G (nB mi st test inner) σ H vs K):G8 (A9 G E mi) (tG G st) (jS G E test) (tI G inner) σ H vs K:=by
 obtain⟨μ,ρ,h,xs,ρ',xs',h',rs,s,r,e,k⟩:=t;refine⟨μ,ρ,h,rs,s, ?_⟩;unfold nB at e
 cases q:mi ρ h with
 |bad=>rw[q]at e;cases e
 |ex c h1=>rw[q]at e;cases e
 |ok src h1=>rw[q]at e;exact λμ1 H1 J x1 s1 ok=>HY ok (rs.mono x1) s1 (RelDL.mono x1 _ _ r) e λμ2 H2 σ2 vs2 x2=>k μ2 H2 σ2 vs2 (x1.trans x2)
def RL (G:Cfg):(Nat->ah)->Nat->Hp->List Dv->V->Prop:=λμ n H xs v=>∃p vs,v=.ref p/\H p=some (.lst vs)/\(∀i,i<n->μ i≠p)/\RelDL G μ n H xs vs
def wH (G:Cfg) (E:XK) (m:M (List Dv)):TE:=λσ H Q=>∃μ ρ h,RelS G μ h.length H ρ σ/\Sim G μ h H/\Out G E μ h.length H (m ρ h) (RL G) Q
def nC (X:Cx) (G:Cfg) (E:XK) (pe:bj) (m:M (List Dv)):Prop:=X.K=G.K->PE X pe (wH G E m)
theorem Sim.adopt {μ:Nat->ah}{h:Hs}{H:Hp}{p:ah}{ds:List Dv}{vs:List V}(s:Sim G μ h H) (e:H p=some (.lst vs)) (hq:∀i,i<h.length->μ i≠p) (r:RelDL G μ h.length H ds vs):
  Ext μ h.length H (λi=>if i=h.length then p else μ i) (h++[Ob.lst ds]).length H/\Sim G (λi=>if i=h.length then p else μ i) (h++[.lst ds]) H:=by
 have hl:(h++[Ob.lst ds]).length=h.length+1:=by simp
 have x:Ext μ h.length H (λi=>if i=h.length then p else μ i) (h++[Ob.lst ds]).length H:=⟨by omega,λi hi=>if_neg (bf hi),λa o _ e=>e⟩
 refine⟨x,λi j hi hj e=>?_,λi o q=>?_,s.tab⟩
 ·rw[hl]at hi hj
  by_cases h1:i=h.length <;> by_cases h2:j=h.length
  ·omega
  ·rw[if_pos h1,if_neg h2]at e;exact absurd e.symm (hq j (by omega))
  ·rw[if_neg h1,if_pos h2]at e;exact absurd e (hq i (by omega))
  ·rw[if_neg h1,if_neg h2]at e;exact s.inj i j (by omega) (by omega) e
 ·by_cases h1:i<h.length
  ·rw[dk h1]at q;have r1:=s.ob i o q
   cases o with
   |lst xs=>obtain⟨ws,e1,r2⟩:=r1;exact⟨ws,by rw[if_neg (bf h1)];exact e1,RelDL.mono x _ _ r2⟩
  ·rw[dy (by omega)]at q;have h2:i=h.length:=by have:=(ba.mp q).1;simp at this;omega
   subst h2;simp at q;subst q;exact⟨vs,by rw[if_pos rfl];exact e,RelDL.mono x _ _ r⟩
def dG (m:M (List Dv)):M Dv:=λρ h=>(m ρ h).bind λxs h1=>.ok (.ref h1.length) (h1++[.lst xs])
theorem UZ {E:XK}{m:M (List Dv)}{σ:St}{H:Hp}{Q:VK}(t:gH G E (dG m) σ H Q):wH G E m σ H Q:=by obtain⟨μ,ρ,h,rs,s,o⟩:=t;refine⟨μ,ρ,h,rs,s,(o.bind (R1:=RL G)).mono λv H1 ⟨μ1,xs,h1,x1,s1,⟨p,vs,ev,e1,hq,r1⟩,o1⟩=>?_⟩;subst ev;obtain⟨x2,s2⟩:=s1.adopt e1 hq r1;exact o1 _ _ _ x2 s2 ⟨by simp,by show V.ref p=V.ref (if h1.length=h1.length then p else μ1 h1.length);rw[if_pos rfl]⟩
theorem qZ {X:Cx}{E:XK}{pe:bj}{m:M (List Dv)}(h:nC X G E pe m):aI X G E pe (dG m):=λhK=>PE.imp (h hK) λ_ _ _ t=>UZ t
theorem HZ {E E':XK}{mi:M Src}{cap:List (Option Nat)}{st:cU}{test:M Bool}{inner:MC}{σ:St}{H:Hp}{Q:VK}(t:wH G E (cD mi cap st test inner) σ H Q):G9 (A9 G E mi) cap (tG G st) (jS G E' test) (tI G inner) σ H Q:=by
 obtain⟨μ,ρ,h,rs,s,o⟩:=t;refine⟨μ,ρ,h,rs,s,(o.bind (R1:=ItOk G)).mono λJ H1 ⟨μ1,src,h1,x1,s1,ok,o1⟩=>?_⟩
 cases q:gJ src st test inner src.n 0 (lO cap ρ) h1 []with
 |bad=>rw[q]at o1;exact o1.elim
 |ex c h2=>rw[q]at o1;exact o1.elim
 |ok r h2=>rw[q]at o1;obtain⟨ρ',xs'⟩:=r;refine HY ok (UX (rs.mono x1) cap) s1 RelDL.nil q λμ2 H2 σ2 vs2 x2 s2 rs2 r2 p hp=>?_;exact o1 μ2 _ _ (x2.trans (Ext.same (cL hp))) (s2.same (cL hp)) ⟨p,vs2,rfl,cK,s2.not hp,RelDL.mono (Ext.same (cL hp)) _ _ r2⟩
end
section
variable{X:Cx}{G:Cfg}{E:XK}{elt tg iter tg' iter':bj}{ifs ifs':List bj}{sc:gw}{ps pos:Pos}{mi mi':M Src}{st st':cU}{test test':M Bool}{me:M Dv}{N:List Str}{cap:List (Option Nat)}
def tJ (X:Cx) (G:Cfg) (ifs:List bj) (m:M Bool):Prop:=X.K=G.K->PTs X ifs (jS G E0 m)
theorem PTs.imp {Y:Cx}{ifs:List bj}{t t':TT}(h:PTs Y ifs t) (i:∀σ H Q,t' σ H Q->t σ H Q):PTs Y ifs t':=λpins s σ H Q I q=>h pins s σ H Q I (i σ H Q q)
theorem lQ {Y:Cx}:tJ Y G [] dJ:=λ_=>PTs.imp TV λσ H Q ⟨μ,ρ,h,rs,s,o⟩=>o.val s rfl
theorem tK {Y:Cx}{c:bj}{m:M Bool}(h:fY Y G E0 c m):tJ Y G [c] m:=λhK=>TX (h hK)
theorem PCl.imp {Y:Cx}{D:ah}{m:Sem Unit}{t t':TC}(h:PCl Y D m t) (i:∀σ H xs K,t' σ H xs K->t σ H xs K):PCl Y D m t':=λpins s σ H xs K I a f q=>h pins s σ H xs K I a f (i σ H xs K q)
theorem jF (hc:X.calm=true) (C:CapOk X sc N cap) (hi:lN X G E tg iter mi) (hg:∀s H ex,mZ (dY X sc N s H ex) G tg st) (htt:∀s H ex,tJ (dY X sc N s H ex) G ifs test) (hel:∀s H ex,aI (dY X sc N s H ex) G E0 elt me)
  (hs:∀x,foldedSetIterable iter X.env x=pure x:=by intro _;rfl):nC X G E (.ListComp elt [⟨tg,iter,ifs,0⟩] sc ps) (cD mi cap st test (bX me)):=λhK=>
 PE.imp (HC hc C rfl (λit D env=>TY elt tg iter ifs sc ps (.ref it) D env) (hi hK) (λs H ex=>hg s H ex hK) (λs H ex=>htt s H ex hK) (λs H ex D=>PCl.imp (G4 (hel s H ex hK)) λ_ _ _ _ t=>HX t) hs) λ_ _ _ t=>HZ t
theorem VA (hc:X.calm=true) (C:CapOk X sc N cap) (hi:lN X G E tg iter mi) (hg:∀s H ex,mZ (dY X sc N s H ex) G tg st) (htt:∀s H ex,tJ (dY X sc N s H ex) G ifs test)
  (hi':∀s H ex,lN (dY X sc N s H ex) G E0 tg' iter' mi') (hg':∀s H ex,mZ (dY X sc N s H ex) G tg' st') (htt':∀s H ex,tJ (dY X sc N s H ex) G ifs' test') (hel:∀s H ex,aI (dY X sc N s H ex) G E0 elt me)
  (hs:∀x,foldedSetIterable iter X.env x=pure x:=by intro _;rfl) (hs':∀s H ex x,foldedSetIterable iter' (dY X sc N s H ex).env x=pure x:=by intro _ _ _ _;rfl):
  nC X G E (.ListComp elt [⟨tg,iter,ifs,0⟩,⟨tg',iter',ifs',0⟩] sc ps) (cD mi cap st test (nB mi' st' test' (bX me))):=λhK=>
 PE.imp (HC hc C rfl (inner:=λD env=>sV iter' (.ListComp elt [⟨tg,iter,ifs,0⟩,⟨tg',iter',ifs',0⟩] sc ps) 1 D env) (λit D env=>TZ elt tg iter tg' iter' ifs ifs' sc ps (.ref it) D env) (hi hK) (λs H ex=>hg s H ex hK) (λs H ex=>htt s H ex hK)
  (λs H ex D=>PCl.imp (T3 (X:=dY X sc N s H ex) (D:=D) (gens:=[⟨tg,iter,ifs,0⟩,⟨tg',iter',ifs',0⟩]) (d:=1) rfl hc rfl (λit=>T1 elt tg iter tg' iter' ifs ifs' sc ps (.ref it) D _) (hi' s H ex hK) (hg' s H ex hK) (htt' s H ex hK) (PCl.imp (G4 (hel s H ex hK)) λ_ _ _ _ t=>HX t) (hs' s H ex)) λ_ _ _ _ t=>UY t) hs) λ_ _ _ t=>HZ t
end
def dM (T:ah) (h:cx):Prop:=∃oT ts,h.get? T=some oT/\oT.data=.fields ts/\ts[3]?=some .none
structure Chg (fs:List ah) (e T:ah) (h h':cx):Prop where
 new:h.objs.size<=T
 keep:∀b o,b≠e->b∉fs->h.get? b=some o->h'.get? b=some o
 slot:∀b o,b≠e->h.get? b=some o->∃sl,h'.get? b=some { o with slots:=sl }
 tb:dM T h'
theorem VB (f:Array af->Array af) (o:Obj):(Obj.mapFields f o).dict=o.dict:=by
 unfold Obj.mapFields
 split <;> rfl
section
variable{M:wk}{A:cn}{E:af->ag->Prop}{s:ag}
theorem BA {a:ah}{o:Obj}{vs:Array af}{i:Nat}{v:af}{Q:Unit->ag->Prop}(e:s.heap.get? a=some o) (hd:o.data=.fields vs) (hi:i<vs.size)
  (k:∀h' o',ij a s.heap h'->h'.get? a=some o'->o'.cls=o.cls->o'.dict=o.dict->o'.data=.fields (vs.setIfInBounds i v)->Q () { s with heap:=h' }):wpAny M A (setField (.ref a) i v) Q E s:=
 have d':=um hd (·.setIfInBounds i v)
 Ba e hd hi (k _ _ (nc ..) (nj _ e (Bk d')) (Obj.cls_mapFields ..) (VB ..) d')
theorem VC {head v:af}{L:Int}{pl:List af}{Q:af->ag->Prop}(hpl:IsPlace pl) (k:∀ob ts,ob.data=.fields ts->3<ts.size->ob.isFreed=false->Q (.ref s.heap.objs.size) { s with heap:=s.heap.push ob }):
  wpAny M A (zk head v .none (rawInt L) .none pl) Q E s:=
 fj (k _ _ rfl (by simp only[au,br,cp,je];omega) rfl) (hpl.sizeOk5 ..)
theorem IA {e T:ah}{oe oT:Obj}{vs ts:Array af}{Q:Unit->ag->Prop}(he:s.heap.get? e=some oe) (hd:oe.data=.fields vs) (h1:vs[1]?=some (.ref T)) (hT:s.heap.get? T=some oT) (hdT:oT.data=.fields ts) (hs:3<ts.size)
  (k:∀h',ij T s.heap h'->dM T h'->Q () { s with heap:=h' }):wpAny M A (setFlight (.ref e) none) Q E s:=by
 refine aa (fv he hd h1 ?_);show wpAny M A (if(gu T != jn)=true then _ else _) Q E s;rw[if_pos (by simp)];exact BA hT hdT hs λh' o' sb g _ _ d=>k h' sb ⟨o',_,g,d,by rw[iu hs];rfl⟩
theorem IB {base:cx}{l:List Env}{a:ah}{o:Obj}{vs:Array af}(hl:s.heap.FunFrames base l) (e:s.heap.get? a=some o) (hd:o.data=.fields vs):a∉dD l:=λhm=>by obtain⟨_,o',e',nf⟩:=hl.mem hm;rw[e]at e';cases e';exact nf vs hd
theorem IC {base:cx}{env:Env}{outer:List Env}{L e:ah}{oe:Obj}{vs:Array af}{head a0:af}{nx:Bool}{Q:Unit->ag->Prop}(hfr:A.frames=some (env::outer)) (hl:s.heap.FunFrames base (env::outer)) (hf:env.frame=some L)
  (he:s.heap.get? e=some oe) (hd:oe.data=.fields vs) (hdn:oe.dict=none) (hsz:1<vs.size) (h0:vs[0]?=some a0)
  (k:∀h' T,Chg (dD (env::outer)) e T s.heap h'->dF oe.cls e T a0 h'->Q () { s with heap:=h' }):
  wpAny M A (do let a <-frameOf env;let pl <-entryPlaceOf L nx;let b <-zk head a .none (rawInt L) .none pl;setField (.ref e) 1 b)
   (λ_ s'=>wpAny M A (setFlight (.ref e) none) Q E s') E s:=by
 have ne:=IB hl he hd;refine aa (wpAny_frameOf_fun hfr hl hf λg1 so=>aa (wpAny_entryPlaceOf λpl hpl=>aa (VC hpl λob ts dt hts nf=>?_)));have e1:g1.get? e=some oe:=(so.2.1 e ne).trans he;have lt:e<g1.objs.size:=av e1;refine BA (s:={ s with heap:=g1.push ob }) (aj _ e1) hd hsz λg2 oe2 sb2 ge c2 dn2 d2=>?_;have gT:g2.get? g1.objs.size=some ob:=sb2.extBut _ _ (jw lt) (az _ nf);refine IA (s:={ s with heap:=g2 }) ge d2 (T:=g1.objs.size) (by rw[iu hsz]) gT dt hts λg3 sb3 tb=>?_;have kp:∀b o,b≠e->g1.get? b=some o->g3.get? b=some o:=λb o hb q=>sb3.extBut _ _ (bf (av q)) (sb2.extBut _ _ hb (aj _ q));refine k g3 g1.objs.size ⟨mz so.1.symm,λb o hb hn q=>kp b o hb ((so.2.1 b hn).trans q),λb o hb q=>?_,tb⟩ ⟨oe2,_,sb3.extBut _ _ (bf lt) ge,c2,d2, ?_, ?_,dn2.trans hdn⟩
 ·obtain⟨sl,q'⟩:=so.2.2 b o q;exact⟨sl,kp b _ hb q'⟩
 ·rw[Array.getElem?_setIfInBounds_ne (by decide)];exact h0
 ·rw[iu hsz]
theorem VD {base:cx}{env:Env}{outer:List Env}{L e:ah}{oe:Obj}{vs:Array af}{a0:af}{Q:Unit->ag->Prop}(hfr:A.frames=some (env::outer)) (hl:s.heap.FunFrames base (env::outer)) (hf:env.frame=some L)
  (he:s.heap.get? e=some oe) (hd:oe.data=.fields vs) (hdn:oe.dict=none) (h0:vs[0]?=some a0) (h1:vs[1]?=some .none)
  (k:∀h' T,Chg (dD (env::outer)) e T s.heap h'->dF oe.cls e T a0 h'->Q () { s with heap:=h' }):
  wpAny M A (noteFrame (.ref e) env) (λ_ s'=>wpAny M A (setFlight (.ref e) none) Q E s') E s:=by
 unfold noteFrame;rw[hf];refine aa (fv he hd h1 ?_);exact IC hfr hl hf he hd hdn (dh.mp h1).1 h0 k
theorem VE {base:cx}{env:Env}{outer:List Env}{L e T:ah}{C a0:af}{Q:Unit->ag->Prop}(hfr:A.frames=some (env::outer)) (hl:s.heap.FunFrames base (env::outer)) (hf:env.frame=some L)
  (hx:dF C e T a0 s.heap) (ht:dM T s.heap) (hne:T≠e)
  (k:∀h' T',s.heap.objs.size<=T'->(∀b o,b≠e->b≠T->b∉dD (env::outer)->s.heap.get? b=some o->h'.get? b=some o)->(∀b o,b≠e->b≠T->s.heap.get? b=some o->∃sl,h'.get? b=some { o with slots:=sl })->
   dF C e T' a0 h'->dM T h'->dM T' h'->Q () { s with heap:=h' }):
  wpAny M A (noteFrame (.ref e) env) (λ_ s'=>wpAny M A (setFlight (.ref e) none) Q E s') E s:=by
 obtain⟨oe,vs,he,rfl,hd,h0,h1,hdn⟩:=hx;obtain⟨oT,ts,hT,hdT,h3⟩:=ht;have l3:3<ts.size:=(dh.mp h3).1;have nT:=IB hl hT hdT;unfold noteFrame;rw[hf];refine aa (fv he hd h1 ?_);rw[if_pos (by simp)];refine aa (fv hT hdT h3 ?_);rw[if_neg (by simp[rawInt])];refine aa (BA hT hdT l3 λg o' sb gT _ _ dT=>?_);have hl':g.FunFrames base (env::outer):=hl.of_keeps λb o q nf=>⟨o,sb.extBut _ _ (λz=>by subst z;rw[hT]at q;cases q;exact nf ts hdT) q,rfl⟩
 refine IC (s:={ s with heap:=g }) hfr hl' hf (sb.extBut _ _ (de hne) he) hd hdn (dh.mp h1).1 h0 λh' T' c x=>?_;refine k h' T' (by rw[<-sb.1];exact c.new) (λb o n1 n2 n3 q=>c.keep b o n1 n3 (sb.extBut _ _ n2 q)) (λb o n1 n2 q=>c.slot b o n1 (sb.extBut _ _ n2 q)) x ⟨_,_,c.keep T _ hne nT gT,dT, ?_⟩ c.tb;rw[iu l3]
end
theorem BB {P:bg}{w:cq}{H:Hp}{h:cx}{a:ah}{o:HO}(x:ObjOk P w H h a o):∃ob,h.get? a=some ob:=by
 cases o with
 |lst xs=>obtain⟨_,_,_,_,e⟩:=x;exact⟨_,e⟩
 |tup xs=>obtain⟨_,_,_,ob,e,_⟩:=x;exact⟨_,e⟩
 |dK kvs=>obtain⟨_,_,_,_,o,_,_,e,_⟩:=x;exact⟨_,e⟩
 |dT kvs=>obtain⟨_,_,_,_,o,_,_,e,_⟩:=x;exact⟨_,e⟩
 |set S n=>obtain⟨o,_,_,_,e,_⟩:=x;exact⟨_,e⟩
 |ins C dx fs=>obtain⟨_,_,_,e,_⟩:=x;exact⟨_,e⟩
 |own y=>exact x
 |xd fs=>obtain⟨_,⟨_,_,_,e,_⟩,_⟩:=x;exact⟨_,e⟩
 |rng lo hi=>obtain⟨_,_,_,e⟩:=x;exact⟨_,e⟩
 |frz ob u=>obtain⟨e,_⟩:=x;exact⟨_,e⟩
 |tbl ps=>exact⟨_,(show h.get? a=some _ from x)⟩
 |met f y=>exact⟨_,(show h.get? a=some _ from x)⟩
 |ext φ=>obtain⟨_,e,_⟩:=x;exact e
def wI (base:cx) (H:Hp) (C:af) (e:ah):Prop:=∃T a0,H e=some (.ext (dF C e T a0))/\H T=some (.ext (dM T))/\base.get? e=none/\T≠e
def tL (e:ah) (H H':Hp):Prop:=∀b o,b≠e->H b=some o->H' b=some o
theorem VF {C a0:af}{e T:ah}{h1 h2:cx}(x:dF C e T a0 h1) (k:∀o,h1.get? e=some o->h2.get? e=some o):dF C e T a0 h2:=by obtain⟨oe,vs,he,r⟩:=x;exact⟨oe,vs,k oe he,r⟩
theorem VG {T:ah}{h1 h2:cx}(x:dM T h1) (k:∀o,h1.get? T=some o->h2.get? T=some o):dM T h2:=by obtain⟨oe,vs,he,r⟩:=x;exact⟨oe,vs,k oe he,r⟩
theorem ID {P:bg}{w:cq}{H:Hp}{h:cx}{C a0:af}{e T:ah}(x:dF C e T a0 h):ObjOk P w H h e (.ext (dF C e T a0)):=⟨x,(let ⟨oe,_,he,_⟩:=x;⟨oe,he⟩),λ_ _ y k=>VF y k⟩
theorem wJ {P:bg}{w:cq}{H:Hp}{h:cx}{T:ah}(x:dM T h):ObjOk P w H h T (.ext (dM T)):=⟨x,(let ⟨oe,_,he,_⟩:=x;⟨oe,he⟩),λ_ _ y k=>VG y k⟩
section
variable{P:bg}{w:cq}{M:wk}{A:cn}{E:af->ag->Prop}{s:ag}{H:Hp}{base:cx}{env:Env}{outer:List Env}{L e:ah}{C:af}
theorem BC {Q:Unit->ag->Prop}(hfr:A.frames=some (env::outer)) (hl:s.heap.FunFrames base (env::outer)) (hf:env.frame=some L) (hok:HOk P w H s.heap) (hfree:∀b∈dD (env::outer),H b=none) (fl:wI base H C e)
  (k:∀h' H',Un (dD (env::outer)) [] H H' s.heap h'->HOk P w H' h'->wI base H' C e->tL e H H'->Q () { s with heap:=h' }):
  wpAny M A (noteFrame (.ref e) env) (λ_ s'=>wpAny M A (setFlight (.ref e) none) Q E s') E s:=by
 obtain⟨T,a0,he,hT,hb,hne⟩:=fl;have xe:dF C e T a0 s.heap:=(show ObjOk P w H s.heap e _ from hok e _ he).1;have xt:dM T s.heap:=(show ObjOk P w H s.heap T _ from hok T _ hT).1;refine VE hfr hl hf xe xt hne λh' T' hnew keep slot x' t0 t'=>?_;have nT':H T'=none:=hok.fresh hnew;have eT':T'≠e:=(dX he nT').symm;have TT':T'≠T:=(dX hT nT').symm;have sx:tL e H (aQ (aQ H e (.ext (dF C e T' a0))) T' (.ext (dM T'))):=λb o hbe q=>by rw[bK (dX q nT'),bK hbe];exact q
 have ee:aQ (aQ H e (.ext (dF C e T' a0))) T' (.ext (dM T')) e=some (.ext (dF C e T' a0)):=by rw[bK (de eT'),cK]
 refine k h' (aQ (aQ H e (.ext (dF C e T' a0))) T' (.ext (dM T'))) ?_ ?_ ⟨T',a0,ee,cK,hb,eT'⟩ sx
 ·have free:∀b o,s.heap.get? b=some o->H b=none->aQ (aQ H e (.ext (dF C e T' a0))) T' (.ext (dM T')) b=none:=λb o q n=>by have h1:b≠T':=bf (aw (av q) hnew);have h2:b≠e:=(dX he n).symm;rw[bK h1,bK h2];exact n
  refine⟨λb o q n hb _=>keep b o (dX he n).symm (dX hT n).symm hb q,λb o q n _ _=>slot b o (dX he n).symm (dX hT n).symm q,λb o q n _=>free b o q n,λb o q _=>?_,λb xs q=>?_,λb o u q=>?_,λb ps q=>?_⟩
  ·by_cases h1:b=e
   ·subst h1;obtain⟨oe,_,z,_⟩:=x';exact⟨oe,z⟩
   ·by_cases h2:b=T
    ·subst h2;obtain⟨oe,_,z,_⟩:=t0;exact⟨oe,z⟩
    ·obtain⟨sl,z⟩:=slot b o h1 h2 q;exact⟨_,z⟩
  ·exact sx b _ (nY q he (by intro z;cases z)) q
  ·exact sx b _ (nY q he (by intro z;cases z)) q
  ·exact⟨#[],by rw[sx b _ (nY q he (by intro z;cases z)) q];simp⟩
 ·intro a o q
  by_cases h1:a=T'
  ·subst h1;rw[cK]at q;cases q;exact wJ t'
  ·rw[bK h1]at q
   by_cases h2:a=e
   ·subst h2;rw[cK]at q;cases q;exact ID x'
   ·rw[bK h2]at q
    by_cases h3:a=T
    ·subst h3;rw[hT]at q;cases q;exact wJ t0
    ·have nf:a∉dD (env::outer):=λz=>by rw[hfree a z]at q;cases q
     refine(hok a o q).stay (λb u hb z=>?_) (λb z=>sx b _ (nY z he (by intro y;cases y)) z) λb xs z=>sx b _ (nY z he (by intro y;cases y)) z
     rcases hb with rfl|hb
     ·exact keep b u h2 h3 nf z
     ·exact keep b u (nY hb he (by intro y;cases y)) (nY hb hT (by intro y;cases y)) (λy=>by rw[hfree b y]at hb;cases hb) z
theorem IE {Q:Unit->ag->Prop}{h0:cx}{args:List af}(hfr:A.frames=some (env::outer)) (hl:h0.FunFrames base (env::outer)) (hf:env.frame=some L) (hok:HOk P w H h0) (hfree:∀b∈dD (env::outer),H b=none) (hsb:∀b o,base.get? b=some o->h0.get? b=some o)
  (mx:Heap.MadeExcOf h0 s.heap e C args)
  (k:∀h' H',Un (dD (env::outer)) [] H H' h0 h'->HOk P w H' h'->wI base H' C e->Same H H'->Q () { s with heap:=h' }):
  wpAny M A (noteFrame (.ref e) env) (λ_ s'=>wpAny M A (setFlight (.ref e) none) Q E s') E s:=by
 obtain⟨t,he,hnt,ht⟩:=mx.there;have hbn:base.get? e=none:=by
  cases q:base.get? e with
  |none=>rfl
  |some o=>have:=hsb e o q;rw[mx.new]at this;cases this
 have nH:H e=none:=by
  cases q:H e with
  |none=>rfl
  |some o=>
   have z:∀a o,H a=some o->h0.get? a≠none:=λa o q n=>by
    have lt:=hok.lt q;have:=(hok a o q)
    have ex:∃ob,h0.get? a=some ob:=BB this;obtain⟨ob,eo⟩:=ex;rw[n]at eo;cases eo
   exact absurd mx.new (z e o q)
 have hl1:s.heap.FunFrames base (env::outer):=hl.of_keeps λb o hb _=>⟨o,mx.keeps b o hb,rfl⟩
 refine VD hfr hl1 hf he rfl rfl (a0:=.ref t) rfl rfl λh' T c x=>?_;have ne_e:∀b o,h0.get? b=some o->b≠e:=λb o q z=>by subst z;rw[mx.new]at q;cases q
 have lt0:∀b o,h0.get? b=some o->b<T:=λb o q=>aw (av (mx.keeps b o q)) c.new;have nT:H T=none:=by
  cases q:H T with
  |none=>rfl
  |some o=>obtain⟨ob,eo⟩:=BB (hok T o q);exact absurd (lt0 T ob eo) (gh _)
 have eT:T≠e:=jw (aw (av he) c.new);have sm:Same H (aQ (aQ H e (.ext (dF C e T (.ref t)))) T (.ext (dM T))):=λb o q=>by rw[bK (dX q nT),bK (dX q nH)];exact q
 refine k h' (aQ (aQ H e (.ext (dF C e T (.ref t)))) T (.ext (dM T))) ?_ ?_ ⟨T,.ref t,by rw[bK (de eT),cK],cK,hbn,eT⟩ sm
 ·refine⟨λb o q n hb _=>c.keep b o (ne_e b o q) hb (mx.keeps b o q),λb o q n _ _=>c.slot b o (ne_e b o q) (mx.keeps b o q),λb o q n _=>?_,λb o q _=>?_,λb xs q=>sm b _ q,λb o u q=>sm b _ q,λb ps q=>⟨#[],by rw[sm b _ q];simp⟩⟩
  ·rw[bK (bf (lt0 b o q)),bK (ne_e b o q)];exact n
  ·obtain⟨sl,z⟩:=c.slot b o (ne_e b o q) (mx.keeps b o q);exact⟨_,z⟩
 ·intro a o q
  by_cases h1:a=T
  ·subst h1;rw[cK]at q;cases q;exact wJ c.tb
  ·rw[bK h1]at q
   by_cases h2:a=e
   ·subst h2;rw[cK]at q;cases q;exact ID x
   ·rw[bK h2]at q;have nf:a∉dD (env::outer):=λz=>by rw[hfree a z]at q;cases q
    refine(hok a o q).stay (λb u hb z=>?_) (λb z=>sm b _ z) λb xs z=>sm b _ z
    rcases hb with rfl|hb
    ·exact c.keep b u (ne_e b u z) nf (mx.keeps b u z)
    ·exact c.keep b u (ne_e b u z) (λy=>by rw[hfree b y]at hb;cases hb) (mx.keeps b u z)
end
def bO (P:bg) (w:cq) (base:cx):mT:=λouter H s E u s'=>∃e C H',u=.ref e/\s'.os=s.os/\rp s'.gens/\Un (dD outer) [] H H' s.heap s'.heap/\HOk P w H' s'.heap/\wI base H' C e/\E u none H'
def VH (X:Cx) (E:XK):Prop:=∀(pins:List (ah×Obj)) (σ:St) (H:Hp) (s:ag) (h':cx) (e:ah) (C:af) (args:List af),Inv X pins σ H s->Heap.MadeExcOf s.heap h' e C args->
 (∀H',Same H H'->(∃T a0,H' e=some (.ext (dF C e T a0)))->E (.ref e) none H')->X.xe (.ref e) { s with heap:=h' }
structure Good (X:Cx) (G:Cfg) (E:XK) (k:Nat):Prop where
 calm:X.calm=true
 room:Room k X.A
 K:X.K=G.K
 pas:AL (bO X.prog X.w X.base) X E
 own:yj (model X.prog X.w) X.A X.env X.xe
 rais:VH X E
def BD (E:XK):Prop:=∀e H H',tL e H H'->(∃C T a0 T' a0',H e=some (.ext (dF C e T a0))/\(∃h,dF C e T a0 h)/\H' e=some (.ext (dF C e T' a0')))->E (.ref e) none H->E (.ref e) none H'
section
variable{P:bg}{w:cq}{K:ar}{mg:Str->Option af}{base:cx}{N:List Str}{qual:Str}{scope:gw}{f:ah}{cdv:af}{A:cn}{outer:List Env}{s0:ag}{H0:Hp}{E0:XK}{G:Cfg}{E:XK}{k:Nat}
theorem BE (hr:Room k (A.deeper (envOfC qual scope s0.heap.objs.size f cdv))) (hK:K=G.K) (hE:∀u H',E u none H'->E0 u none H') (hF:BD E):
  Good (gX (bO P w base) P w K mg base N qual scope f cdv A outer s0 H0 E0) G E k where
 calm:=rfl
 room:=hr
 K:=hK
 own:=Am
 pas:=by intro pins σ H s u s' I ⟨e,C,H',eu,os,bare,un,hok,fl,he⟩;subst eu;have I':=I.call' os un hok bare (λb z=>absurd z (by simp));refine aa (BC (P:=P) (w:=w) (H:=H') (base:=base) I'.ok.frames I'.stack rfl hok I'.stkFree fl λh'' H'' un2 hok2 fl2 sx=>?_);have I2:=I'.call (h':=h'') (g':=s'.gens) (d':=s'.drawn) (t':=s'.toks) un2 hok2 I'.bare (λb z=>absurd z (by simp));obtain⟨T,a0,h1,_⟩:=id fl;obtain⟨T2,a2,h3,_⟩:=id fl2;have xe1:dF C e T a0 s'.heap:=(show ObjOk P w H' s'.heap e _ from hok e _ h1).1;have:E (.ref e) none H'':=hF e H' H'' sx ⟨C,T,a0,T2,a2,h1,⟨_,xe1⟩,h3⟩ he;exact⟨e,C,H'',rfl,I2.os,I2.bare,I2.base,hok2,fl2,hE _ _ this⟩
 rais:=by intro pins σ H s h' e C args I mx he;refine aa (IE (P:=P) (w:=w) (H:=H) (base:=base) I.ok.frames I.stack rfl I.hok I.stkFree I.bk mx λh'' H'' un2 hok2 fl2 sm=>?_);have I2:=I.call (h':=h'') (g':=s.gens) (d':=s.drawn) (t':=s.toks) un2 hok2 I.bare (λb z=>absurd z (by simp));obtain⟨T2,a2,h3,_⟩:=id fl2;exact⟨e,C,H'',rfl,I2.os,I2.bare,I2.base,hok2,fl2,hE _ _ (he H'' sm ⟨T2,a2,h3⟩)⟩
theorem fV {X:Cx}{sc:gw}{N':List Str}{s:ag}{H:Hp}{ex:List ah}(g:Good X G E k):Good (dY X sc N' s H ex) G L2.E0 k where
 calm:=g.calm
 room:=g.room
 K:=g.K
 own:=PassesOwn.never
 pas:=λ_ _ _ _ _ _ _ ⟨_,_,_,_,_,_,_,_,_,z⟩=>z
 rais:=λ_ _ H s h' e C args I mx he=>by
  have nH:H e=none:=by
   cases q:H e with
   |none=>rfl
   |some o=>obtain⟨ob,eo⟩:=BB (I.hok e o q);rw[mx.new]at eo;cases eo
  exact he (aQ H e (.ext (dF C e 0 .none))) (cL nH) ⟨0,.none,cK⟩
def bU (n:Nat) (ds:List Dv):Ev:=ds.map some++xf (n - ds.length) none
def bL:Sr->Rs Dv
 | .rt d h=>.ok d h
 | .nx _ h=>.ok .non h
 | .ex c h=>.ex c h
 |_=>.bad
def aZ (np n:Nat) (mb:MS):List Dv->Hs->Rs Dv:=λds h=>if ds.length=np then bL (mb (bU n ds) h)else .bad
def cR (G:Cfg) (F:List Dv->Hs->Rs Dv):Sp:=λvs H Q E=>∃μ h ds,RelDL G μ h.length H ds vs/\Sim G μ h H/\Out G E μ h.length H (F ds h) (RelD G) Q
theorem IF {μ:Nat->ah}{n:Nat}{H:Hp}{ds:List Dv}{vs:List V}(r:RelDL G μ n H ds vs) (N:List Str):RelS G μ n H (bU N.length ds) (start N vs):=by
 have hl:=r.length;refine⟨by simp[bU,start,hl],λi d e=>?_⟩;unfold bU at e
 by_cases hi:i<ds.length
 ·rw[dk (by simpa using hi),dv]at e
  cases q:ds[i]? with
  |none=>rw[q]at e;cases e
  |some d'=>rw[q]at e;cases e;obtain⟨v,e1,r1⟩:=r.get q;refine⟨v, ?_,r1⟩;unfold start;rw[dk (by simp;omega),dv,e1];rfl
 ·rw[dy (by simpa using hi),qw]at e
  split at e <;> cases e
def EB (G:Cfg) (μ0:Nat->ah) (n0:Nat) (H0:Hp) (r:Sr):XK:=λu _ H'=>∃c h' μ',r=.ex c h'/\Ext μ0 n0 H0 μ' h'.length H'/\Sim G μ' h' H'/\vS G H' c u
theorem Sim.sameX {μ:Nat->ah}{h:Hs}{H H':Hp}{e:ah}(s:Sim G μ h H) (sx:tL e H H') (hx:∃φ,H e=some (.ext φ)):Sim G μ h H'/\∀(n:Nat),Ext μ n H μ n H':=by
 obtain⟨φ,hx⟩:=hx;have x:∀n:Nat,Ext μ n H μ n H':=λn=>⟨ak _,λ_ _=>rfl,λa o i q=>sx a o (by rintro rfl;rw[hx]at q;cases q;exact i) q⟩
 refine⟨⟨s.inj,λi o q=>?_,s.tab.keep λa o _ n2 q=>sx a o (by rintro rfl;rw[hx]at q;cases q;exact n2 _ rfl) q⟩,x⟩;have r:=s.ob i o q
 cases o with
 |lst xs=>obtain⟨vs,e1,r1⟩:=r;exact⟨vs,sx _ _ (nY e1 hx (by intro z;cases z)) e1,RelDL.mono (x _) _ _ r1⟩
theorem BF {μ0:Nat->ah}{n0:Nat}{H0:Hp}{r:Sr}:BD (EB G μ0 n0 H0 r):=by intro e H H' sx ⟨C,T,a0,T',a0',h1,⟨hp,hx⟩,h3⟩ ⟨c,h',μ',er,x,s,e',φ,eu,h4,h5⟩;cases eu;obtain⟨s2,x2⟩:=s.sameX sx ⟨_,h1⟩;refine⟨c,h',μ',er,x.trans (x2 _),s2,e,_,rfl,h3,λhh z=>?_⟩;rw[h1]at h4;cases h4;obtain⟨o,g1,g2⟩:=h5 hp hx;obtain⟨oe,vs,g3,g4,_⟩:=hx;rw[g3]at g1;cases g1;obtain⟨oe',vs',g5,g6,_⟩:=z;exact⟨oe',g5,by rw[g6,<-g4,g2]⟩
theorem eU {x qual:Str}{st:ig}{fd:bu}{ps:List Str}{mb:MS}(Fn:Fun K x qual st f fd) (S:FnScope N ps (bA st)) (hK:K=G.K)
  (hbody:∀(cdv:af) (A:cn) (outer:List Env) (s:ag) (H:Hp) (E₀ E:XK),Good (gX (bO P w base) P w K mg base N qual (bA st) f cdv A outer s H E₀) G E k->jE (gX (bO P w base) P w K mg base N qual (bA st) f cdv A outer s H E₀) G E (jR st) mb):
  FnOk P w K mg base (bO P w base) (k+1) f fd ps (cR G (aZ ps.length N.length mb)):=by
 obtain⟨oc,od,kV,doc,pm,an,cdv,ct,osl,rfl,lk,hcd⟩:=Fn.ex;have hlen:∀vs H Q E,cR G (aZ ps.length N.length mb) vs H Q E->vs.length=ps.length:=λvs H Q E ⟨μ,h,ds,r,sm,o⟩=>by
  rw[r.length];unfold aZ at o
  by_cases hd:ds.length=ps.length
  ·exact hd
  ·rw[if_neg hd]at o;exact o.elim
 refine AM lk hcd S hlen λA outer s H vs Q E hr hsp=>?_;have hl:=hlen _ _ _ _ hsp;obtain⟨μ,h,ds,r,sm,o⟩:=hsp;have o':Out G E μ h.length H (bL (mb (bU N.length ds) h)) (RelD G) Q:=by unfold aZ at o;rw[if_pos (by rw[<-r.length];exact hl)]at o;exact o
 refine⟨_,hbody cdv A outer s H E (EB G μ h.length H (mb (bU N.length ds) h)) (BE hr hK (λu H' ⟨c,h',μ',er,x,s',fl⟩=>?_) BF) hK, ?_⟩
 ·rw[er]at o';exact o' μ' H' u x s' fl
 ·refine⟨μ,bU N.length ds,h,IF r N,sm, ?_⟩
  cases q:mb (bU N.length ds) h with
  |bad=>rw[q]at o';exact o'.elim
  |bk ρ h'=>rw[q]at o';exact o'.elim
  |ct ρ h'=>rw[q]at o';exact o'.elim
  |rt d h'=>rw[q]at o';exact o'
  |nx ρ h'=>rw[q]at o';exact λμ' H' σ' x' s' rs'=>o' μ' H' .non x' s' rfl
  |ex c h'=>exact λμ' H' u x' s' fl=>⟨c,h',μ',rfl,x',s',fl⟩
theorem IG {X:Cx}{F:List Dv->Hs->Rs Dv}{ps:List Str}{fd:bu}{x:Str}{p pos:Pos}{e:bj}{es:List bj}{ms:M (List Dv)}{j:Nat}(g:Good X G E k) (Fn:FnOk X.prog X.w X.K X.mg X.base (bO X.prog X.w X.base) j f fd ps (cR G F)) (hj:j<=k)
  (hg:Gl X x) (hm:X.mg x=some (.ref f)) (hk:km X.K (.ref f)=true) (hb:Binds X.K fd ps []) (ha:cY X G E (e::es) ms)
  (hdb:(x==("__debug__" : Str))=false:=by decide) (he:ao (e::es) X.env=(false,eval e X.env)::ao es X.env:=by rfl) (hpl:(backTo pos (ao es X.env)).any (·.1)=false:=by rfl):
  aI X G E (.Call (.Name x p) (e::es) [] pos) (aD F ms):=λhK=>
 PE.imp (RY Fn (g.room.mono hj) hg hm hk hb .nil g.pas (ha hK) hdb he hpl) λσ H Q ⟨μ,ρ,h,rs,s,o⟩=>kK rs s o λμ1 ds1 h1 vs H1 x1 rs1 s1 r1 o1=>by rw[lh];exact⟨μ1,h1,ds1,r1,s1,o1⟩
end
abbrev wK:List af:=[.type "ValueError",.type "Exception",.type "BaseException",.type "object"]
theorem VI {K:ar}{mg:Str->Option af}{base:cx}(p:bg) (m:Mod K mg base):∃loose mb,PySem.W.TopRead p loose mg mb base:=by
 obtain⟨mb,hb,hbb⟩:=m.blt;obtain⟨o,es,ep,ho,hd,hk,hf⟩:=id m.glob;refine⟨es.toList.filterMap λe=>match e.key with
  | .str n _=>some n
  |_=>none,mb,m.glob,hb,m.nolimit,hbb,λx _ hx _ _ _=>?_⟩
 rw[<-hf x]
 cases q:nsFind es x with
 |none=>rfl
 |some v=>
  exfalso
  apply hx
  unfold nsFind findBy at q;obtain⟨e,he,_⟩:=Option.map_eq_some_iff.mp q;have h1:=Array.find?_some he;have h2:=Array.mem_of_find?_eq_some he;obtain⟨n,t,hn⟩:=hk e h2;rw[hn]at h1;have h3:n=x:=by simpa[Value.isStr]using h1
  exact gz.mpr ⟨e,by simpa using h2,by rw[hn,h3]⟩
section
variable{X:Cx}{G:Cfg}{E:XK}{k:Nat}{x:Str}{C:ah}{np cpos pos:Pos}{e:bj}{es:List bj}{t:TA}{ms:M (List Dv)}{c:Nat}
theorem VJ (g:Good X G E k) (hg:Gl X x) (hm:X.mg x=some (.ref C)) (hns:ug X.K df x=some (some (.ref C))) (hx:tm X.K C wK "ValueError.__new__" = true) (ha:PA X (e::es) t) (hd:(x==("__debug__" : Str))=false:=by decide)
  (he:ao (e::es) X.env=(false,eval e X.env)::ao es X.env:=by rfl) (hpl:(backTo cpos (ao es X.env)).any (·.1)=false:=by rfl):
  PS X (.Raise (some (.Call (.Name x np) (e::es) [] cpos)) none pos) (λ_ σ H=>t σ H λvs H1=>vs.length<=bp/\∀e H',Same H1 H'->(∃T a0,H' e=some (.ext (dF (.ref C) e T a0)))->E (.ref e) none H'):=by
 intro pins s σ H D I h;obtain⟨bm,N,nm,q,bs,hdct,sn,sub,ab,col,dd,k0,k1,k2,k3,k5,mN,hC,hN,hni,T⟩:=(let ⟨_,_,tr⟩:=VI X.prog I.ok.mod;PySem.W.own_of_in I.ok.mod.kin tr hns hx).obj;refine wpAny_Raise_call_subU (C:=C) (nm:=nm) (q:=q) (N:=N) (bs:=bs) (bm:=bm) (hdct:=hdct) (sn:=sn) (sub:=sub) (ab:=ab) (col:=col) (dd:=dd) (k0:=k0) (k1:=k1) (k2:=k2) (k3:=k3) (k5:=k5)
  wc (by decide) wc (mN:=mN) (T.hasType (by decide)) (I.ok.hd g.calm) (by rw[he];show(false||(backTo cpos (ao es X.env)).any (·.1))=false;rw[hpl];rfl) hni (sH I hg hm ⟨rfl, ?_⟩ hd)
 have hh:=ha cpos pins s σ H _ I h;rw[he]at hh ⊢;refine tj (aW hh λus s2 ⟨vs,H2,I2,r,hz,w⟩=>⟨rfl,by rw[<-r.length];exact hz,I2.bk _ _ hC,hN.keeps I2.bk,T.keeps I2.bk,λh' e' mx=>?_⟩);exact g.rais pins σ H2 s2 h' e' _ _ I2 mx λH' sm z=>w e' H' sm z
theorem VL {H:Hp}{e:ah}(hc:C=G.cl c) (z:∃T a0,H e=some (.ext (dF (.ref C) e T a0))):vS G H c (.ref e):=by obtain⟨T,a0,z⟩:=z;exact⟨e,_,rfl,z,λh ⟨oe,vs,h1,h2,_⟩=>⟨oe,h1,by rw[h2,hc]⟩⟩
def jG (c:Nat) (ms:M (List Dv)):MS:=λρ h=>(ms ρ h).thenS λds h1=>if ds.length<=1000 then .ex c h1 else .bad
theorem BG (g:Good X G E k) (hg:Gl X x) (hm:X.mg x=some (.ref C)) (hns:ug X.K df x=some (some (.ref C))) (hx:tm X.K C wK "ValueError.__new__" = true) (hc:C=G.cl c) (ha:cY X G E (e::es) ms) (hd:(x==("__debug__" : Str))=false:=by decide)
  (he:ao (e::es) X.env=(false,eval e X.env)::ao es X.env:=by rfl) (hpl:(backTo cpos (ao es X.env)).any (·.1)=false:=by rfl):
  iV X G E (.Raise (some (.Call (.Name x np) (e::es) [] cpos)) none pos) (jG c ms):=λhK=>PS.imp (VJ g hg hm hns hx (ha hK) hd he hpl) λD σ H ⟨μ,ρ,h,rs,s,o⟩=>
 ⟨μ,ρ,h,rs,s,(o.thenS (R:=RelDL G)).mono λvs H1 ⟨μ1,ds,h1,x1,s1,r1,o1⟩=>by
  split at o1
  ·rename_i hl;refine⟨by rw[r1.length];exact du hl (by decide),λe' H' sm z=>?_⟩;exact o1 μ1 H' (.ref e') (Ext.same sm) (s1.same sm) (VL hc z)
  ·exact o1.elim⟩
end
open PySem.W
section
variable{prog:bg}{w:cq}{A:cn}{E:af->ag->Prop}{h:cx}{g:Array GenState}{d:Drawn}{t:Nat}{os:OsState}{a C:ah}{o:Obj}{K:Frag}
structure ExK (K:Frag) (C:ah):Prop where
 ga:findIn K (.ref C) "__getattribute__" = some (some (.builtin "BaseException.__getattribute__"))
 ng:findIn K (.ref C) "__getattr__" = some none
 cl:findIn K (.ref C) "__class__" = some (some (.builtin "object.__class__"))
 ob:mroIn K C (.type "object")=some true
 be:subIn K (.ref C) (.type "BaseException")=some true
 se:kitCls K (.ref C) (.ref C)=some true
 lk:∃oc od cd osl,K.lookup C=some ⟨oc,od,.cls cd,osl⟩
theorem kindGa:builtinKind "BaseException.__getattribute__" = some .slot/\splitId "BaseException.__getattribute__" = some ("BaseException","__getattribute__"):=by decide +kernel
theorem VM:(ua "BaseException.__getattribute__" == ua "object.__getattribute__")=false:=by decide +kernel
section
variable{R:yk->ag->Prop}{s:ag}
theorem VN {M:wk}{n:af}{Q:Unit->ag->Prop}(X:K.In s.heap) (I:InstAt s.heap a o C none) (k:ExK K C) (hq:Q () s):wpAny M A (checkBuiltinCall "BaseException.__getattribute__" ⟨[.ref a,n],[]⟩) Q E s:=by
 have one:Looks M s.heap (isInstance (.ref a) (.type "BaseException")) true:=I.type.andThen (looks_subIn X k.be);have two:=F.args_bexc_ga (.ref a) n;obtain⟨hh,g,d,t,os⟩:=s;unfold checkBuiltinCall;rw[kindGa.1,kindGa.2];refine aa (one.at ?_)
 repeat (first|assumption|wp_step)
theorem VO {n:Tok}(X:K.In s.heap) (I:InstAt s.heap a o C none) (k:ExK K C) (hq:R (.ok (.ret (.ref C))) s):codeAny (model prog w) A (.call (.builtin "BaseException.__getattribute__") ⟨[.ref a,.str "__class__" n],[]⟩) R s:=by
 refine uq F.excAttr_ValueError.ga.plain F.entry_bexc_ga (VN X I k ?_);have own:=I.type (M:=model prog w);have entry:=looks_findIn (M:=model prog w) X k.cl;have of_get:=F.slot_gs_get.lookup;have of_set:=F.slot_gs_set.lookup;have kind:=F.typeOf_object_class;have kindIs:s.TypeIs (.builtin "object.__class__") "getset_descriptor" := kind;obtain⟨hh,g,d,t,os⟩:=s
 repeat (any_goals (first|assumption|with_reducible refine own.at ?_|with_reducible refine entry.at ?_|wp_step))
 exact class_get (s:=⟨hh,g,d,t,os⟩) X I k.ob (by repeat (any_goals (first|assumption|wp_step)))
end
theorem VP {Q:Option af->ag->Prop}(X:K.In h) (I:InstAt h a o C none) (k:ExK K C) (hq:Q (some (.ref C)) ⟨h,g,d,t+1,os⟩):
  wpAny (model prog w) A (getAttr? (.ref a) "__class__") Q E ⟨h,g,d,t,os⟩:=by
 have own:=I.type (M:=model prog w);have first_:=looks_findIn (M:=model prog w) X k.ga;have then_:=looks_findIn (M:=model prog w) X k.ng;have bound:=F.excAttr_ValueError.ga.bind (.ref a);have other:=VM;have apart:(onTheHeap (gu C)&&ua "BaseException.__getattribute__" == ua "object.__getattribute__")=false:=by rw[other];rfl
 unfold getAttr? getAttrBy?
 repeat (any_goals (first|assumption|with_reducible refine own.at ?_|with_reducible refine first_.at ?_|with_reducible refine then_.at ?_|wp_step))
 exact VO X I k (by repeat (any_goals (first|assumption|wp_step)))
def VQ (a C:ah) (h:cx):Prop:=∃o,InstAt h a o C none
theorem VR (k:ExK K C):KitX K (.ref a) (.ref C) (VQ a C) where
 ty:=λ_ _ _ ⟨_,I⟩=>I.type
 it:=λ_ _ X _=>(kit_cls X k.se).2.1
 ne:=λh tp dd its n sl X htp=>by
  cases z:(gu C==gu tp)with
  |false=>rfl
  |true=>
   obtain rfl:C=tp:=by simpa using z
   obtain⟨oc,od,cd,osl,lk⟩:=k.lk;have:=X _ _ lk;rw[htp]at this;simp at this
 ca:=λ{prog w A E Q s} X ⟨o,I⟩ hq=>by obtain⟨hh,g,d,t,os⟩:=s;exact VP X I k hq
end
inductive Ty where
 |non|bl|int|str|tup|lst|dct|exc (c:Nat)
def iA:Dv->Hs->Option Ty
 | .non,_=>some .non
 | .bl _,_=>some .bl
 | .int _,_=>some .int
 | .str _,_=>some .str
 | .tup _,_=>some .tup
 | .ref i,h=>match getL h i with
  |some _=>some .lst
  |none=>none
 | .edc,_=>some .dct
 | .exc c,_=>some (.exc c)
 | .scr,_=>none
def kP (cl:Nat->ah):Ty->af
 | .non=>.type "NoneType"
 | .bl=>.type "bool"
 | .int=>.type "int"
 | .str=>.type "str"
 | .tup=>.type "tuple"
 | .lst=>.type "list"
 | .dct=>.type "dict"
 | .exc c=>.ref (cl c)
def aU (f:Ty->Option Bool) (d:Dv) (h:Hs):Rs Dv:=match iA d h with
 |some ty=>match f ty with
  |some b=>.ok (.bl b) h
  |none=>.bad
 |none=>.bad
section
variable{X:Cx}{G:Cfg}{E:XK}{pins:List (ah×Obj)}{σ:St}{H:Hp}{s:ag}
theorem IH {μ:Nat->ah}{h:Hs}{d:Dv}{v:V}{u:af}{ty:Ty}(I:Inv X pins σ H s) (sm:Sim G μ h H) (r:RelD G μ h.length H d v) (ru:RelV v u) (e:iA d h=some ty) (hex:∀c,ty=.exc c->ExK X.K (G.cl c)):
  ∃P,KitX X.K u (kP G.cl ty) P/\P s.heap/\u≠.builtin "__main__.__loader__#opaque":=by
 cases d with
 |non=>cases e;rw[RelD]at r;subst r;cases ru;exact⟨_,kitx_none,trivial,λz=>nomatch z⟩
 |bl b=>cases e;rw[RelD]at r;subst r;cases ru;exact⟨_,kitx_bool,trivial,λz=>nomatch z⟩
 |int i=>cases e;rw[RelD]at r;subst r;obtain⟨t,rfl⟩:=ru;exact⟨_,kitx_int,trivial,λz=>nomatch z⟩
 |str i=>cases e;rw[RelD]at r;subst r;obtain⟨t,rfl⟩:=ru;exact⟨_,kitx_str,trivial,λz=>nomatch z⟩
 |tup ds=>
  cases e;obtain⟨a,vs,rfl,ea,_⟩:=r;cases ru;obtain⟨_,_,_,o,h1,h2,_⟩:=(show ObjOk X.prog X.w H s.heap a (.tup vs) from I.hok a _ ea)
  exact⟨_,kitx_tuple,⟨o,h1,h2⟩,λz=>nomatch z⟩
 |ref i=>
  dsimp only[iA]at e
  cases g:getL h i with
  |none=>rw[g]at e;cases e
  |some xs=>
   rw[g]at e;cases e;obtain⟨_,rfl⟩:=r;cases ru;obtain⟨vs,ea,_⟩:=sm.ob i _ (dH g);obtain⟨_,_,n,_,h1⟩:=(show ObjOk X.prog X.w H s.heap (μ i) (.lst vs) from I.hok _ _ ea)
   exact⟨_,kitx_list,⟨_,h1,rfl⟩,λz=>nomatch z⟩
 |edc=>
  cases e;obtain⟨a,rfl,ea⟩:=r;cases ru;obtain⟨_,_,vs,_,p⟩:=(show ObjOk X.prog X.w H s.heap a (.dK []) from I.hok a _ ea)
  obtain⟨o,es,ep,h1,h2,_⟩:=p;exact⟨_,kitx_dict,⟨o,h1,h2.1⟩,λz=>nomatch z⟩
 |exc c=>
  cases e;obtain⟨a,o,uo,rfl,ea,hc,hdn,vs,hd⟩:=r;cases ru;obtain⟨h1,_⟩:=(show ObjOk X.prog X.w H s.heap a (.frz o uo) from I.hok a _ ea)
  refine⟨_,VR (hex c rfl),⟨o,h1,hc, ?_, ?_⟩,λz=>nomatch z⟩
  ·unfold notCls;rw[hd]
  ·rw[hdn];trivial
 |scr=>cases e
end
section
variable{X:Cx}{G:Cfg}{E:XK}{a b:bj}{ma:M Dv}{p pos:Pos}{f:Ty->Option Bool}
theorem II:dg "isinstance" = some (.builtin "isinstance"):=by decide +kernel
def IJ (G:Cfg) (f:Ty->Option Bool) (c:V):List V->Hp->VK->Prop:=λxs H Q=>∃μ h d v ty bb,xs=[v,c]/\Sim G μ h H/\RelD G μ h.length H d v/\iA d h=some ty/\f ty=some bb/\Q (.bl bb) H
theorem VS {c:V}{u:af}(hc:(∃T,c=.ty T)∨∃C,c=.ref C) (rc:RelV c u) (hf:∀ty bb,f ty=some bb->kitOne X.K (kP G.cl ty) u=some bb) (hex:∀c bb,f (.exc c)=some bb->ExK X.K (G.cl c)):CallR X (.builtin "isinstance") (IJ G f c):=by
 intro pins s σ H xs us Q I rv ⟨μ,h,d,v,ty,bb,e1,sm,r,et,ef,q⟩;subst e1;obtain⟨u1,u2,rfl,r1,r2⟩:=sM rv;have e2:u2=u:=by rcases hc with⟨T,rfl⟩|⟨C,rfl⟩ <;> (cases rc;cases r2;rfl)
 subst e2;obtain⟨P,Z,hP,hne⟩:=IH I sm r r1 et (λc z=>by subst z;exact hex c bb ef);exact kia_one Z I.kIn hP (hf ty bb ef) hne λtk=>⟨.bl bb,H,I.tok _,rfl,q⟩
theorem oK {x:Str}{T:String}(hg:Gl X x) (hm:X.mg x=none) (hv:dg x=some (.type T)) (hn:x ≠ "__name__" := by decide) (hd:(x==("__debug__" : Str))=false:=by decide):PE X (.Name x pos) (tC (.ty T)):=λpins s σ H Q I h=>pO I hg hm hv ⟨.ty T,H,I,rfl,h⟩ hn hd
theorem pX {c:V}{u:af}(hg:Gl X "isinstance") (hm:X.mg "isinstance" = none) (ha:aI X G E a ma) (hb:PE X b (tC c)) (hc:(∃T,c=.ty T)∨∃C,c=.ref C) (rc:RelV c u)
  (hf:∀ty bb,f ty=some bb->kitOne G.K (kP G.cl ty) u=some bb) (hex:∀c bb,f (.exc c)=some bb->ExK G.K (G.cl c))
  (he:ao [a,b] X.env=[(false,eval a X.env),(false,eval b X.env)]:=by rfl) (he2:ao [b] X.env=[(false,eval b X.env)]:=by rfl):
  aI X G E (.Call (.Name "isinstance" p) [a,b] [] pos) (m1 (aU f) ma):=λhK=>
 PE.imp (sN (VS (G:=G) (f:=f) hc rc (by rw[hK];exact hf) (by rw[hK];exact hex)) hg hm II (gE (ha hK) (gE hb iG he2) (by rw[he,he2])) (by decide) (by decide) (by rw[he,he2]) (by rw[he2];rfl))
  λσ H Q ⟨μ,ρ,h,rs,s,o⟩=>cZ rs s o λμ1 d h1 v H1 x1 rs1 s1 r1 o1=>by
   show IJ G f c [v,c] H1 Q;unfold aU at o1
   cases q:iA d h1 with
   |none=>rw[q]at o1;exact o1.elim
   |some ty=>
    rw[q]at o1;dsimp only at o1
    cases q2:f ty with
    |none=>rw[q2]at o1;exact o1.elim
    |some bb=>rw[q2]at o1;exact⟨μ1,h1,d,v,ty,bb,rfl,s1,r1,q,q2,o1.val s1 rfl⟩
def IK (G:Cfg) (f:Ty->Option Bool) (cs:List V):List V->Hp->VK->Prop:=λxs H Q=>∃μ h d v ty bb tp,xs=[v,.ref tp]/\H tp=some (.tup cs)/\Sim G μ h H/\RelD G μ h.length H d v/\iA d h=some ty/\f ty=some bb/\Q (.bl bb) H
theorem VT {cs:List V}{us:List af}(hcs:∀us',Vals cs us'->us'=us) (hf:∀ty bb,f ty=some bb->kitAny X.K (kP G.cl ty) us=some bb) (hex:∀c bb,f (.exc c)=some bb->ExK X.K (G.cl c)):CallR X (.builtin "isinstance") (IK G f cs):=by
 intro pins s σ H xs uu Q I rv ⟨μ,h,d,v,ty,bb,tp,e1,etp,sm,r,et,ef,q⟩;subst e1;obtain⟨u1,u2,rfl,r1,r2⟩:=sM rv;cases r2;obtain⟨_,its,rits,o,h1,h2,_,n,h3⟩:=(show ObjOk X.prog X.w H s.heap tp (.tup cs) from I.hok tp _ etp)
 have eits:=hcs its rits;subst eits;obtain⟨oc,od,odata,osl⟩:=o
 cases h2;cases h3
 obtain⟨P,Z,hP,hne⟩:=IH I sm r r1 et (λc z=>by subst z;exact hex c bb ef);exact kia_tup Z I.kIn hP h1 (hf ty bb ef) hne λtk=>⟨.bl bb,H,I.tok _,rfl,q⟩
theorem VU {cs:List V}{us:List af}{bs:List bj}{kt:Nat}{tpos:Pos}(hg:Gl X "isinstance") (hm:X.mg "isinstance" = none) (ha:aI X G E a ma) (hb:PA X bs (λ_ H Q=>Q cs H)) (hl:cs.length<=bp) (hcs:∀us',Vals cs us'->us'=us)
  (hf:∀ty bb,f ty=some bb->kitAny G.K (kP G.cl ty) us=some bb) (hex:∀c bb,f (.exc c)=some bb->ExK G.K (G.cl c))
  (he:ao [a,.Tuple bs kt tpos] X.env=[(false,eval a X.env),(false,eval (.Tuple bs kt tpos) X.env)]:=by rfl) (he2:ao [.Tuple bs kt tpos] X.env=[(false,eval (.Tuple bs kt tpos) X.env)]:=by rfl):
  aI X G E (.Call (.Name "isinstance" p) [a,.Tuple bs kt tpos] [] pos) (m1 (aU f) ma):=λhK=>
 PE.imp (sN (VT (G:=G) (f:=f) hcs (by rw[hK];exact hf) (by rw[hK];exact hex)) hg hm II (gE (ha hK) (gE (F6 hb) iG he2) (by rw[he,he2])) (by decide) (by decide) (by rw[he,he2]) (by rw[he2];rfl))
  λσ H Q ⟨μ,ρ,h,rs,s,o⟩=>cZ rs s o λμ1 d h1 v H1 x1 rs1 s1 r1 o1=>by
   refine⟨hl,λtp htp=>?_⟩;show IK G f cs [v,.ref tp] (aQ H1 tp (.tup cs)) Q;unfold aU at o1
   cases q:iA d h1 with
   |none=>rw[q]at o1;exact o1.elim
   |some ty=>
    rw[q]at o1;dsimp only at o1
    cases q2:f ty with
    |none=>rw[q2]at o1;exact o1.elim
    |some bb=>rw[q2]at o1;have x2:Ext μ1 h1.length H1 μ1 h1.length (aQ H1 tp (.tup cs)):=Ext.same (cL htp);exact⟨μ1,h1,d,v,ty,bb,tp,rfl,cK,s1.same (cL htp),RelD.mono x2 _ _ r1,q,q2,o1 μ1 _ _ x2 (s1.same (cL htp)) rfl⟩
end
def oO:Dv->Option Bool
 | .bl b=>some b
 |_=>none
theorem BH {G:Cfg}{μ:Nat->ah}{n:Nat}{H:Hp}:∀{xs:List Dv}{vs:List V}{bs:List Bool},RelDL G μ n H xs vs->bI oO xs=some bs->vs=bs.map V.bl
 | [],vs,bs,r,e=>by cases e;rw[RelDL]at r;exact r
 |x::xs,vs,bs,r,e=>by
  rw[RelDL]at r;obtain⟨v,rr,rfl,r1,r2⟩:=r;unfold bI at e
  cases x with
  |bl b=>
   dsimp only[oO]at e
   cases q:bI oO xs with
   |none=>rw[q]at e;cases e
   |some zs=>rw[q]at e;cases e;rw[RelD]at r1;subst r1;rw[BH r2 q];rfl
  |_=>cases e
section
variable{X:Cx}{pins:List (ah×Obj)}{σ:St}{H:Hp}{s:ag}
theorem VV (bs:List Bool):(bo bs.length).all (λi=>bs.getD i false)=bs.all id:=by
 rw[dw,cu,cu];constructor
 ·intro h b hb;obtain⟨i,hi,rfl⟩:=tq.mp hb;simpa[kh,hi]using h i (bx.mpr hi)
 ·intro h i hi;have hi:=bx.mp hi;simpa[kh,hi]using h _ (dj hi)
theorem VW (bs:List Bool):(bo bs.length).any (λi=>bs.getD i false)=bs.any id:=by
 rw[dw,vn,vn];constructor
 ·rintro ⟨i,hi,h⟩
  have hi:=bx.mp hi;exact⟨bs[i],dj hi,by simpa[kh,hi]using h⟩
 ·rintro ⟨b,hb,h⟩
  obtain⟨i,hi,rfl⟩:=tq.mp hb;exact⟨i,bx.mpr hi,by simpa[kh,hi]using h⟩
theorem VX {bs:List Bool}{its:List af}(rv:Vals (bs.map V.bl) its) {i:Nat}{v:af}(e:its.toArray[i]?=some v):v=.bool (bs.getD i false):=by
 have hl:=rv.length;rw[bh]at hl;have e':its[i]?=some v:=by simpa using e
 have hi:i<its.length:=(ba.mp e').1;have hb:i<bs.length:=by omega
 obtain⟨u,e2,r⟩:=rv.get (i:=i) (x:=V.bl bs[i]) (by simp[hb]);rw[e']at e2;cases e2;have hg:bs.getD i false=bs[i]:=by simp[kh,hb]
 rw[hg];exact r
theorem IL {bs:List Bool}{its:List af}{A:cn}(rv:Vals (bs.map V.bl) its):TruthOf X.prog X.w A (λi v=>its.toArray[i]?=some v) (λi=>bs.getD i false):=by intro i v s Q E e q;rw[VX rv e];exact ji q
theorem wL {o:Obj}{h':cx}{tk:Nat}(I:Inv X pins σ H s) (k:∀b u,b∉[s.heap.objs.size]->(s.heap.push o).get? b=some u->h'.get? b=some u):Inv X pins σ H { s with heap:=h',toks:=tk }:=by have I1:Inv X pins σ H { s with heap:=s.heap.push o }:=I.kept (t':=s.toks) λb u e=>aj _ e;obtain⟨f0,f1,f2,f3,f4,f5⟩:=I.fpOk (ak s.heap.objs.size) I.fresh;exact I1.turned (t':=tk) (λb u hb e=>k b u (by simpa using hb) e) f0 f1 f3 f4 f5
theorem VY (hc:X.calm=true):CallR X (.builtin "all") (λxs H Q=>∃(p:ah) (bs:List Bool),xs=[.ref p]/\H p=some (.lst (bs.map V.bl))/\Q (.bl (bs.all id)) H):=by
 intro pins s σ H xs us Q I rv ⟨p,bs,e,hp,q⟩;subst e;obtain⟨u,rfl,ru⟩:=gD rv;cases ru;obtain⟨its,rits,pl,hz⟩:=I.list (SqL.of hp);have hn:its.toArray.size=bs.length:=by have:=rits.length;simp at this ⊢;omega
 have ne:p≠s.heap.objs.size:=bf (I.hok.lt hp);refine call_all_walk (rz pl.isList ⟨_,_,_,_,_,_,λi=>bs.getD i false,rfl,Br (A:=X.A.in1) (show X.A.in1.handled=none from I.ok.hd hc) _ p ne its.toArray,⟨⟨_,az _ rfl,rfl,rfl⟩,pl.isList.push _⟩,IL rits,λh' tk k=>?_⟩);rw[hn,VV];exact⟨.bl _,H,(wL (tk:=tk) I k:Inv X pins σ H { s with heap:=h',toks:=tk }),rfl,q⟩
theorem VZ (hc:X.calm=true):CallR X (.builtin "any") (λxs H Q=>∃(p:ah) (bs:List Bool),xs=[.ref p]/\H p=some (.lst (bs.map V.bl))/\Q (.bl (bs.any id)) H):=by
 intro pins s σ H xs us Q I rv ⟨p,bs,e,hp,q⟩;subst e;obtain⟨u,rfl,ru⟩:=gD rv;cases ru;obtain⟨its,rits,pl,hz⟩:=I.list (SqL.of hp);have hn:its.toArray.size=bs.length:=by have:=rits.length;simp at this ⊢;omega
 have ne:p≠s.heap.objs.size:=bf (I.hok.lt hp);refine call_any_walk (rz pl.isList ⟨_,_,_,_,_,_,λi=>bs.getD i false,rfl,Br (A:=X.A.in1) (show X.A.in1.handled=none from I.ok.hd hc) _ p ne its.toArray,⟨⟨_,az _ rfl,rfl,rfl⟩,pl.isList.push _⟩,IL rits,λh' tk k=>?_⟩);rw[hn,VW];exact⟨.bl _,H,(wL (tk:=tk) I k:Inv X pins σ H { s with heap:=h',toks:=tk }),rfl,q⟩
end
section
variable{X:Cx}{G:Cfg}{E:XK}{e:bj}{ml:M (List Dv)}{x:Str}{p pos:Pos}{bid T:String}
def mL (f:List Dv->Hs->Rs Dv) (ml:M (List Dv)):M Dv:=λρ h=>(ml ρ h).bind f
def BI (G:Cfg) (r:List V->Hp->VK->Prop) (f:List Dv->Hs->Rs Dv):Prop:=∀(E:XK) (μ:Nat->ah) (h:Hs) (H:Hp) (xs:List Dv) (a:ah) (vs:List V) (Q:VK),Sim G μ h H->H a=some (.lst vs)->RelDL G μ h.length H xs vs->Out G E μ h.length H (f xs h) (RelD G) Q->r [.ref a] H Q
theorem IM {r:List V->Hp->VK->Prop}{f:List Dv->Hs->Rs Dv}(hd:BI G r f) {σ:St}{H:Hp}{Q:VK}(t:gH G E (mL f ml) σ H Q):vL r (F5 (wH G E ml) F3) σ H Q:=by obtain⟨μ,ρ,h,rs,s,o⟩:=t;refine⟨μ,ρ,h,rs,s,(o.bind (R1:=RL G)).mono λv H1 ⟨μ1,xs,h1,x1,s1,⟨a,vs,ev,ea,_,r1⟩,o1⟩=>?_⟩;subst ev;exact hd E μ1 h1 H1 xs a vs Q s1 ea r1 o1
theorem IP {r:List V->Hp->VK->Prop}{f:List Dv->Hs->Rs Dv}(hc:CallR X (.builtin bid) r) (hd:BI G r f) (hg:Gl X x) (hm:X.mg x=none) (hv:dg x=some (.builtin bid)) (ha:nC X G E e ml) (hn:x ≠ "__name__" := by decide) (hdb:(x==("__debug__" : Str))=false:=by decide)
  (he:ao [e] X.env=[(false,eval e X.env)]:=by rfl):aI X G E (.Call (.Name x p) [e] [] pos) (mL f ml):=λhK=>
 PE.imp (sN hc hg hm hv (gE (ha hK) iG he) hn hdb he rfl) λ_ _ _ t=>IM hd t
theorem V0 {r:List V->Hp->VK->Prop}{f:List Dv->Hs->Rs Dv}(hc:CallR X (.type T) r) (hd:BI G r f) (hg:Gl X x) (hm:X.mg x=none) (hv:dg x=some (.type T)) (ha:nC X G E e ml) (hn:x ≠ "__name__" := by decide) (hdb:(x==("__debug__" : Str))=false:=by decide)
  (he:ao [e] X.env=[(false,eval e X.env)]:=by rfl):aI X G E (.Call (.Name x p) [e] [] pos) (mL f ml):=λhK=>
 PE.imp (sO hc hg hm hv (gE (ha hK) iG he) hn hdb he rfl) λ_ _ _ t=>IM hd t
theorem V1:dg "all" = some (.builtin "all"):=by decide +kernel
theorem V2:dg "any" = some (.builtin "any"):=by decide +kernel
def kQ (xs:List Dv) (h:Hs):Rs Dv:=match bI oO xs with
 |some bs=>.ok (.bl (bs.all id)) h
 |none=>.bad
def tM (xs:List Dv) (h:Hs):Rs Dv:=match bI oO xs with
 |some bs=>.ok (.bl (bs.any id)) h
 |none=>.bad
theorem tN (hc:X.calm=true) (hg:Gl X "all") (hm:X.mg "all" = none) (ha:nC X G E e ml) (he:ao [e] X.env=[(false,eval e X.env)]:=by rfl):aI X G E (.Call (.Name "all" p) [e] [] pos) (mL kQ ml):=
 IP (VY hc) (λE μ h H xs a vs Q s ea r o=>by
  unfold kQ at o
  cases q:bI oO xs with
  |none=>rw[q]at o;exact o.elim
  |some bs=>rw[q]at o;exact⟨a,bs,rfl,by rw[ea,BH r q],o.val s rfl⟩) hg hm V1 ha (by decide) (by decide) he
theorem V3 (hc:X.calm=true) (hg:Gl X "any") (hm:X.mg "any" = none) (ha:nC X G E e ml) (he:ao [e] X.env=[(false,eval e X.env)]:=by rfl):aI X G E (.Call (.Name "any" p) [e] [] pos) (mL tM ml):=
 IP (VZ hc) (λE μ h H xs a vs Q s ea r o=>by
  unfold tM at o
  cases q:bI oO xs with
  |none=>rw[q]at o;exact o.elim
  |some bs=>rw[q]at o;exact⟨a,bs,rfl,by rw[ea,BH r q],o.val s rfl⟩) hg hm V2 ha (by decide) (by decide) he
def tO (xs:List Dv) (h:Hs):Rs Dv:=.ok (.tup xs) h
theorem V4 (hg:Gl X "tuple") (hm:X.mg "tuple" = none) (ha:nC X G E e ml) (he:ao [e] X.env=[(false,eval e X.env)]:=by rfl):aI X G E (.Call (.Name "tuple" p) [e] [] pos) (mL tO ml):=V0 GR (λE μ h H xs a vs Q s ea r o=>⟨a,vs,rfl,.inl ⟨SqL.of ea,λl hl=>o μ _ _ (Ext.same (cL hl)) (s.same (cL hl)) ⟨l,vs,rfl,cK,RelDL.mono (Ext.same (cL hl)) _ _ r⟩⟩⟩) hg hm vY ha (by decide) (by decide) he
end
section
variable{X:Cx}{G:Cfg}{E:XK}{o e i:bj}{mo me mi:M Dv}{ml:M (List Dv)}{pos apos cpos:Pos}
theorem V5 {H:Hp}{a:ah}{vs:List V}(e:H a=some (.lst vs)):vM X.K "list" (.ref a) H:=.inl ⟨rfl,vs,SqL.of e⟩
def pY (o d:Dv) (h:Hs):Rs Dv:=match o with
 | .ref j=>match getL h j with
  |some xs=>if xs.length<1000000 then .ok .non (h.set j (.lst (xs++[d])))else .bad
  |none=>.bad
 |_=>.bad
def jH (o:Dv) (h:Hs):Bool:=match o with
 | .ref j=>(getL h j).isSome
 |_=>false
def kR (mo me:M Dv):M Dv:=λρ h=>(mo ρ h).bind λx h1=>if jH x h1=true then(me ρ h1).bind λd h2=>pY x d h2 else .bad
theorem BJ {μ:Nat->ah}{h:Hs}{H:Hp}{x:Dv}{v:V}(s:Sim G μ h H) (r:RelD G μ h.length H x v) (e:jH x h=true):vM X.K "list" v H:=by
 cases x with
 |ref j=>obtain⟨xs,q⟩:=xg.mp (show(getL h j).isSome=true from e);obtain⟨vs,ea,_⟩:=s.ob j _ (dH q);obtain⟨_,rfl⟩:=r;exact V5 ea
 |_=>cases e
theorem BK {y:Str}{np:Pos}(ho:aI X G E (.Name y np) mo) (he:aI X G E e me) (hs:ao [e] X.env=[(false,eval e X.env)]:=by rfl) (hl:(apos.endLine==cpos.line)=true:=by rfl):aI X G E (.Call (.Attribute (.Name y np) "append" apos) [e] [] cpos) (kR mo me):=λhK=>
 PE.imp (AU qj PySem.F.slot_list_append PySem.F.type_list_append S6 (ho hK) (gE (he hK) iG hs) rfl (by rw[hs];rfl) hl hs rfl) λσ H Q ⟨μ,ρ,h,rs,s,oo⟩=>cZ rs s oo λμ1 x h1 vx H1 x1 rs1 s1 r1 o1=>by
  split at o1
  ·rename_i hl;refine⟨BJ s1 r1 hl,cZ rs1 s1 o1 λμ2 d h2 vd H2 x2 rs2 s2 r2 o2=>?_⟩
   cases x with
   |ref j=>
    dsimp only[pY]at o2
    cases q:getL h2 j with
    |none=>rw[q]at o2;exact o2.elim
    |some xs=>
     rw[q]at o2;dsimp only at o2
     split at o2
     ·rename_i hz;obtain⟨vs,ea,ra⟩:=s2.ob j _ (dH q);obtain⟨_,rfl⟩:=RelD.mono x2 _ _ r1;obtain⟨x3,s3⟩:=s2.write (dH q) (ra.append (RelDL.cons r2 RelDL.nil));exact⟨_,vs,vd,rfl,rfl,ea,by rw[ra.length];exact aw hz (by decide),o2 μ2 _ _ x3 s3 rfl⟩
     ·exact o2.elim
   |_=>exact o2.elim
  ·exact o1.elim
end
section
variable{X:Cx}{G:Cfg}{E:XK}{e i:bj}{mo me mi:M Dv}{ml:M (List Dv)}{pos apos cpos np:Pos}{y:Str}
def wM (o:Dv) (ys:List Dv) (h:Hs):Rs Dv:=match o with
 | .ref j=>match getL h j with
  |some xs=>lim (xs.length+ys.length) (.ok .non (h.set j (.lst (xs++ys))))
  |none=>.bad
 |_=>.bad
def pZ (mo:M Dv) (ml:M (List Dv)):M Dv:=λρ h=>(mo ρ h).bind λx h1=>if jH x h1=true then(ml ρ h1).bind λys h2=>wM x ys h2 else .bad
theorem V6 (ho:aI X G E (.Name y np) mo) (he:nC X G E e ml) (hs:ao [e] X.env=[(false,eval e X.env)]:=by rfl) (hl:(apos.endLine==cpos.line)=true:=by rfl):aI X G E (.Call (.Attribute (.Name y np) "extend" apos) [e] [] cpos) (pZ mo ml):=λhK=>
 PE.imp (AU qj PySem.F.slot_list_extend PySem.F.type_list_extend S8 (ho hK) (gE (he hK) iG hs) rfl (by rw[hs];rfl) hl hs rfl) λσ H Q ⟨μ,ρ,h,rs,s,oo⟩=>cZ rs s oo λμ1 x h1 vx H1 x1 rs1 s1 r1 o1=>by
  split at o1
  ·rename_i hl;refine⟨BJ s1 r1 hl,μ1,ρ,h1,rs1,s1,(o1.bind (R1:=RL G)).mono λv H2 ⟨μ2,ys,h2,x2,s2,⟨b,ws,ev,eb,nb,rb⟩,o2⟩=>?_⟩;subst ev
   cases x with
   |ref j=>
    dsimp only[wM]at o2
    cases q:getL h2 j with
    |none=>rw[q]at o2;exact o2.elim
    |some xs=>
     rw[q]at o2;dsimp only at o2;unfold lim at o2
     split at o2
     ·rename_i hz;obtain⟨vs,ea,ra⟩:=s2.ob j _ (dH q);obtain⟨_,rfl⟩:=RelD.mono x2 _ _ r1;obtain⟨x3,s3⟩:=s2.write (dH q) (ra.append rb);exact⟨_,b,vs,ws,rfl,rfl,ea,eb,by rw[ra.length,rb.length];exact kL hz,o2 μ2 _ _ x3 s3 rfl⟩
     ·exact o2.elim
   |_=>exact o2.elim
  ·exact o1.elim
def wN (o i d:Dv) (h:Hs):Option Hs:=match o,i with
 | .ref j,.int k=>match getL h j with
  |some xs=>match fI xs.length k with
   |some n=>some (h.set j (.lst (xs.set n d)))
   |none=>none
  |none=>none
 |_,_=>none
def tP (mo mi me:M Dv):MS:=λρ h=>(me ρ h).thenS λd h1=>(mo ρ h1).thenS λo h2=>(mi ρ h2).thenS λi h3=>match wN o i d h3 with
 |some h4=>.nx ρ h4
 |none=>.bad
theorem IQ {o:bj}{spos:Pos}(ho:aI X G E o mo) (hi:aI X G E i mi) (he:aI X G E e me)
  (ha:∀v,assign (.Subscript o i spos) X.env v=(do
   let ov <-holding [v] (eval o X.env)
   let iv <-holding [v,ov] (eval i X.env)
   standAt spos
   holding [v,ov,iv] (setItem ov iv v)
   release [v,ov,iv] []):=by intro _;rfl)
  (hs:swapsWithSole [.Subscript o i spos] e pos.line X.env=pure false:=by rfl) (hw:swappedStores [.Subscript o i spos] e X.env=pure none:=by rfl)
  (h1:(assignEach [.Subscript o i spos] X.env).map (·.2)=[assign (.Subscript o i spos) X.env]:=by rfl):iV X G E (.Assign [.Subscript o i spos] e pos) (tP mo mi me):=λhK=>
 PS.imp (FT (he hK) (QH (ho hK) (hi hK) SS ha) hs hw h1) λD σ H ⟨μ,ρ,h,rs,s,oo⟩=>pV rs s oo λμ1 d h1 v H1 x1 rs1 s1 r1 o1=>pV rs1 s1 o1 λμ2 ob h2 vo H2 x2 rs2 s2 r2 o2=>pV rs2 s2 o2 λμ3 ix h3 vi H3 x3 rs3 s3 r3 o3=>by
  cases ob with
  |ref j=>
   cases ix with
   |int k=>
    dsimp only[wN]at o3
    cases q:getL h3 j with
    |none=>rw[q]at o3;exact o3.elim
    |some xs=>
     rw[q]at o3;dsimp only at o3
     cases q2:fI xs.length k with
     |none=>rw[q2]at o3;exact o3.elim
     |some n=>rw[q2]at o3;obtain⟨vs,ea,ra⟩:=s3.ob j _ (dH q);obtain⟨_,rfl⟩:=RelD.mono x3 _ _ r2;rw[RelD]at r3;subst r3;obtain⟨x4,s4⟩:=s3.write (dH q) (RelDL.set (RelD.mono (x2.trans x3) _ _ r1) n ra);exact⟨_,vs,k,n,rfl,rfl,ea,by rw[ra.length];exact q2,o3 μ3 _ σ x4 s4 (rs3.mono x4)⟩
   |_=>exact o3.elim
  |_=>cases ix <;> exact o3.elim
end
section
variable{prog:bg}{w:cq}{A:cn}{E:af->ag->Prop}{s:ag}
theorem V7 {it t:ah}{i:Nat}{items:Array af}{x:af}{Q:af->ag->Prop}(hit:s.heap.IsTupleIter it t i) (ht:s.heap.IsTuple t items) (hx:items[i]?=some x)
  (k:∀h',h'.IsTupleIter it t (i+1)->ij it s.heap h'->Q x { s with heap:=h' }):wpAny (model prog w) A (fe (.ref it)) Q E s:=by
 obtain⟨o,ho,hc,hd⟩:=id hit;obtain⟨ol,hol,hcl,nl,hdl⟩:=id ht;refine aa (gm (name:=iw "__next__") hit.typeIs F.slot_tuple_iterator_next (gr F.slot_tuple_iterator_next hit.typeIs F.entry_tuple_iterator_next ?_ (F.args_tuple_iterator_next_1 _)));have q0:∀{Q':af->ag->Prop}{E':af->ag->Prop}{B:cn},Q' (.ref t) s->wpAny (model prog w) B (field (.ref it) 0) Q' E' s:=λq=>fv ho hd (x:=.ref t) rfl q;have q1:∀{Q':af->ag->Prop}{E':af->ag->Prop}{B:cn},Q' (.int i 0) s->wpAny (model prog w) B (field (.ref it) 1) Q' E' s:=λq=>fv ho hd (x:=.int i 0) rfl q;refine aa (ai (aa (q0 ?_)));dsimp only;rw[if_neg (by simp)];refine aa (q1 (aa (jh hol hdl ?_)));rw[show((i:Int)).toNat=i from gb i];dsimp only;rw[hx];refine aa (Ba ho hd (by simp) (ai ⟨x,rfl,ai (k _ ⟨_,nj _ ho (Bk (um hd _)), ?_, ?_⟩ (nc ..))⟩))
 ·rw[Obj.cls_mapFields];exact hc
 ·rw[um hd];simp[rawInt]
end
section
variable{prog:bg}{w:cq}{A:cn}{E:af->ag->Prop}{s:ag}
theorem V8 {α:Type}{Q:α->ag->Prop}(hh:A.handled=none) (k:∀h' e,(∀b o,s.heap.get? b=some o->h'.get? b=some o)->(∃o,h'.get? e=some o/\o.cls=.type "StopIteration")->E (.ref e) { s with heap:=h' }):
  wpAny (model prog w) A (qr:Sem α) Q E s:=by
 have e0:firstArgMember (.type "StopIteration") []=pure jn:=by show(pure (if _ then jn else jn):Sem af)=_;rw[ite_self]
 unfold qr newExc newTuple;refine aa (aa (fj (aa (zu e0 (fj (wpAny_raiseNew_none hh (k _ _ (λb o q=>aj _ (aj _ q)) ⟨_,az _ rfl,rfl⟩)) (by size_fits)))) (by size_fits)))
theorem V9 {it t:ah}{i:Nat}{items:Array af}{Q:af->ag->Prop}(hh:A.handled=none) (hit:s.heap.IsTupleIter it t i) (ht:s.heap.IsTuple t items) (hx:items[i]?=none)
  (k:∀h' e,Bl it s.heap h'->(∃o,h'.get? e=some o/\o.cls=.type "StopIteration")->E (.ref e) { s with heap:=h' }):wpAny (model prog w) A (fe (.ref it)) Q E s:=by
 obtain⟨o,ho,hc,hd⟩:=id hit;obtain⟨ol,hol,hcl,nl,hdl⟩:=id ht;refine aa (gm (name:=iw "__next__") hit.typeIs F.slot_tuple_iterator_next (gr F.slot_tuple_iterator_next hit.typeIs F.entry_tuple_iterator_next ?_ (F.args_tuple_iterator_next_1 _)));have q0:∀{Q':af->ag->Prop}{E':af->ag->Prop}{B:cn},Q' (.ref t) s->wpAny (model prog w) B (field (.ref it) 0) Q' E' s:=λq=>fv ho hd (x:=.ref t) rfl q;have q1:∀{Q':af->ag->Prop}{E':af->ag->Prop}{B:cn},Q' (.int i 0) s->wpAny (model prog w) B (field (.ref it) 1) Q' E' s:=λq=>fv ho hd (x:=.int i 0) rfl q;refine aa (ai (aa (q0 ?_)));dsimp only;rw[if_neg (by simp)];refine aa (q1 (aa (jh hol hdl ?_)));rw[show((i:Int)).toNat=i from gb i];dsimp only;rw[hx];refine aa (qu (aa (Ba ho hd (by simp) (V8 (show A.in1.handled=none from hh) λh' e kp st=>k h' e (λb u hb q=>kp b u ?_) st))));rw[mr _ _ (de hb)];exact q
end
structure Draws (prog:bg) (w:cq) (it src:ah) (xs:List af) (st:Nat->cx->Prop):Prop where
 keep:∀i h h',st i h->(∀b o,b=it∨b=src->h.get? b=some o->h'.get? b=some o)->st i h'
 there:∀i h,st i h->∃o vs,h.get? it=some o/\o.data=.fields vs
 item:∀(A:cn) (i:Nat) (x:af) (s:ag) (Q:af->ag->Prop) (E:af->ag->Prop),xs[i]?=some x->st i s.heap->
  (∀h',st (i+1) h'->ij it s.heap h'->Q x { s with heap:=h' })->wpAny (model prog w) A (fe (.ref it)) Q E s
 done:∀(A:cn) (i:Nat) (s:ag) (Q:af->ag->Prop) (E:af->ag->Prop),A.handled=none->xs[i]?=none->st i s.heap->
  (∀h' e,Bl it s.heap h'->(∃o,h'.get? e=some o/\o.cls=.type "StopIteration")->E (.ref e) { s with heap:=h' })->wpAny (model prog w) A (fe (.ref it)) Q E s
structure Four (z TI TO i j u v:ah):Prop where
 a:z≠TO
 b:z≠i
 c:z≠j
 d:TO≠i
 e:TO≠j
 f:i≠j
 g:TI≠z
 h:TI≠TO
 k:TI≠i
 l:TI≠j
 u1:u≠z
 u2:u≠TO
 u3:u≠i
 u4:u≠j
 v1:v≠z
 v2:v≠TO
 v3:v≠i
 v4:v≠j
theorem gK {b x y c:ah}(h:b=x∨b=y) (p:x≠c) (q:y≠c):b≠c:=by
 rcases h with h|h
 ·rw[h];exact p
 ·rw[h];exact q
def wO (z TO i j:ah) (h h':cx):Prop:=∀b o,b≠z->b≠TO->b≠i->b≠j->h.get? b=some o->h'.get? b=some o
section
variable{prog:bg}{w:cq}{A:cn}{E:af->ag->Prop}{s:ag}{z TI TO i j u v:ah}{xs ys:List af}{st su:Nat->cx->Prop}
theorem WA {n:Nat}{x y a b:af}{Q:af->ag->Prop}(F4:Four z TI TO i j u v) (P:Draws prog w i u xs st) (R:Draws prog w j v ys su) (hz:Ac s.heap z TI TO .none) (hTI:oj s.heap TI (.ref i) (.ref j)) (hTO:oj s.heap TO a b)
  (p:st n s.heap) (r:su n s.heap) (hx:xs[n]?=some x) (hy:ys[n]?=some y)
  (k:∀h' T,s.heap.objs.size<=T->Ac h' z TI TO (rawInt T)->oj h' TI (.ref i) (.ref j)->oj h' TO x y->st (n+1) h'->su (n+1) h'->oj h' T x y->wO z TO i j s.heap h'->Q (.ref T) { s with heap:=h' }):
  wpAny (model prog w) A (mq.«zip.__next__» ⟨[.ref z],[]⟩) (λfin s'=>∃v,fin=.done (.ret v)/\Q v s') E s:=by
 refine aa (ai (aa (fv hz rfl (x:=.bool false) rfl (aa (fv hz rfl (x:=.ref TI) rfl (aa (jh hTI rfl ?_)))))));have fr:∀{Q':Bool->ag->Prop}{E':af->ag->Prop},Q' true s->wpAny (model prog w) A (qc (.ref z)) Q' E' s:=λq=>aa (fv hz rfl (x:=.none) rfl (ai q));refine aa (fr ?_);rw[if_pos rfl];refine aa (qu (aa (fv hz rfl (x:=.ref TO) rfl (aa (jd hz (by simp) λg1 z1 b1=>?_)))));have z1':Ac g1 z TI TO .ellipsis:=z1;refine aa ?_;show wpAny _ _ (forIn [(gu i,0),(gu j,1)] _ _) _ _ _;rw[oz];refine aa (aa (sj ?_));show wpAny _ _ (fe (.ref i) >>= _) _ _ _;refine aa (P.item A n x _ _ _ hx (P.keep n _ _ p λb o hb q=>b1.extBut _ _ (gK hb (de F4.b) F4.u1) q) λg2 p2 b2=>ai ?_);have t2:oj g2 TO a b:=b2.extBut _ _ F4.d (b1.extBut _ _ (de F4.a) hTO);refine aa (jh t2 rfl (aa (ur t2 λg3 t3 b3=>aa (wpAny_letGo (ai ?_)))));have t3':oj g3 TO x b:=t3;dsimp only;rw[oz];refine aa (aa (sj ?_));show wpAny _ _ (fe (.ref j) >>= _) _ _ _;have r3:su n g3:=R.keep n _ _ r λb o hb q=>b3.extBut _ _ (gK hb (de F4.e) F4.v2) (b2.extBut _ _ (gK hb (de F4.f) F4.v3) (b1.extBut _ _ (gK hb (de F4.c) F4.v1) q));refine aa (R.item A n y _ _ _ hy r3 λg4 r4 b4=>ai ?_);have t4:oj g4 TO x b:=b4.extBut _ _ F4.e t3';refine aa (jh t4 rfl (aa (ur t4 λg5 t5 b5=>aa (wpAny_letGo (ai ?_)))));have t5':oj g5 TO x y:=t5;dsimp only;rw[List.forIn_nil];refine ai ?_;refine aa (jh t5' rfl (aa (wpAny_newTuple ?_)));have z5:Ac g5 z TI TO .ellipsis:=b5.extBut _ _ F4.a (b4.extBut _ _ F4.c (b3.extBut _ _ F4.a (b2.extBut _ _ F4.b z1')));have sz:g5.objs.size=s.heap.objs.size:=by rw[b5.1,b4.1,b3.1,b2.1,b1.1]
 have all5:wO z TO i j s.heap g5:=λc o c1 c2 c3 c4 q=>b5.extBut _ _ c2 (b4.extBut _ _ c4 (b3.extBut _ _ c2 (b2.extBut _ _ c3 (b1.extBut _ _ c1 q))));have p5:st (n+1) g5:=P.keep _ _ _ p2 λb o hb q=>b5.extBut _ _ (gK hb (de F4.d) F4.u2) (b4.extBut _ _ (gK hb F4.f F4.u4) (b3.extBut _ _ (gK hb (de F4.d) F4.u2) q));have r5:su (n+1) g5:=R.keep _ _ _ r4 λb o hb q=>b5.extBut _ _ (gK hb (de F4.e) F4.v2) q;generalize hob:({ cls:=.type "tuple",dict:=none,data:=.seq [x,y].toArray }:Obj)=ob;have zp:Ac (g5.push ob) z TI TO .ellipsis:=aj _ z5;refine aa (aa (jd zp (by simp) λg7 z7 b7=>?_));have z7':Ac g7 z TI TO (rawInt g5.objs.size):=z7;refine jd z7' (by simp) λg8 z8 b8=>ai ⟨_,rfl, ?_⟩;have up:∀c o,c≠z->g5.get? c=some o->g8.get? c=some o:=λc o c1 q=>b8.extBut _ _ c1 (b7.extBut _ _ c1 (aj _ q));have lz:z<g5.objs.size:=av z5;have T8:oj g8 g5.objs.size x y:=b8.extBut _ _ (jw lz) (b7.extBut _ _ (jw lz) (by rw[<-hob];exact az _ rfl));refine k g8 g5.objs.size (mz sz.symm) z8 (up _ _ F4.g (all5 _ _ F4.g F4.h F4.k F4.l hTI)) (up _ _ (de F4.a) t5') (P.keep _ _ _ p5 λb o hb q=>up _ _ (gK hb (de F4.b) F4.u1) q) (R.keep _ _ _ r5 λb o hb q=>up _ _ (gK hb (de F4.c) F4.v1) q) T8 λc o c1 c2 c3 c4 q=>up _ _ c1 (all5 c o c1 c2 c3 c4 q)
end
section
variable{prog:bg}{w:cq}{A:cn}{E:af->ag->Prop}{s:ag}{z TI TO i j u v:ah}{xs ys:List af}{st su:Nat->cx->Prop}
theorem WB {n:Nat}{a b:af}{Q:PySem.Fin->ag->Prop}(hh:A.handled=none) (F4:Four z TI TO i j u v) (P:Draws prog w i u xs st) (R:Draws prog w j v ys su) (hz:Ac s.heap z TI TO .none) (hTI:oj s.heap TI (.ref i) (.ref j)) (hTO:oj s.heap TO a b)
  (p:st n s.heap) (r:su n s.heap) (hend:xs[n]?=none∨ys[n]?=none)
  (k:∀h' e,wO z TO i j s.heap h'->(∃o,h'.get? e=some o/\o.cls=.type "StopIteration")->E (.ref e) { s with heap:=h' }):
  wpAny (model prog w) A (mq.«zip.__next__» ⟨[.ref z],[]⟩) Q E s:=by
 refine aa (ai (aa (fv hz rfl (x:=.bool false) rfl (aa (fv hz rfl (x:=.ref TI) rfl (aa (jh hTI rfl ?_)))))));have fr:∀{Q':Bool->ag->Prop}{E':af->ag->Prop},Q' true s->wpAny (model prog w) A (qc (.ref z)) Q' E' s:=λq=>aa (fv hz rfl (x:=.none) rfl (ai q));refine aa (fr ?_);rw[if_pos rfl];refine aa (qu (aa (fv hz rfl (x:=.ref TO) rfl (aa (jd hz (by simp) λg1 z1 b1=>?_)))));have z1':Ac g1 z TI TO .ellipsis:=z1;have p1:st n g1:=P.keep n _ _ p λb o hb q=>b1.extBut _ _ (gK hb (de F4.b) F4.u1) q;have fin:∀(g:cx) (e:ah),Ac g z TI TO .ellipsis->wO z TO i j s.heap g->(∃o,g.get? e=some o/\o.cls=.type "StopIteration")->
   wpAny (model prog w) A (setField (.ref z) 0 .none) (λ_ s'=>E (.ref e) s') E { s with heap:=g }:=λg e zz bt ⟨o,he,hc⟩=>
  jd zz (by simp) λg' _ b'=>k g' e (λc u c1 c2 c3 c4 q=>b'.extBut _ _ c1 (bt c u c1 c2 c3 c4 q)) ⟨o,b'.extBut _ _ (λq=>by subst q;rw[zz]at he;cases he;simp at hc) he,hc⟩
 refine aa ?_;show wpAny _ _ (forIn [(gu i,0),(gu j,1)] _ _) _ _ _;rw[oz];refine aa (aa (sj ?_));show wpAny _ _ (fe (.ref i) >>= _) _ _ _
 cases hx:xs[n]? with
 |none=>exact aa (P.done A n _ _ _ hh hx p1 λg2 e b2 he=>fin g2 e (b2 _ _ F4.b z1') (λc u c1 _ c3 _ q=>b2 _ _ c3 (b1.extBut _ _ c1 q)) he)
 |some x=>
  have hy:ys[n]?=none:=by
   rcases hend with q|q
   ·rw[hx]at q;cases q
   ·exact q
  refine aa (P.item A n x _ _ _ hx p1 λg2 p2 b2=>ai ?_);have t2:oj g2 TO a b:=b2.extBut _ _ F4.d (b1.extBut _ _ (de F4.a) hTO);refine aa (jh t2 rfl (aa (ur t2 λg3 t3 b3=>aa (wpAny_letGo (ai ?_)))));dsimp only;rw[oz];refine aa (aa (sj ?_));show wpAny _ _ (fe (.ref j) >>= _) _ _ _;have r3:su n g3:=R.keep n _ _ r λb o hb q=>b3.extBut _ _ (gK hb (de F4.e) F4.v2) (b2.extBut _ _ (gK hb (de F4.f) F4.v3) (b1.extBut _ _ (gK hb (de F4.c) F4.v1) q));exact aa (R.done A n _ _ _ hh hy r3 λg4 e b4 he=>fin g4 e (b4 _ _ F4.c (b3.extBut _ _ F4.a (b2.extBut _ _ F4.b z1'))) (λc u c1 c2 c3 c4 q=>b4 _ _ c4 (b3.extBut _ _ c2 (b2.extBut _ _ c3 (b1.extBut _ _ c1 q)))) he)
theorem wQ {it t:ah}{items:Array af}(hne:t≠it):Draws prog w it t items.toList (λi h=>h.IsTupleIter it t i/\h.IsTuple t items) where
 keep:=λi h h' ⟨⟨o,e,r⟩,⟨o2,e2,r2⟩⟩ k=>⟨⟨o,k _ _ (.inl rfl) e,r⟩,⟨o2,k _ _ (.inr rfl) e2,r2⟩⟩
 there:=λi h ⟨⟨o,e,_,d⟩,_⟩=>⟨o,_,e,d⟩
 item:=λA i x s Q E hx ⟨a,b⟩ k=>V7 a b (by simpa using hx) λh' a' sb=>k h' ⟨a',b.extBut sb.extBut hne⟩ sb
 done:=λA i s Q E hh hx ⟨a,b⟩ k=>V9 hh a b (by simpa using hx) k
end
def BL (K:ar) (t u:ah):It:=
 ⟨λi H=>∃vs ws v w,SqT K H t vs/\SqT K H u ws/\vs[i]?=some v/\ws[i]?=some w,
  λi H x H'=>∃p v w,x=.ref p/\H p=none/\H'=aQ H p (.tup [v,w])/\(∀vs,SqT K H t vs->vs[i]?=some v)/\∀ws,SqT K H u ws->ws[i]?=some w,
  λi H=>∃vs ws,SqT K H t vs/\SqT K H u ws/\(vs.length<=i∨ws.length<=i)⟩
structure ZipAt (z TI TO i j t u:ah) (n:Nat) (h:cx):Prop where
 zp:Ac h z TI TO .none
 ti:oj h TI (.ref i) (.ref j)
 to:∃a b,oj h TO a b
 i1:h.IsTupleIter i t n
 i2:h.IsTupleIter j u n
section
variable{X:Cx}{pins:List (ah×Obj)}{σ:St}{H:Hp}{s:ag}
theorem Inv.turns {h':cx}{ch:List ah}{T:ah}{vs:List V}{its:List af}(I:Inv X pins σ H s) (hch:∀b∈ch,cX X pins H b) (k:∀b o,b∉ch->s.heap.get? b=some o->h'.get? b=some o) (there:∀b∈ch,∃o,h'.get? b=some o)
  (hT:s.heap.objs.size<=T) (hv:Vals vs its) (hl:vs.length<=bp) (tp:IsTupX h' T its.toArray):Inv X pins σ (aQ H T (.tup vs)) { s with heap:=h' }:=by
 have nT:H T=none:=I.hok.fresh hT;have nch:∀b o,H b=some o->b∉ch:=λb o q z=>by rw[(hch b z).1]at q;cases q
 have un:Un (dD X.stack) ch H (aQ H T (.tup vs)) s.heap h':=
  ⟨λb o q _ _ hb=>k b o hb q,λb o q _ _ hb=>⟨o.slots,k b o hb q⟩,λb o q n _=>by rw[bK (bf (aw (av q) hT))];exact n,
   λb o q hb=>⟨o,k b o hb q⟩,λb xs q=>cL nT b _ q,λb o u q=>cL nT b _ q,λb ps q=>⟨#[],by rw[cL nT b _ q];simp⟩⟩
 have ok:HOk X.prog X.w (aQ H T (.tup vs)) h':=λb o q=>by
  by_cases hb:b=T
  ·subst hb;rw[cK]at q;cases q;exact⟨hl,its,hv,tp⟩
  ·rw[bK hb]at q;refine(I.hok b o q).stay (λc v hc z=>k c v ?_ z) (λc z=>cL nT c _ z) λc xs z=>cL nT c _ z
   rcases hc with rfl|hc
   ·exact nch c o q
   ·exact nch c _ hc
 exact I.call (g':=s.gens) (d':=s.drawn) (t':=s.toks) un ok I.bare λb hb=>let ⟨_,f1,_,f3,f4,f5⟩:=hch b hb;⟨f3,f1,f4,f5⟩
theorem Inv.turns0 {h':cx}{ch:List ah}(I:Inv X pins σ H s) (hch:∀b∈ch,cX X pins H b) (k:∀b o,b∉ch->s.heap.get? b=some o->h'.get? b=some o):Inv X pins σ H { s with heap:=h' }:=by
 have nch:∀b o,H b=some o->b∉ch:=λb o q z=>by rw[(hch b z).1]at q;cases q
 refine I.call (g':=s.gens) (d':=s.drawn) (t':=s.toks) (ch:=ch) ⟨λb o q _ _ hb=>k b o hb q,λb o q _ _ hb=>⟨o.slots,k b o hb q⟩,λ_ _ _ n _=>n,λb o q hb=>⟨o,k b o hb q⟩,λ_ _ q=>q,λ_ _ _ q=>q,λb ps q=>⟨#[],by rw[q];simp⟩⟩ (λb o q=>?_) I.bare λb hb=>let ⟨_,f1,_,f3,f4,f5⟩:=hch b hb;⟨f3,f1,f4,f5⟩;refine(I.hok b o q).stay (λc v hc z=>k c v ?_ z) (λ_ z=>z) λ_ _ z=>z
 rcases hc with rfl|hc
 ·exact nch c o q
 ·exact nch c _ hc
end
theorem WC {P:bg}{w:cq}{K:ar}{elts:List bj}{kk:Nat}{tp:Pos}{z TI TO i j t u:ah}(F4:Four z TI TO i j t u) (hti:t≠i) (huj:u≠j):
  Turn P w K (.Tuple elts kk tp) (BL K t u) [z,TI,TO,i,j] z (ZipAt z TI TO i j t u) where
 mem:=by simp
 obj:=λn h st b hb=>by
  obtain⟨zp,ti,⟨a,b',to⟩,⟨o1,e1,_,d1⟩,⟨o2,e2,_,d2⟩⟩:=st;simp at hb
  rcases hb with rfl|rfl|rfl|rfl|rfl
  ·exact⟨_,zp,λv q=>by cases q⟩
  ·exact⟨_,ti,λv q=>by cases q⟩
  ·exact⟨_,to,λv q=>by cases q⟩
  ·exact⟨_,e1,λv q=>by rw[d1]at q;cases q⟩
  ·exact⟨_,e2,λv q=>by rw[d2]at q;cases q⟩
 keep:=λn h h' st k=>by obtain⟨zp,ti,⟨a,b',to⟩,⟨o1,e1,r1⟩,⟨o2,e2,r2⟩⟩:=st;exact⟨k _ (by simp) _ zp,k _ (by simp) _ ti,⟨a,b',k _ (by simp) _ to⟩,⟨o1,k _ (by simp) _ e1,r1⟩,⟨o2,k _ (by simp) _ e2,r2⟩⟩
 item:=by
  intro X hP hw hK hc n pins s σ H E I hf st hg;subst hP hw hK;obtain⟨vs,ws,v,w',hq,hr,hv,hw'⟩:=hg;obtain⟨its,rv,p1,z1⟩:=I.tuple hq;obtain⟨jts,rw',p2,z2⟩:=I.tuple hr;obtain⟨x,hx,rx⟩:=rv.get hv;obtain⟨y,hy,ry⟩:=rw'.get hw';obtain⟨zp,ti,⟨a,b,to⟩,i1,i2⟩:=st;have hT:s.TypeIs (.ref z) "zip" := ⟨_,zp,rfl⟩;unfold pyNext;refine aa (vp (gm (name:=iw "__next__") hT F.slot_zip_next (gr F.slot_zip_next hT F.entry_zip_next
   (WA F4 (wQ (items:=its.toArray) hti) (wQ (items:=jts.toArray) huj) zp ti to ⟨i1,p1⟩ ⟨i2,p2⟩ (by simpa using hx) (by simpa using hy) λh' T hnew a1 a2 a3 a4 a5 a6 bt=>ai ⟨_,rfl, ?_⟩) (F.args_zip_next_1 _))))
  refine wpAny_letOwnedTupleGo_zip a1 λh2 z2' sb=>?_;have kp:∀b o,b∉[z,TI,TO,i,j]->s.heap.get? b=some o->h2.get? b=some o:=λb o hb q=>by simp at hb;obtain⟨n1,n2,n3,n4,n5⟩:=hb;exact sb.extBut _ _ n1 (bt b o n1 n3 n4 n5 q)
  have Tz:T≠z:=jw (aw (av zp) hnew);have T2:oj h2 T x y:=sb.extBut _ _ Tz a6;have th:∀b∈[z,TI,TO,i,j],∃o,h2.get? b=some o:=λb hb=>by
   obtain⟨⟨o1,e1,_⟩,_⟩:=a4;obtain⟨⟨o2,e2,_⟩,_⟩:=a5;simp at hb
   rcases hb with rfl|rfl|rfl|rfl|rfl
   ·exact⟨_,z2'⟩
   ·exact⟨_,sb.extBut _ _ F4.g a2⟩
   ·exact⟨_,sb.extBut _ _ (de F4.a) a3⟩
   ·exact⟨_,sb.extBut _ _ (de F4.b) e1⟩
   ·exact⟨_,sb.extBut _ _ (de F4.c) e2⟩
  have I2:=Inv.turns (T:=T) (vs:=[v,w']) (its:=[x,y]) I hf kp th hnew (.cons rx (.cons ry .nil)) (by show 2<=bp;decide) ⟨_,T2,rfl,rfl,_,rfl⟩;have nT:H T=none:=I.hok.fresh hnew;refine⟨.ref T,_,I2,rfl,⟨T,v,w',rfl,nT,rfl,λvs' h'=>by rw[I.tuple_inj h' hq];exact hv,λws' h'=>by rw[I.tuple_inj h' hr];exact hw'⟩, ?_,λb hb=>?_⟩
  ·exact⟨z2',sb.extBut _ _ F4.g a2,⟨_,_,sb.extBut _ _ (de F4.a) a3⟩,a4.1.extBut sb.extBut (de F4.b),a5.1.extBut sb.extBut (de F4.c)⟩
  ·obtain⟨o,q,_⟩:∃o,s.heap.get? b=some o/\True:=by
    obtain⟨o1,e1,_⟩:=i1;obtain⟨o2,e2,_⟩:=i2;simp at hb
    rcases hb with rfl|rfl|rfl|rfl|rfl
    ·exact⟨_,zp,trivial⟩
    ·exact⟨_,ti,trivial⟩
    ·exact⟨_,to,trivial⟩
    ·exact⟨_,e1,trivial⟩
    ·exact⟨_,e2,trivial⟩
   rw[bK (bf (aw (av q) hnew))];exact(hf b hb).1
 done:=by
  intro X hP hw hK hc n pins s σ H E I hf st hg;subst hP hw hK;obtain⟨vs,ws,hq,hr,hend⟩:=hg;obtain⟨its,rv,p1,z1⟩:=I.tuple hq;obtain⟨jts,rw',p2,z2⟩:=I.tuple hr;have l1:=rv.length;have l2:=rw'.length;obtain⟨zp,ti,⟨a,b,to⟩,i1,i2⟩:=st;have hT:s.TypeIs (.ref z) "zip" := ⟨_,zp,rfl⟩;unfold pyNext;refine aa (vp (gm (name:=iw "__next__") hT F.slot_zip_next (gr F.slot_zip_next hT F.entry_zip_next
   (WB (show X.A.in1.handled=none from I.ok.hd hc) F4 (wQ (items:=its.toArray) hti) (wQ (items:=jts.toArray) huj) zp ti to ⟨i1,p1⟩ ⟨i2,p2⟩ (by
    rcases hend with q|q
    ·exact .inl (by simp;omega)
    ·exact .inr (by simp;omega)) λh' e bt ⟨o,he,hcl⟩=>aa (zl (T := "StopIteration") (b:=true) ⟨o,he,hcl⟩ isSubtype_stop (ai ⟨rfl, ?_⟩))) (F.args_zip_next_1 _))))
  refine Inv.turns0 I hf λb o hb q=>?_;simp at hb;exact bt b o hb.1 hb.2.2.1 hb.2.2.2.1 hb.2.2.2.2 q
 self:=λ_ _ _ _ _ st h=>wpAny_pyIter_zip st.zp h
def IS (t u:ah) (h:cx) (z:ah) (h':cx):Prop:=∃TI TO i j,ZipAt z TI TO i j t u 0 h'/\Four z TI TO i j t u/\(∀b∈[z,TI,TO,i,j],h.objs.size<=b)/\∀b o,h.get? b=some o->h'.get? b=some o
theorem tQ {h h':cx}{o:Obj}(e:h'=h.push o) (nf:o.isFreed=false):h'.get? h.objs.size=some o:=by rw[e];exact az _ nf
theorem WD (n t u:Nat) (lt:t<n) (lu:u<n):Four (n+4) (n+2) (n+3) n (n+1) t u:=by
 have ne:∀{a b:Nat},(a<b∨b<a)->a≠b:=λh=>by omega
 exact⟨ne (by omega),ne (by omega),ne (by omega),ne (by omega),ne (by omega),ne (by omega),ne (by omega),ne (by omega),ne (by omega),ne (by omega),ne (by omega),ne (by omega),ne (by omega),ne (by omega),ne (by omega),ne (by omega),ne (by omega),ne (by omega)⟩
theorem WE {t u:ah}{hp h1 h2 h3 h4 h5:cx}{n:Nat}(hn:n=hp.objs.size) (lt:t<n) (lu:u<n)
  (e1:h1=hp.push { cls:=.type "tuple_iterator",data:=.fields #[.ref t,.int 0 0] }) (e2:h2=h1.push { cls:=.type "tuple_iterator",data:=.fields #[.ref u,.int 0 0] }) (e3:h3=h2.push { cls:=.type "tuple",data:=.seq #[.ref n,.ref (n+1)] })
  (e4:h4=h3.push { cls:=.type "tuple",data:=.seq #[.none,.none] }) (e5:h5=h4.push { cls:=.type "zip",data:=.fields #[.none,.bool false,.bool false,.ref (n+2),.ref (n+3)] }):IS t u hp (n+4) h5:=by
 have z1:h1.objs.size=n+1:=by rw[e1,dz,hn]
 have z2:h2.objs.size=n+2:=by rw[e2,dz,z1]
 have z3:h3.objs.size=n+3:=by rw[e3,dz,z2]
 have z4:h4.objs.size=n+4:=by rw[e4,dz,z3]
 have up:∀(h:cx) (o:Obj) (b:ah) (q:Obj),h.get? b=some q->(h.push o).get? b=some q:=λh o b q e=>aj _ e;have g1:=tQ e1 rfl;have g2:=tQ e2 rfl;have g3:=tQ e3 rfl;have g4:=tQ e4 rfl;have g5:=tQ e5 rfl;rw[<-hn]at g1;rw[z1]at g2;rw[z2]at g3;rw[z3]at g4;rw[z4]at g5;have u2:∀b q,h2.get? b=some q->h5.get? b=some q:=λb q e=>by rw[e5,e4,e3];exact up _ _ _ _ (up _ _ _ _ (up _ _ _ _ e))
 have u1:∀b q,h1.get? b=some q->h5.get? b=some q:=λb q e=>u2 b q (by rw[e2];exact up _ _ _ _ e);have u3:∀b q,h3.get? b=some q->h5.get? b=some q:=λb q e=>by rw[e5,e4];exact up _ _ _ _ (up _ _ _ _ e)
 have u4:∀b q,h4.get? b=some q->h5.get? b=some q:=λb q e=>by rw[e5];exact up _ _ _ _ e
 refine⟨n+2,n+3,n,n+1,⟨g5,u3 _ _ g3,⟨_,_,u4 _ _ g4⟩,⟨_,u1 _ _ g1,rfl,rfl⟩,⟨_,u2 _ _ g2,rfl,rfl⟩⟩, ?_, ?_,λb q e=>u1 b q (by rw[e1];exact up _ _ _ _ e)⟩
 ·exact WD n t u lt lu
 ·intro b hb;rw[<-hn];simp at hb
  rcases hb with rfl|rfl|rfl|rfl|rfl
  ·exact rh _ _
  ·exact rh _ _
  ·exact rh _ _
  ·exact ak _
  ·exact rh _ _
theorem WG {t u:ah}(xs ys:Array af):Meets (mq.«zip.__new__» ⟨[.type "zip",.ref t,.ref u],[]⟩) (λ_ R s=>s.heap.IsTuple t xs/\s.heap.IsTuple u ys/\∀h' z,IS t u s.heap z h'->R (.ok (.ret (.ref z))) { s with heap:=h' }):=
 .of_wp λprog w A R s h=>by
  obtain⟨ht,hu,k⟩:=h;obtain⟨hp,g,d,tk,os⟩:=s;have sub:=sub_zip;have ht':(⟨hp,g,d,tk,os⟩:ag).heap.IsTuple t xs:=ht;have hu':(⟨hp.push { cls:=.type "tuple_iterator",data:=.fields #[.ref t,.int 0 0] },g,d,tk,os⟩:ag).heap.IsTuple u ys:=hu.push _
  wp_walk using kj ht',kj hu'
  have lt:t<hp.objs.size:=by obtain⟨o,e,_⟩:=ht;exact av e
  have lu:u<hp.objs.size:=by obtain⟨o,e,_⟩:=hu;exact av e
  simp only[dz];refine⟨_,rfl,k _ _ (WE rfl lt lu rfl rfl rfl rfl ?_)⟩;simp only[dz];rfl
section
variable{X:Cx}{G:Cfg}{E:XK}{a b:bj}{elts:List bj}{kk:Nat}{tp p pos:Pos}{ta:TA}{ms:M (List Dv)}
def WH (K:ar) (ta:TA):TI:=λσ H R=>ta σ H λvs H1=>∃t u xs ys,vs=[.ref t,.ref u]/\SqT K H1 t xs/\SqT K H1 u ys/\R (BL K t u) H1
theorem WI:dg "zip" = some (.type "zip"):=by decide +kernel
theorem WJ (hg:Gl X "zip") (hm:X.mg "zip" = none) (ha:PA X [a,b] ta) (hs:ao [a,b] X.env=[(false,eval a X.env),(false,eval b X.env)]:=by rfl) (hs2:ao [b] X.env=[(false,eval b X.env)]:=by rfl):
  PI X (.Tuple elts kk tp) (.Call (.Name "zip" p) [a,b] [] pos) (WH X.K ta):=by
 intro pins s σ H R I h;refine Call_ (pO I hg hm WI (jb (aW (ha pos pins s σ H _ I h) λus s1 ⟨vs,H1,I1,r1,q1⟩=>?_) (by rw[hs,hs2]) (by rw[hs2];rfl)));obtain⟨t,u,xs,ys,e,hq,hr,q⟩:=q1;subst e;obtain⟨u1,u2,rfl,e1,e2⟩:=sM r1;cases e1;cases e2;obtain⟨its,rv,p1,_⟩:=I1.tuple hq;obtain⟨jts,rw',p2,_⟩:=I1.tuple hr;refine callType_new F.called_zip (by decide) (F.typeCall_zip_2 _ _) (F.newCall_zip_2 _ _) (λobj=>F.args_object_init_3 obj _ _) F.entry_zip_new (WG its.toArray jts.toArray) ⟨p1,p2,λh' z nz=>?_⟩;obtain⟨TI,TO,i,j,za,f4,fresh,kp⟩:=nz;refine⟨⟨_,za.zp,rfl⟩, ?_⟩;have I2:Inv X pins σ H1 { s1 with heap:=h' }:=I1.kept (t':=s1.toks) kp;refine wpAny_pyIter_zip za.zp ⟨z,[z,TI,TO,i,j],_,_,H1,rfl,I2,WC f4 f4.u3 f4.v4,za,λb hb=>I1.fpOk (fresh b hb) (I1.hok.fresh (fresh b hb)),q⟩
def oP (xs ys:List Dv):Src:=cQ ((xs.zip ys).map λq=>.tup [q.1,q.2])
def oQ:List Dv->Hs->Rs Src
 | [.tup xs,.tup ys],h=>.ok (oP xs ys) h
 |_,_=>.bad
theorem ItOk.zip {μ:Nat->ah}{n:Nat}{H:Hp}{t u:ah}{vs ws:List V}{xs ys:List Dv}{K:ar}(e:H t=some (.tup vs)) (e':H u=some (.tup ws)) (r:RelDL G μ n H xs vs) (r':RelDL G μ n H ys ws):ItOk G μ n H (oP xs ys) (BL K t u):=by
 intro k μ2 h2 H2 x2 s2;have f:=x2.im t (.tup vs) trivial e;have f':=x2.im u (.tup ws) trivial e';have g:=RelDL.mono x2 _ _ r;have g':=RelDL.mono x2 _ _ r';have hl:(oP xs ys).n=min xs.length ys.length:=by simp[oP,cQ]
 constructor
 ·intro hk d hd;have hd':((xs.zip ys).map λq=>Dv.tup [q.1,q.2])[k]?=some d:=hd;rw[dv]at hd'
  cases q:(xs.zip ys)[k]? with
  |none=>rw[q]at hd';cases hd'
  |some xy=>
   rw[q]at hd';cases hd';obtain⟨qx,qy⟩:=qe.mp q;obtain⟨v,ev,rv⟩:=g.get qx;obtain⟨w',ew,rw'⟩:=g'.get qy;refine⟨⟨vs,ws,v,w',SqT.of f,SqT.of f',ev,ew⟩,λx H' hy=>?_⟩;obtain⟨pp,v1,w1,rfl,np,rfl,a1,a2⟩:=hy;have b1:=a1 vs (SqT.of f);have b2:=a2 ws (SqT.of f');rw[ev]at b1;rw[ew]at b2
   cases b1;cases b2
   have sm:Same H2 (aQ H2 pp (.tup [v,w'])):=cL np;exact⟨sm,pp,_,rfl,cK,RelDL.cons (RelD.mono (Ext.same sm) _ _ rv) (RelDL.cons (RelD.mono (Ext.same sm) _ _ rw') RelDL.nil)⟩
 ·intro hk _;refine⟨vs,ws,SqT.of f,SqT.of f', ?_⟩;rw[g.length,g'.length,hk,hl];omega
theorem IT (hg:Gl X "zip") (hm:X.mg "zip" = none) (ha:cY X G E [a,b] ms) (hs:ao [a,b] X.env=[(false,eval a X.env),(false,eval b X.env)]:=by rfl) (hs2:ao [b] X.env=[(false,eval b X.env)]:=by rfl):
  lN X G E (.Tuple elts kk tp) (.Call (.Name "zip" p) [a,b] [] pos) (aS oQ ms):=λhK=>
 PI.imp (WJ hg hm (ha hK) hs hs2) λσ H R ⟨μ,ρ,h,rs,s,o⟩=>kK rs s o λμ1 ds h1 vs H1 x1 rs1 s1 r1 o1=>by
  unfold oQ at o1
  split at o1
  ·rename_i xs ys;obtain⟨v,v',rfl,rv,rv'⟩:=wD r1;obtain⟨t,us,rfl,e,r⟩:=rv;obtain⟨u,ws,rfl,e',r'⟩:=rv';exact⟨t,u,us,ws,rfl,SqT.of e,SqT.of e',o1.val s1 (ItOk.zip e e' r r')⟩
  ·exact o1.elim
end
section
variable{prog:bg}{w:cq}{A:cn}{E:af->ag->Prop}{s:ag}{K:Frag}{e C N:ah}{o:Obj}
theorem WK {Q:Bool->ag->Prop}(X:K.In s.heap) (he:s.heap.get? e=some o) (hc:o.cls=.ref C) (hn:subIn K (.ref N) (.type "BaseException")=some true) (ht:subIn K (.type "type") (.type "tuple")=some false) (hk:kitCls K (.ref N) (.ref N)=some true) {b:Bool}(hs:subIn K (.ref C) (.ref N)=some b) (q:Q b s):
  wpAny (model prog w) A (excMatches (.ref e) (.ref N)) Q E s:=by
 have L1:=(kit_cls (M:=model prog w) X hk).1;have L2:=(kit_cls (M:=model prog w) X hk).2.1;have L3:=looks_subIn (M:=model prog w) X hn;have L4:=looks_subIn (M:=model prog w) X hs;have L5:=looks_subIn (M:=model prog w) X ht;obtain⟨hp,g,d,tk,os⟩:=s;unfold excMatches
 repeat (any_goals (first|assumption|(with_reducible refine wpAny_loadPart_at he ?_;rw[hc])|with_reducible refine L1.at ?_|with_reducible refine L2.at ?_|with_reducible refine L3.at ?_|with_reducible refine L4.at ?_|with_reducible refine L5.at ?_|wp_step))
 cases b
 all_goals (repeat (any_goals (first|assumption|wp_step)))
end
def jI (P:bg) (w:cq) (K:ar) (mg:Str->Option af) (base:cx) (N:List Str) (qual:Str) (scope:gw) (f:ah) (cd:af) (cl:List (Str×ah)) (A:cn) (outer:List Env) (s:ag) (H:Hp) (E:XK):Cx where
 prog:=P
 w:=w
 K:=K
 mg:=mg
 base:=base
 A:=A.deeper (lr qual scope s.heap.objs.size f cd cl)
 N:=N
 s₀:=s
 H₀:=H
 env:=lr qual scope s.heap.objs.size f cd cl
 outer:=outer
 stack:=lr qual scope s.heap.objs.size f cd cl::outer
 ex:=[]
 calm:=true
 fn:=λ_=>false
 pn:=[]
 xe:=λe s'=>wpAny (model P w) (A.deeper (lr qual scope s.heap.objs.size f cd cl)) (leaving (lr qual scope s.heap.objs.size f cd cl) e) (λ_ s''=>bO P w base outer H s E e s'') (λe' s''=>bO P w base outer H s E e' s'') s'
structure LamScope (N:List Str) (sc:gw):Prop where
 kind:sc.kind=.function
 co:sc.isCoroutine=false
 gen:sc.isGenerator=false
 nocell:∀x∈sc.names,x.2≠.cell
 fr:∀x∈N,sc.names.lookup x=some .free
 all:∀x∈sc.names,x.2=.free->x.1∈N
structure LamAt (G:Cfg) (base:cx) (H:Hp) (μ:Nat->ah) (n:Nat) (N:List Str) (params:ku) (body:bj) (scope:gw) (f c':ah) (cl:List (Str×ah)) (ds:List Dv):Prop where
 ob:∃pm ctv,H f=some (.frz (jy "<lambda>" G.lq params body scope cl pm c' ctv) (.own 0))
 cd:∃oc,H c'=some (.frz oc (.own 0))/\vT G.lq oc
 inj:∀x y c,cl.lookup x=some c->cl.lookup y=some c->x=y
 len:ds.length=N.length
 at_:∀(i:Nat) (x:Str),N[i]?=some x->∃c,cl.lookup x=some c
 cell:∀(x:Str) (c:ah),cl.lookup x=some c->∃o u,base.get? c=some o/\o.data=.cell u
 val:∀(i:Nat) (x:Str) (c:ah) (d:Dv),N[i]?=some x->ds[i]?=some d->cl.lookup x=some c->∃o u v,base.get? c=some o/\o.data=.cell (some u)/\RelV v u/\RelD G μ n H d v
section
variable{P:bg}{w:cq}{K:ar}{mg:Str->Option af}{base:cx}{N:List Str}{qual:Str}{scope:gw}{f:ah}{cdv:af}{cl:List (Str×ah)}{A:cn}{outer:List Env}{s0:ag}{H0:Hp}{E0:XK}{G:Cfg}{E:XK}{k:Nat}
theorem WM (hr:Room k (A.deeper (lr qual scope s0.heap.objs.size f cdv cl))) (hK:K=G.K) (hE:∀u H',E u none H'->E0 u none H') (hF:BD E):
  Good (jI P w K mg base N qual scope f cdv cl A outer s0 H0 E0) G E k where
 calm:=rfl
 room:=hr
 K:=hK
 own:=Am
 pas:=by intro pins σ H s u s' I ⟨e,C,H',eu,os,bare,un,hok,fl,he⟩;subst eu;have I':=I.call' os un hok bare (λb z=>absurd z (by simp));refine aa (BC (P:=P) (w:=w) (H:=H') (base:=base) I'.ok.frames I'.stack rfl hok I'.stkFree fl λh'' H'' un2 hok2 fl2 sx=>?_);have I2:=I'.call (h':=h'') (g':=s'.gens) (d':=s'.drawn) (t':=s'.toks) un2 hok2 I'.bare (λb z=>absurd z (by simp));obtain⟨T,a0,h1,_⟩:=id fl;obtain⟨T2,a2,h3,_⟩:=id fl2;have xe1:dF C e T a0 s'.heap:=(show ObjOk P w H' s'.heap e _ from hok e _ h1).1;have:E (.ref e) none H'':=hF e H' H'' sx ⟨C,T,a0,T2,a2,h1,⟨_,xe1⟩,h3⟩ he;exact⟨e,C,H'',rfl,I2.os,I2.bare,I2.base,hok2,fl2,hE _ _ this⟩
 rais:=by intro pins σ H s h' e C args I mx he;refine aa (IE (P:=P) (w:=w) (H:=H) (base:=base) I.ok.frames I.stack rfl I.hok I.stkFree I.bk mx λh'' H'' un2 hok2 fl2 sm=>?_);have I2:=I.call (h':=h'') (g':=s.gens) (d':=s.drawn) (t':=s.toks) un2 hok2 I.bare (λb z=>absurd z (by simp));obtain⟨T2,a2,h3,_⟩:=id fl2;exact⟨e,C,H'',rfl,I2.os,I2.bare,I2.base,hok2,fl2,hE _ _ (he H'' sm ⟨T2,a2,h3⟩)⟩
end
def IU {α:Type}:Rs α->Sr
 | .ex c h=>.ex c h
 |_=>.bad
section
variable{P:bg}{w:cq}{K:ar}{mg:Str->Option af}{base:cx}{N:List Str}{params:ku}{body:bj}{scope:gw}{f c':ah}{cl:List (Str×ah)}{A:cn}{outer:List Env}{s:ag}{H:Hp}{E:XK}{G:Cfg}{k:Nat}{μ:Nat->ah}{h:Hs}{ds:List Dv}
theorem WN {h1:cx}{tk:Nat}{σ:St}{E₀:XK}(S:LamScope N scope) (hd:A.handled=none) (e0:Env0 P w K mg base A outer s H) (L:LamAt G base H μ h.length N params body scope f c' cl ds)
  (hall:∀x c,cl.lookup x=some c->x∈N)
  (hns:h1.Ns s.heap.objs.size λ_=>none) (hk1:∀b o,s.heap.get? b=some o->h1.get? b=some o)
  (hσ:σ.length=N.length) (hv:∀(i:Nat) (x:Str) (v:V),N[i]?=some x->σ[i]?=some (some v)->∃c o u,cl.lookup x=some c/\base.get? c=some o/\o.data=.cell (some u)/\RelV v u):
  Inv (jI P w K mg base N G.lq scope f (.ref c') cl A outer s H E₀) [] σ H { s with heap:=h1,toks:=tk }:=by
 have noA:∀b:ah,b∉(jI P w K mg base N G.lq scope f (.ref c') cl A outer s H E₀).ex:=λb z=>absurd (show b∈([]:List ah) from z) (by simp);have kfree:∀x,scope.names.lookup x=some .free->x∈N:=λx e=>S.all _ (ff e) rfl;refine⟨⟨e0.mod,S.kind,rfl,rfl,ak _,L.inj,λx hx=>?_,λx c z=>(nomatch z),λ_=>hd,Ak e0.frames,.inr ⟨rfl,rfl⟩,λb z=>absurd z (noA b),e0.bs,e0.bsz,λb _ _=>noA b,λb z=>absurd z (noA b),e0.funs,e0.frf⟩,
  rfl,e0.bare,Un.kept hk1,⟨_,hns,λi x v h1' h2 h3=>?_⟩,λx c e=>?_,e0.hok.fresh (ak _),λx c e=>?_,λp hp=>absurd (show p∈([]:List (ah×Obj)) from hp) (by simp),e0.hok.kept hk1,hσ⟩
 ·have hx:scope.names.lookup x=some .cell∨scope.names.lookup x=some .free:=hx
  rcases hx with hx|hx
  ·exact absurd rfl (S.nocell _ (ff hx))
  ·obtain⟨i,hi⟩:=List.getElem?_of_mem (kfree x hx);exact L.at_ i x hi
 ·obtain⟨c,o,u,e1,e2,e3,r⟩:=hv i x v h1' h2;refine⟨u,r,.inr ⟨.inr (S.fr x (bw h1')),c,e1,o,hk1 _ _ (e0.bs _ _ e2).1,e3⟩⟩
 ·obtain⟨o,u,e2,e3⟩:=L.cell x c e;exact⟨u,o,hk1 _ _ (e0.bs _ _ e2).1,e3⟩
 ·obtain⟨o,u,e2,e3⟩:=L.cell x c e;exact(e0.bs _ _ e2).2
theorem WO {me:M Dv}{Q:VK}(S:LamScope N scope) (hK:K=G.K) (hb:∀(cl:List (Str×ah)) (pm cdv ct:af),bindArgs (pd "<lambda>" G.lq params body scope cl pm cdv ct) ⟨[],[]⟩=pure [])
  (hbody:∀(f:ah) (cdv:af) (cl:List (Str×ah)) (A:cn) (outer:List Env) (s:ag) (H:Hp) (E₀ E:XK),Good (jI P w K mg base N G.lq scope f cdv cl A outer s H E₀) G E k->aI (jI P w K mg base N G.lq scope f cdv cl A outer s H E₀) G E body me)
  (hr:Room (k+1) A) (e0:Env0 P w K mg base A outer s H) (L:LamAt G base H μ h.length N params body scope f c' cl ds) (hall:∀x c,cl.lookup x=some c->x∈N) (sm:Sim G μ h H) (o:Out G E μ h.length H (me (ds.map some) h) (RelD G) Q):
  codeAny (model P w) A (.call (.ref f) ⟨[],[]⟩) (CR (bO P w base) outer P w H s Q E) s:=by
 obtain⟨pm,ctv,ho⟩:=L.ob;obtain⟨oc,hc,vs,t,hcd,hq⟩:=L.cd;have lim:s.heap.NoLimit:=e0.mod.nolimit.keeps λb o e=>(e0.bs b o e).1;have gc:s.heap.get? c'=some oc:=(e0.hok c' _ hc).1;refine PySem.W.kla_callFunE hr.depth (e0.hok f _ ho).1 rfl S.co S.gen rfl ⟨c',oc,vs,t,rfl,gc,hcd,hq⟩ ?_;rw[hb];refine ai (wpAny_newFunctionEnv S.nocell (λx hx=>absurd hx (by simp)) (λh₁ hns hsb=>⟨lim.fresh _ hsb, ?_⟩) S.kind);show codeAny _ _ (.expr body (lr G.lq scope s.heap.objs.size f (.ref c') cl)) _ _;have hk₁:∀b o,s.heap.get? b=some o->h₁.get? b=some o:=λb o e=>hsb.extBut b o (bf (av e)) (aj _ e);have hvs:∀(i:Nat),i<N.length->∃v:V,∀d,ds[i]?=some d->RelD G μ h.length H d v/\∀x,N[i]?=some x->∃c o u,cl.lookup x=some c/\base.get? c=some o/\o.data=.cell (some u)/\RelV v u:=λi hi=>by
  obtain⟨x,hx⟩:∃x,N[i]?=some x:=⟨_,bc hi⟩
  obtain⟨d,hd⟩:∃d,ds[i]?=some d:=⟨_,bc (by rw[L.len];exact hi)⟩
  obtain⟨c,ec⟩:=L.at_ i x hx;obtain⟨oo,u,v,e1,e2,r1,r2⟩:=L.val i x c d hx hd ec;refine⟨v,λd' hd'=>?_⟩;rw[hd]at hd';cases hd';refine⟨r2,λx' hx'=>?_⟩;rw[hx]at hx';cases hx';exact⟨c,oo,u,ec,e1,e2,r1⟩
 have hch:∃vs:List V,vs.length=N.length/\∀(i:Nat) (v:V),vs[i]?=some v->∀d,ds[i]?=some d->RelD G μ h.length H d v/\∀x,N[i]?=some x->∃c o u,cl.lookup x=some c/\base.get? c=some o/\o.data=.cell (some u)/\RelV v u:=by
  have:∀m,m<=N.length->∃vs:List V,vs.length=m/\∀(i:Nat) (v:V),vs[i]?=some v->∀d,ds[i]?=some d->RelD G μ h.length H d v/\∀x,N[i]?=some x->∃c o u,cl.lookup x=some c/\base.get? c=some o/\o.data=.cell (some u)/\RelV v u:=by
   intro m
   induction m with
   |zero=>exact λ_=>⟨[],rfl,λi v e=>by simp at e⟩
   |succ m ih=>
    intro hm;obtain⟨vs,hl,hv⟩:=ih (by omega);obtain⟨v,hv'⟩:=hvs m (by omega);refine⟨vs++[v],by simp[hl],λi v' e d hd=>?_⟩
    by_cases hi:i<vs.length
    ·rw[dk hi]at e;exact hv i v' e d hd
    ·rw[dy (by omega)]at e;have:i=m:=by have:=(ba.mp e).1;simp at this;omega
     subst this;simp[hl]at e;subst e;exact hv' d hd
  exact this _ (ak _)
 obtain⟨vs',hl,hv⟩:=hch;have I:Inv (jI P w K mg base N G.lq scope f (.ref c') cl A outer s H E) [] (vs'.map some) H { s with heap:=h₁,toks:=s.toks+([]:List (Str×af)).length }:=by
  refine WN S hr.hd e0 L hall hns hk₁ (by simp[hl]) λi x v h1 h2=>?_;have h3:vs'[i]?=some v:=by
   rw[dv]at h2
   cases q:vs'[i]? with
   |none=>rw[q]at h2;cases h2
   |some a=>rw[q]at h2;cases h2;rfl
  obtain⟨d,hd⟩:∃d,ds[i]?=some d:=⟨_,bc (by rw[L.len];exact(ba.mp h1).1)⟩
  exact(hv i v h3 d hd).2 x h1
 have rs:RelS G μ h.length H (ds.map some) (vs'.map some):=⟨by simp[hl,L.len],λi d e=>by
  have h3:ds[i]?=some d:=by
   rw[dv]at e
   cases q:ds[i]? with
   |none=>rw[q]at e;cases e
   |some a=>rw[q]at e;cases e;rfl
  have hi:i<vs'.length:=by rw[hl,<-L.len];exact(ba.mp h3).1
  exact⟨vs'[i],by rw[dv,bc hi];rfl,(hv i _ (bc hi) d h3).1⟩⟩
 have gd:Good (jI P w K mg base N G.lq scope f (.ref c') cl A outer s H E) G (EB G μ h.length H (IU (me (ds.map some) h))) k:=WM (hr.deeper _) hK (λu H' ⟨c,h',μ',er,x,s',fl⟩=>by
  cases q:me (ds.map some) h with
  |ok d hh=>rw[q]at er;cases er
  |bad=>rw[q]at er;cases er
  |ex c1 h1=>rw[q]at er o;cases er;exact o μ' H' u x s' fl) BF
 refine PySem.W.kla_codeExpr (ki (hbody f (.ref c') cl A outer s H E _ gd hK [] _ (vs'.map some) H Q I ⟨μ,ds.map some,h,rs,sm, ?_⟩) (λu s' ⟨v,H',J,rv,q⟩=>⟨v,H',J.os,J.bare,J.base,J.hok,rv,q⟩) λe s' hs=>hs)
 cases q:me (ds.map some) h with
 |ok d hh=>rw[q]at o;exact o
 |bad=>rw[q]at o;exact o
 |ex c1 h1=>exact λμ' H' u x' s' fl=>⟨c1,h1,μ',rfl,x',s',fl⟩
end
section
variable{X:Cx}{pins:List (ah×Obj)}{σ:St}{H:Hp}{s:ag}
theorem WQ {i:Nat}{x:Str}{h':cx}{tk:Nat}{m:Str->Option af}{v:Option af}(I:Inv X pins σ H s) (hN:X.N.Nodup) (hi:X.N[i]?=some x) (hn:s.heap.Ns X.env.locals m)
  (hl:∀(i:Nat) (x:Str) (v:V),X.N[i]?=some x->σ[i]?=some (some v)->qP X.env.scope x->∃u,RelV v u/\FL X.env s.heap m x u)
  (hs:ij X.env.locals s.heap h') (hn':h'.Ns X.env.locals (λy=>if y=x then v else m y)):Inv X pins (σ.set i none) H { s with heap:=h',toks:=tk }:=by
 have cne:=I.cne;have hok:HOk X.prog X.w H h':=λb ob e=>by
  refine(I.hok b ob e).stay (λc w' hc q=>(hs.2 c ?_).trans q) (λ_ q=>q) λ_ _ q=>q
  rintro rfl
  have hfree:=I.free
  rcases hc with hc|hc
  ·rw[<-hc]at e;rw[hfree]at e;cases e
  ·rw[hfree]at hc;cases hc
 refine⟨I.ok,I.os,I.bare,⟨λb o e n hb hx=>?_,λb o e n hb hx=>?_,I.base.free,λb o e hx=>?_,I.base.tups,I.base.frzs,I.base.tbls⟩,⟨_,hn',λj y v' e1 e2 e3=>?_⟩,λy c e=>?_,I.free,I.freeC,λp hp=>?_,hok,by simpa using I.len⟩
 ·exact(hs.2 b (bf (aw (av e) I.ok.above))).trans (I.base.keep b o e n hb hx)
 ·obtain⟨sl,e1⟩:=I.base.slot b o e n hb hx;exact⟨sl,(hs.2 b (bf (aw (av e) I.ok.above))).trans e1⟩
 ·obtain⟨o',e1⟩:=I.base.there b o e hx;exact⟨o',(hs.2 b (bf (aw (av e) I.ok.above))).trans e1⟩
 ·by_cases hj:j=i
  ·subst hj;have hiσ:j<σ.length:=by rw[I.len];exact(ba.mp hi).1
   rw[dm hiσ]at e2;cases e2
  ·rw[fh (de hj)]at e2;obtain⟨u',r',q⟩:=hl j y v' e1 e2 e3;refine⟨u',r', ?_⟩
   rcases q with⟨k,e⟩|⟨k,c,e,z⟩
   ·refine .inl ⟨k, ?_⟩;have:y≠x:=λe=>hj (zZ hN e1 (e▸hi));show(if y=x then v else m y)=some u';rw[if_neg this];exact e
   ·exact .inr ⟨k,c,e,z.sameBut hs (cne y c e)⟩
 ·obtain⟨w',z⟩:=I.cell y c e;exact⟨w',z.sameBut hs (cne y c e)⟩
 ·obtain⟨e,n,ne,nf,d⟩:=I.pin p hp;exact⟨(hs.2 p.1 ne).trans e,n,ne,nf,d⟩
def rA (X:Cx) (e:af):Cx:={ X with A:=X.A.mark (some e),calm:=false,xe:=λ_ _=>False }
theorem IV (e:af) (I:Inv X pins σ H s):Inv (rA X e) pins σ H s:=
 have ok:=I.ok
 ⟨⟨ok.mod,ok.kind,ok.glob,ok.blt,ok.above,ok.inj,ok.has,ok.cab,λz=>(nomatch z),ok.frames,ok.stk,ok.exf,ok.bs,ok.bsz,ok.noex,ok.exfs,ok.funs,ok.frf⟩,I.os,I.bare,I.base,I.loc,I.cell,I.free,I.freeC,I.pin,I.hok,I.len⟩
theorem WR {e:af}(ok:X.Ok) (I:Inv (rA X e) pins σ H s):Inv X pins σ H s:=⟨ok,I.os,I.bare,I.base,I.loc,I.cell,I.free,I.freeC,I.pin,I.hok,I.len⟩
end
section
variable{X:Cx}{G:Cfg}{E:XK}{k:Nat}{N:List Str}{params:ku}{body:bj}{scope:gw}{me:M Dv}{ncl:Nat}{NE:ah}
theorem WS {x xn en nm:Str}{p cpos epos np xp ep apos hpos tpos:Pos}{pins:List (ah×Obj)}{σ:St}{H:Hp}{s:ag}{D:Ends}{f c':ah}{cl:List (Str×ah)}{μ:Nat->ah}{h:Hs}{ds:List Dv}
  (hK:X.K=G.K) (hst:X.stack=X.env::X.outer) (hfr:X.env.frame=some X.env.locals) (hnd:X.N.Nodup) (h0:X.N[0]?=some x) (h1:X.N[1]?=some xn) (h2:X.N[2]?=some en) (hfn:∀y,X.fn y=true)
  (l0:X.env.scope.names.lookup x=some .local) (l1:X.env.scope.names.lookup xn=some .local) (l2:X.env.scope.names.lookup en=some .local)
  (d0:(x==("__debug__" : Str))=false) (c0:(x==("__classdict__" : Str))=false) (d2:(en==("__debug__" : Str))=false) (c2:(en==("__classdict__" : Str))=false) (dn:(nm==("__debug__" : Str))=false)
  (hsw:swapsWith (.Call (.Name x p) [] [] cpos) none epos.line X.env=pure false) (hsw2:swapsWith (.Name en ep) (some (.Name xn xp)) apos.line X.env=pure false)
  (hg:Gl X nm) (hm:X.mg nm=some (.ref NE)) (hx1:jt X.K (.ref NE) (.type "BaseException")=some true) (hx2:jt X.K (.type "type") (.type "tuple")=some false) (hx3:wd X.K (.ref NE) (.ref NE)=some true)
  (hsub:∀c,c<ncl->jt X.K (.ref (G.cl c)) (.ref NE)=some true)
  (S:LamScope N scope) (hb:∀(cl:List (Str×ah)) (pm cdv ct:af),bindArgs (pd "<lambda>" G.lq params body scope cl pm cdv ct) ⟨[],[]⟩=pure [])
  (hbody:∀(f:ah) (cdv:af) (cl:List (Str×ah)) (A:cn) (outer:List Env) (s:ag) (H:Hp) (E₀ E:XK),Good (jI X.prog X.w X.K X.mg X.base N G.lq scope f cdv cl A outer s H E₀) G E k->aI (jI X.prog X.w X.K X.mg X.base N G.lq scope f cdv cl A outer s H E₀) G E body me)
  (hr:Room (k+1) X.A) (I:Inv X pins σ H s) (hσ:σ[0]?=some (some (.ref f))) (L:LamAt G X.base H μ h.length N params body scope f c' cl ds) (hall:∀x c,cl.lookup x=some c->x∈N) (sm:Sim G μ h H)
  (hD:match me (ds.map some) h with
   | .ok _ h1=>∀μ' H',Ext μ h.length H μ' h1.length H'->Sim G μ' h1 H'->D.nx σ H'
   | .ex c h1=>c<ncl/\∀μ' H' a,Ext μ h.length H μ' h1.length H'->Sim G μ' h1 H'->RelD G μ' h1.length H' (.exc c) (.ref a)->D.nx (((σ.set 2 (some (.ref a))).set 1 (some (.ref a))).set 2 none) H'
   | .bad=>False):
  wpAny (model X.prog X.w) X.A (exec (.Try [.Expr (.Call (.Name x p) [] [] cpos) epos] [.ExceptHandler (some (.Name nm np)) (some en) [.Assign [.Name xn xp] (.Name en ep) apos] hpos] [] [] tpos) X.env) (SP X pins D) X.xe s:=by
 have hcls:(X.env.scope.kind==.class||(X.env.scope.kind==.module&&X.env.locals != X.env.globals))=false:=by rw[I.ok.kind];rfl
 refine wpAny_Try_except ?_;obtain⟨pm,ctv,ho⟩:=L.ob;refine pb (wpAny_Expr_any (my (aW (ki (AA (X:=X.nox) (pos:=p) h0 (.inl l0) d0 c0 pins s σ H (λv H'=>v=.ref f/\H'=H) (I.wish _) ⟨_,hσ,rfl,rfl⟩) (λ_ _ q=>q) λ_ _ z=>gq z) λu s1 ⟨v,H',I',r,e1,e2⟩=>?_)) I.quiet hsw);subst e1;subst e2;cases r;have I1:Inv X pins σ H' s1:=I'.unwish;refine PySem.W.callWith_F0 ⟨_,_,_,_,(I1.hok f _ ho).1⟩ ?_;refine Au (nu (WO (E:=EB G μ h.length H' (IU (me (ds.map some) h))) (Q:=λ_ H2=>∃d hh μ',me (ds.map some) h=.ok d hh/\Ext μ h.length H' μ' hh.length H2/\Sim G μ' hh H2) S hK hb hbody hr I1.env0 L hall sm ?_) λr s' hq=>?_)
 ·cases q:me (ds.map some) h with
  |ok d hh=>exact λμ' H' v x' s' _=>⟨d,hh,μ',rfl,x',s'⟩
  |bad=>rw[q]at hD;exact hD.elim
  |ex c1 h1=>exact λμ' H' u x' s' fl=>⟨c1,h1,μ',rfl,x',s',fl⟩
 cases r with
 |ok fl=>
  cases fl with
  |ret u=>obtain⟨v,H2,I2,r2,d,hh,μ',e1,x1,s1⟩:=I1.after hq;refine mf (mf ?_);rw[e1]at hD;exact⟨σ,H2,I2,hD μ' H2 x1 s1⟩
  |next=>exact gq hq
  |brk=>exact gq hq
  |cont=>exact gq hq
 |error ev=>
  obtain⟨e,C,H2,rfl,os,bare,un,hok,fl,c,hh,μ',er,x1,sm1,e',φ,eu,g1,g2⟩:=hq;cases eu
  cases qm:me (ds.map some) h with
  |ok d h3=>rw[qm]at er;cases er
  |bad=>rw[qm]at er;cases er
  |ex c3 h3=>
  rw[qm]at er hD;cases er;obtain⟨hc,hD⟩:=hD;have I2:Inv X pins σ H2 s':=I1.call' os un hok bare (λb z=>absurd z (by simp));refine BC (P:=X.prog) (w:=X.w) (H:=H2) (base:=X.base) (env:=X.env) (outer:=X.outer) (by rw[<-hst];exact I2.ok.frames) (by rw[<-hst];exact I2.stack) hfr hok (by rw[<-hst];exact I2.stkFree) fl λh4 H4 un4 hok4 fl4 sx4=>?_;have I4:Inv X pins σ H4 { s' with heap:=h4 }:=I2.call (h':=h4) (g':=s'.gens) (d':=s'.drawn) (t':=s'.toks) (by rw[hst];exact un4) hok4 I2.bare (λb z=>absurd z (by simp));obtain⟨sm4,x4⟩:=sm1.sameX sx4 ⟨_,g1⟩;obtain⟨T,a0,w1,w2,w3,w4⟩:=id fl4;obtain⟨T0,b0,v1,_,_,_⟩:=id fl;have hC:C=.ref (G.cl c):=by have xo:dF C e T0 b0 s'.heap:=(show ObjOk X.prog X.w H2 s'.heap e _ from hok e _ v1).1;rw[v1]at g1;cases g1;obtain⟨oo,q1,q2⟩:=g2 _ xo;obtain⟨o2,vs2,q3,q4,_⟩:=xo;rw[q3]at q1;cases q1;rw[<-q4,q2]
  subst hC;have xo4:dF (.ref (G.cl c)) e T a0 h4:=(show ObjOk X.prog X.w H4 h4 e _ from hok4 e _ w1).1;obtain⟨oe,vs,y1,y2,y3,y4,y5,y6⟩:=id xo4;refine wpAny_handleBy_cons (codeAny_handlers_test (ki (sH (X:=rA X (.ref e)) (E:=λ_ _=>False) (Q:=λu s5=>u=.ref NE/\Inv X pins σ H4 s5/\s5.heap=h4) (IV _ I4) hg hm ⟨rfl,I4,rfl⟩ dn) (λcv s5 hs5=>?_) λ_ _ z=>gq z)) (by intro z;cases z);obtain⟨rfl,I5,e5⟩:=hs5;refine WK (K:=X.K) I5.kIn (by rw[e5];exact y1) y2 hx1 hx2 hx3 (hsub c hc) ?_;obtain⟨oT,ts,z1,z2,z3⟩:dM T h4:=(show ObjOk X.prog X.w H4 h4 T _ from hok4 T _ w2).1;have l3:3<ts.size:=(dh.mp z3).1;refine codeAny_handlers_suite_as (IA (e:=e) (T:=T) (by rw[e5];exact y1) y3 y5 (by rw[e5];exact z1) z2 l3 λh6 sb6 tb6=>?_);rw[e5]at sb6;have ge6:h6.get? e=some oe:=sb6.extBut _ _ (de w4) y1;have I6:Inv X pins σ (aQ H4 T (.ext (dM T))) { s5 with heap:=h6 }:=I5.write (x:=T) (e:=T) (o:=.ext (dM T)) (h':=h6) (t':=s5.toks) (by rw[w2];trivial) (.inl rfl) (λb u hb q=>by rw[e5]at q;exact sb6.extBut _ _ hb q) (let ⟨oo,_,q,_⟩:=tb6;⟨oo,q⟩) (wJ tb6);have se:Same H4 (aQ H4 T (.ext (dM T))):=λb o q=>by
   by_cases hb:b=T
   ·subst hb;rw[w2]at q;cases q;exact cK
   ·rw[bK hb];exact q
  have w1':(aQ H4 T (.ext (dM T))) e=some (.ext (dF (.ref (G.cl c)) e T a0)):=se _ _ w1;have I7:Inv X pins σ (aQ (aQ H4 T (.ext (dM T))) e (.frz oe (.own 0))) { s5 with heap:=h6 }:=I6.write (x:=e) (e:=e) (o:=.frz oe (.own 0)) (h':=h6) (t':=s5.toks) (by rw[w1'];trivial) (.inl rfl) (λb u hb q=>q) ⟨_,ge6⟩ ⟨ge6,oe,ge6⟩;have sx7:tL e (aQ H4 T (.ext (dM T))) (aQ (aQ H4 T (.ext (dM T))) e (.frz oe (.own 0))):=λb o hb q=>by rw[bK hb];exact q
  obtain⟨sm7,x7⟩:=(sm4.same se).sameX sx7 ⟨_,w1'⟩;have xx:Ext μ h.length H' μ' hh.length (aQ (aQ H4 T (.ext (dM T))) e (.frz oe (.own 0))):=x1.trans ((x4 _).trans ((Ext.same se).trans (x7 _)));generalize hH7:aQ (aQ H4 T (.ext (dM T))) e (.frz oe (.own 0))=H7 at *;have rl:RelD G μ' hh.length H7 (.exc c) (.ref e):=by rw[RelD,<-hH7];exact⟨e,oe,.own 0,rfl,cK,y2,y6,vs,y3⟩
  refine sG (v:=.ref e) I7 hnd h2 (.inl l2) rfl (λs8 I8=>?_) (.inr l2);have I8':Inv (rA X (.ref e)) pins (σ.set 2 (some (.ref e))) H7 s8:=IV _ I8;have hlen:2<σ.length:=by rw[I.len];exact(ba.mp h2).1
  refine ki (FP (AF (X:=rA X (.ref e)) (i:=1) (pos:=apos) (pos':=xp) hnd h1 (.inl l1) (AA (X:=rA X (.ref e)) (pos:=ep) h2 (.inl l2) d2 c2) hsw2 (.inr l1)) pins s8 (σ.set 2 (some (.ref e))) H7 { nx:=λσ' H'=>σ'=(σ.set 2 (some (.ref e))).set 1 (some (.ref e))/\H'=H7,rt:=λ_ _=>False } I8' ⟨.ref e,dm hlen,rfl,rfl⟩) (λfl9 s9 hs9=>?_) λ_ _ z=>gq z
  cases fl9 with
  |ret u=>obtain⟨_,_,_,_,_,z⟩:=hs9;exact z.elim
  |brk=>obtain⟨_,_,_,z⟩:=hs9;exact z.elim
  |cont=>obtain⟨_,_,_,z⟩:=hs9;exact z.elim
  |next=>obtain⟨σ9,H9,I9,e9,f9⟩:=hs9;subst e9;subst f9;have I9':Inv X pins _ H9 s9:=WR I8.ok I9;obtain⟨m,hn,hl⟩:=id I9'.loc;refine wpAny_nameGoes_keeps l2 hn hcls λh10 v10 hn10 hs10=>?_;exact⟨_,H9,WQ I9' hnd h2 hn hl hs10 hn10,hD μ' H9 e xx sm7 rl⟩
end
def tR:Sr->Rs Dv
 | .rt d h=>.ok d h
 | .nx _ h=>.ok .non h
 |_=>.bad
def oS (n:Nat) (d:Dv):Ev:=none::some d::xf (n - 2) none
def tS (n ncl:Nat) (mb:MS):Rs Dv->Rs Dv
 | .ok _ h1=>tR (mb (oS n .non) h1)
 | .ex c h1=>if c<ncl then tR (mb (oS n (.exc c)) h1)else .bad
 | .bad=>.bad
def wR (G:Cfg) (base:cx) (Nl:List Str) (params:ku) (body:bj) (scope:gw) (me:M Dv) (n ncl:Nat) (mb:MS):Sp:=λvs H Q E=>∃f c' cl ds μ h,vs=[.ref f]/\LamAt G base H μ h.length Nl params body scope f c' cl ds/\(∀x c,cl.lookup x=some c->x∈Nl)/\Sim G μ h H/\Out G E μ h.length H (tS n ncl mb (me (ds.map some) h)) (RelD G) Q
theorem IW {G:Cfg}{E:XK}{μ μ1:Nat->ah}{n n1:Nat}{H H1:Hp}{r:Sr}{Q:VK}(o:Out G E μ n H (tR r) (RelD G) Q) (x:Ext μ n H μ1 n1 H1):SOut G (λ_ _ _=>False) μ1 n1 H1 r { nx:=λ_ H'=>Q .non H',rt:=Q }:=by
 cases r with
 |nx ρ h'=>exact λμ' H' σ' y s _=>o μ' H' .non (x.trans y) s rfl
 |rt d h'=>exact λμ' H' v y s r=>o μ' H' v (x.trans y) s r
 |bk ρ h'=>exact o.elim
 |ct ρ h'=>exact o.elim
 |ex c h'=>exact o.elim
 |bad=>exact o
theorem IX {G:Cfg}{μ:Nat->ah}{n:Nat}{H:Hp}{m:Nat}{d:Dv}{v:V}{σ:St}(hl:σ.length=m) (hm:2<=m) (h1:σ[1]?=some (some v)) (r:RelD G μ n H d v):RelS G μ n H (oS m d) σ:=by
 refine⟨by simp[oS,hl];omega,λi d' e=>?_⟩;unfold oS at e
 match i,e with
 |0,e=>simp at e
 |1,e=>simp at e;subst e;exact⟨v,h1,r⟩
 |i+2,e=>
  simp only[qz,qw]at e
  split at e <;> cases e
section
variable{P:bg}{w:cq}{K:ar}{mg:Str->Option af}{base:cx}{f:ah}{G:Cfg}{k:Nat}{Nm Nl:List Str}{params:ku}{body:bj}{scope:gw}{me:M Dv}{ncl:Nat}{NE:ah}{mb:MS}
theorem WT {x xn en nm q qual:Str}{st:ig}{fd:bu}{p cpos epos np xp ep apos hpos tpos zpos zp npos:Pos}{j:Nat}{rest:List ig}(Fn:Fun K q qual st f fd) (S:FnScope Nm [x] (bA st)) (hK:K=G.K)
  (hdef:jR st=.Assign [.Name xn zp] (.Constant .none j npos) zpos::.Try [.Expr (.Call (.Name x p) [] [] cpos) epos] [.ExceptHandler (some (.Name nm np)) (some en) [.Assign [.Name xn xp] (.Name en ep) apos] hpos] [] [] tpos::rest)
  (h0:Nm[0]?=some x) (h1:Nm[1]?=some xn) (h2:Nm[2]?=some en)
  (l0:(bA st).names.lookup x=some .local) (l1:(bA st).names.lookup xn=some .local) (l2:(bA st).names.lookup en=some .local)
  (d0:(x==("__debug__" : Str))=false) (c0:(x==("__classdict__" : Str))=false) (d2:(en==("__debug__" : Str))=false) (c2:(en==("__classdict__" : Str))=false) (dn:(nm==("__debug__" : Str))=false)
  (hsw:∀L cd,swapsWith (.Call (.Name x p) [] [] cpos) none epos.line (envOfC qual (bA st) L f cd)=pure false) (hsw2:∀L cd,swapsWith (.Name en ep) (some (.Name xn xp)) apos.line (envOfC qual (bA st) L f cd)=pure false)
  (hsw3:∀L cd,swapsWith (.Constant .none j npos) (some (.Name xn zp)) zpos.line (envOfC qual (bA st) L f cd)=pure false)
  (hg:(bA st).names.lookup nm=some .globalImplicit) (hm:mg nm=some (.ref NE)) (hx1:jt K (.ref NE) (.type "BaseException")=some true) (hx2:jt K (.type "type") (.type "tuple")=some false) (hx3:wd K (.ref NE) (.ref NE)=some true)
  (hsub:∀c,c<ncl->jt K (.ref (G.cl c)) (.ref NE)=some true)
  (LS:LamScope Nl scope) (hb:∀(cl:List (Str×ah)) (pm cdv ct:af),bindArgs (pd "<lambda>" G.lq params body scope cl pm cdv ct) ⟨[],[]⟩=pure [])
  (hbody:∀(f:ah) (cdv:af) (cl:List (Str×ah)) (A:cn) (outer:List Env) (s:ag) (H:Hp) (E₀ E:XK),Good (jI P w K mg base Nl G.lq scope f cdv cl A outer s H E₀) G E k->aI (jI P w K mg base Nl G.lq scope f cdv cl A outer s H E₀) G E body me)
  (hrest:∀(cdv:af) (A:cn) (outer:List Env) (s:ag) (H:Hp) (E₀ E:XK),Good (gX (bO P w base) P w K mg base Nm qual (bA st) f cdv A outer s H E₀) G E (k+1)->jE (gX (bO P w base) P w K mg base Nm qual (bA st) f cdv A outer s H E₀) G E rest mb):
  FnOk P w K mg base (bO P w base) (k+2) f fd [x] (wR G base Nl params body scope me Nm.length ncl mb):=by
 obtain⟨oc,od,kV,doc,pm,an,cdv,ct,osl,rfl,lk,hcd⟩:=Fn.ex;have hNl:2<Nm.length:=(ba.mp h2).1;refine AM lk hcd S (λvs H Q E ⟨f,c',cl,ds,μ,h,e,_⟩=>by rw[e];rfl) λA outer s H vs Q E hr hsp=>?_;obtain⟨fl,c',cl,ds,μ,h,rfl,L,hall,sm,o⟩:=hsp;refine⟨λD σ H1=>σ=start Nm [.ref fl]/\H1=H/\D={ nx:=λ_ H'=>Q .non H',rt:=Q }, ?_,rfl,rfl,rfl⟩;intro pins s1 σ H1 D I ⟨eσ,eH,eD⟩;subst eH;have hσl:σ.length=Nm.length:=I.len;have hσ0:σ[0]?=some (some (.ref fl)):=by rw[eσ];rfl
 rw[hdef];have gd:Good (gX (bO P w base) P w K mg base Nm qual (bA st) f cdv A outer s H1 E) G (λ_ _ _=>False) (k+1):=BE hr hK (λ_ _ z=>z.elim) (λ_ _ _ _ _ z=>z);have hset:(σ.set 1 (some .non))[0]?=some (some (.ref fl)):=by rw[fh (by decide)];exact hσ0
 refine pb (aW (AF (X:=gX (bO P w base) P w K mg base Nm qual (bA st) f cdv A outer s H1 E) (i:=1) (pos:=zpos) (pos':=zp) S.nd h1 (.inl l1) (FN (j:=j) (pos:=npos)) (hsw3 _ _) (.inl rfl) pins s1 σ H1 { nx:=λσ' H'=>σ'=σ.set 1 (some .non)/\H'=H1,rt:=λ_ _=>False } I ⟨rfl,rfl⟩) λfl2 s2 q2=>?_)
 cases fl2 with
 |ret u=>obtain⟨_,_,_,_,_,z⟩:=q2;exact z.elim
 |brk=>obtain⟨_,_,_,z⟩:=q2;exact z.elim
 |cont=>obtain⟨_,_,_,z⟩:=q2;exact z.elim
 |next=>
  obtain⟨σ2,H2,I2,e2,f2⟩:=q2;subst e2;subst f2;refine pb (aW (WS (X:=gX (bO P w base) P w K mg base Nm qual (bA st) f cdv A outer s H2 E) (G:=G) (N:=Nl) (me:=me) (ncl:=ncl) (NE:=NE) (k:=k) (D:={ nx:=wF G (λ_ _ _=>False) mb D,rt:=λ_ _=>False })
   hK rfl rfl S.nd h0 h1 h2 (λ_=>rfl) l0 l1 l2 d0 c0 d2 c2 dn (hsw _ _) (hsw2 _ _) hg hm hx1 hx2 hx3 hsub LS hb hbody hr I2 hset L hall sm ?_) λfl3 s3 q3=>?_)
  ·cases qm:me (ds.map some) h with
   |bad=>rw[qm]at o;exact o
   |ok d hh=>rw[qm]at o;intro μ' H' x' s';refine⟨μ',oS Nm.length .non,hh,IX (v:=.non) (by rw[kg];exact hσl) (by omega) (dm (by omega)) rfl,s', ?_⟩;rw[eD];exact IW o x'
   |ex c hh=>
    rw[qm]at o;unfold tS at o;dsimp only at o
    split at o
    ·rename_i hc;refine⟨hc,λμ' H' a x' s' r'=>?_⟩;refine⟨μ',oS Nm.length (.exc c),hh,IX (v:=.ref a) (by simp only[kg];exact hσl) (by omega) ?_ r',s', ?_⟩
     ·rw[fh (by decide),dm (by simp only[kg];omega)]
     ·rw[eD];exact IW o x'
    ·exact o.elim
  ·cases fl3 with
   |ret u=>obtain⟨_,_,_,_,_,z⟩:=q3;exact z.elim
   |brk=>obtain⟨_,_,_,z⟩:=q3;exact z.elim
   |cont=>obtain⟨_,_,_,z⟩:=q3;exact z.elim
   |next=>obtain⟨σ3,H3,I3,q3⟩:=q3;exact hrest cdv A outer s H2 E _ gd hK pins s3 σ3 H3 D I3 q3
end
theorem WU:∀(l:List af) (a b:Int) (t u:Tok) (c:af),uw l->uw (l++[.int a t,.int b u,c]):=by
 intro l a b t u c h
 fun_induction uw l with
 |case1=>trivial
 |case2 x t y u z rest ih=>exact ih h
 |case3 l h1 h2=>exact h.elim
theorem WV {pos:Pos}{cv c:af}{a b:Int}{t u:Tok}:∀(l:List af),uw l->codeAmong pos (l++[.int a t,.int b u,c])=some cv->codeAmong pos l=some cv∨cv=c:=by
 intro l h
 fun_induction uw l with
 |case1=>
  intro e;simp only[List.nil_append,codeAmong]at e
  split at e
  ·cases e;exact .inr rfl
  ·cases e
 |case2 x t y u z rest ih=>
  intro e;simp only[List.cons_append,codeAmong]at e ⊢
  split at e
  ·rename_i hc;rw[if_pos hc];exact .inl e
  ·rename_i hc;rw[if_neg hc];exact ih h e
 |case3 l h1 h2=>exact h.elim
def nE (mg:Str->Option af) (base:cx):Prop:=∃bm ob,mg "__builtins__" = some (.ref bm)/\bm≠builtinsNs/\base.get? bm=some ob/\ob.cls=.type "module"/\ob.dict=some builtinsNs/\ob.data=.plain
def IY (H H':Hp):Prop:=∀a o,(∀ps,o≠.tbl ps)->H a=some o->H' a=some o
section
variable{X:Cx}{G:Cfg}{params:ku}{body:bj}{scope:gw}{lpos:Pos}{c P:ah}
theorem WW (hdef:defaultsOf params X.env=([],[])) (hq:X.env.qual ++ "<lambda>" = G.lq) (hP:G.tab=some P) (hcode:X.env.code=.ref c) (hC:kq X.base c P) (hB:nE X.mg X.base)
  (hfree:∀x,(x,bz)∈scope.names->X.env.kindOf x=some .cell∨X.env.kindOf x=some .free):
  PE X (.Lambda params body scope lpos) (λσ H Q=>TabOk G H/\∀f c' pm ctv oc H1,IY H H1->TabOk G H1->H1 f=some (.frz (jy "<lambda>" G.lq params body scope (cS X.env scope.names []) pm c' ctv) (.own 0))->H1 c'=some (.frz oc (.own 0))->vT G.lq oc->Q (.ref f) H1):=by
 intro pins s σ H Q I ⟨hT,h⟩;obtain⟨ps,t1,t2,t3⟩:=hT P hP;have gP:s.heap.get? P=some (sk ps):=I.hok P _ t1;have hcl:closureFor scope X.env=pure (cS X.env scope.names []):=GZ λx hx=>I.ok.has x (hfree x hx);have hgs:s.heap.Ns df X.mg:=I.mod.glob.keeps I.bk;obtain⟨bm,ob,b1,b2,b3,b4,b5,b6⟩:=hB;have b3':=I.bk _ _ b3;have hgP:df≠P:=λq=>by obtain⟨o,es,ep,e,hd,_⟩:=hgs;rw[q,gP]at e;cases e;cases hd
 have hbP:bm≠P:=λq=>by rw[q,gP]at b3';cases b3';cases b4
 have hbG:bm≠df:=λq=>by obtain⟨o,es,ep,e,hd,_⟩:=hgs;rw[<-q,b3']at e;cases e;rw[hd]at b6;cases b6
 have hba:s.heap.BuiltinsAt X.mg P:=⟨bm,ob,b1,b2,hbG,hbP,b3',b4,b5,b6⟩
 refine PySem.W.kla_eval hdef ?_;rw[hq]
 cases hc:codeAmong lpos ps.toList with
 |some cv=>obtain⟨c',oc,ec,h2,h3⟩:=t3 lpos cv hc;subst ec;refine PySem.W.kla_makeFunctionHit (mg:=X.mg) hcl I.ok.glob hgs hcode (hC.keeps I.bk) gP t2 hc hba λctv h' tk hk hsz=>?_;have hn:H h'.objs.size=none:=I.hok.fresh hsz;have kk:∀b u,s.heap.get? b=some u->(h'.push { cls:=.type "function",data:=.func (pd "<lambda>" G.lq params body scope (cS X.env scope.names []) ((X.mg "__name__").getD .none) (.ref c') ctv) }).get? b=some u:=λb u q=>aj _ (hk b u q);have gf:=az h' (o:=jy "<lambda>" G.lq params body scope (cS X.env scope.names []) ((X.mg "__name__").getD .none) c' ctv) rfl;have I1:=I.laid (a:=h'.objs.size) (o:=.frz (jy "<lambda>" G.lq params body scope (cS X.env scope.names []) ((X.mg "__name__").getD .none) c' ctv) (.own 0)) (t':=tk) kk hsz ⟨gf,_,gf⟩;have sm:Same H (aQ H h'.objs.size (.frz (jy "<lambda>" G.lq params body scope (cS X.env scope.names []) ((X.mg "__name__").getD .none) c' ctv) (.own 0))):=cL hn;exact⟨.ref h'.objs.size,_,I1,rfl,h _ c' _ ctv oc _ (λa o _ q=>sm a o q) (hT.keep λa o _ _ q=>sm a o q) cK (sm _ _ h2) h3⟩
 |none=>
  refine PySem.W.kla_makeFunction (mg:=X.mg) hcl I.ok.glob hgs hcode (hC.keeps I.bk) gP t2 hc hgP hba λc' ctv h' tk hx hge hlt hrec htb=>?_;obtain⟨c₂,oc,vs,t,e2,hoc,hd,hv⟩:=hrec;cases e2;generalize hfo:jy "<lambda>" G.lq params body scope (cS X.env scope.names []) ((X.mg "__name__").getD .none) c' ctv=fo;have nfo:fo.isFreed=false:=by rw[<-hfo];rfl
  have gf:(h'.push fo).get? h'.objs.size=some fo:=az h' nfo;have goc:(h'.push fo).get? c'=some oc:=aj _ hoc;have gP':=aj fo htb;generalize hps:ps++#[rawInt lpos.line,rawInt lpos.col,.ref c']=ps' at gP';have lP:P<s.heap.objs.size:=av gP;have kk:∀b u,b≠P->s.heap.get? b=some u->(h'.push fo).get? b=some u:=λb u hb q=>aj _ (hx b u hb q);have lt0:∀b u,s.heap.get? b=some u->b<s.heap.objs.size:=λb u q=>av q;have nPc:P≠c':=bf (aw lP hge);have nPf:P≠h'.objs.size:=bf (aw lP (du hge (gy hlt)));have ncf:c'≠h'.objs.size:=bf hlt;have lH:∀b o,H b=some o->b<s.heap.objs.size:=λb o q=>I.hok.lt q;have H1e:∀b,b≠P->b<s.heap.objs.size->aQ (aQ (aQ H P (.tbl ps')) c' (.frz oc (.own 0))) h'.objs.size (.frz fo (.own 0)) b=H b:=λb h1 h2=>by rw[bK (bf (aw h2 (du hge (gy hlt)))),bK (bf (aw h2 hge)),bK h1]
  have eP:aQ (aQ (aQ H P (.tbl ps')) c' (.frz oc (.own 0))) h'.objs.size (.frz fo (.own 0)) P=some (.tbl ps'):=by rw[bK nPf,bK nPc,cK]
  have ec:aQ (aQ (aQ H P (.tbl ps')) c' (.frz oc (.own 0))) h'.objs.size (.frz fo (.own 0)) c'=some (.frz oc (.own 0)):=by rw[bK ncf,cK]
  have ef:aQ (aQ (aQ H P (.tbl ps')) c' (.frz oc (.own 0))) h'.objs.size (.frz fo (.own 0)) h'.objs.size=some (.frz fo (.own 0)):=cK;have cases1:∀b o,aQ (aQ (aQ H P (.tbl ps')) c' (.frz oc (.own 0))) h'.objs.size (.frz fo (.own 0)) b=some o->(b=h'.objs.size/\o=.frz fo (.own 0))∨(b=c'/\o=.frz oc (.own 0))∨(b=P/\o=.tbl ps')∨(b≠P/\H b=some o):=λb o q=>by
   by_cases q1:b=h'.objs.size
   ·subst q1;rw[cK]at q;cases q;exact .inl ⟨rfl,rfl⟩
   rw[bK q1]at q
   by_cases q2:b=c'
   ·subst q2;rw[cK]at q;cases q;exact .inr (.inl ⟨rfl,rfl⟩)
   rw[bK q2]at q
   by_cases q3:b=P
   ·subst q3;rw[cK]at q;cases q;exact .inr (.inr (.inl ⟨rfl,rfl⟩))
   rw[bK q3]at q;exact .inr (.inr (.inr ⟨q3,q⟩))
  generalize aQ (aQ (aQ H P (.tbl ps')) c' (.frz oc (.own 0))) h'.objs.size (.frz fo (.own 0))=H1 at *;have keepO:∀b o,(∀ps,o≠.tbl ps)->H b=some o->H1 b=some o:=λb o hn q=>by rw[H1e b (λz=>by subst z;rw[t1]at q;cases q;exact hn _ rfl) (lH b o q)];exact q
  have un:Un X.fs [] H H1 s.heap (h'.push fo):=by
   have nP:∀b,H b=none->b≠P:=λb n z=>by subst z;rw[t1]at n;cases n
   refine⟨λb o q n _ _=>kk b o (nP b n) q,λb o q n _ _=>⟨o.slots,kk b o (nP b n) q⟩,λb o q n _=>by rw[H1e b (nP b n) (lt0 b o q)];exact n,λb o q _=>?_,λb xs q=>keepO b _ (λ_ z=>by cases z) q,λb o u q=>keepO b _ (λ_ z=>by cases z) q,λb qs q=>?_⟩
   ·by_cases hb:b=P
    ·subst hb;exact⟨_,gP'⟩
    ·exact⟨_,kk b o hb q⟩
   ·by_cases hb:b=P
    ·subst hb;rw[t1]at q;cases q;exact⟨#[rawInt lpos.line,rawInt lpos.col,.ref c'],by rw[eP,hps]⟩
    ·exact⟨#[],by rw[H1e b hb (lH b _ q),q];simp⟩
  have hok1:HOk X.prog X.w H1 (h'.push fo):=λb o q=>by
   rcases cases1 b o q with⟨rfl,rfl⟩|⟨rfl,rfl⟩|⟨rfl,rfl⟩|⟨hb,q⟩
   ·exact⟨gf,_,gf⟩
   ·exact⟨goc,_,goc⟩
   ·exact gP'
   ·refine(I.hok b o q).stay (λb2 u hb2 z=>kk b2 u ?_ z) (λb2 z=>keepO b2 _ (λ_ z=>by cases z) z) λb2 xs z=>keepO b2 _ (λ_ z=>by cases z) z
    rcases hb2 with rfl|hb2
    ·exact hb
    ·rintro rfl;rw[t1]at hb2;cases hb2
  have I1:Inv X pins σ H1 { s with heap:=h'.push fo,toks:=tk }:=I.un un hok1;refine⟨.ref h'.objs.size,H1,I1,rfl,h h'.objs.size c' ((X.mg "__name__").getD .none) ctv oc H1 keepO ?_ (by rw[hfo];exact ef) ec ⟨vs,t,hd,hv⟩⟩;intro P' eP';rw[hP]at eP';cases eP';have hl:ps'.toList=ps.toList++[rawInt lpos.line,rawInt lpos.col,.ref c']:=by rw[<-hps];simp
  refine⟨ps',eP,by rw[hl];exact WU _ _ _ _ _ _ t2,λpos cv q=>?_⟩;rw[hl]at q
  rcases WV _ t2 q with q|q
  ·obtain⟨a,oa,z1,z2,z3⟩:=t3 pos cv q;exact⟨a,oa,z1,keepO a _ (λ_ z=>by cases z) z2,z3⟩
  ·exact⟨c',oc,q,ec,vs,t,hd,hv⟩
end
def qA:List Nat->Ev->Option (List Dv)
 | [],_=>some []
 |i::r,ρ=>match ρ[i]? with
  |some (some d)=>(match qA r ρ with
   |some ds=>some (d::ds)
   |none=>none)
  |_=>none
theorem IZ {ρ:Ev}:∀{caps:List Nat}{ds:List Dv},qA caps ρ=some ds->ds.length=caps.length/\∀(i:Nat) (d:Dv),ds[i]?=some d->∃j,caps[i]?=some j/\ρ[j]?=some (some d)
 | [],ds,e=>by unfold qA at e;cases e;exact⟨rfl,λi d e=>by simp at e⟩
 |j::r,ds,e=>by
  unfold qA at e
  split at e
  ·rename_i d0 h0
   split at e
   ·rename_i ds0 h1;cases e;obtain⟨l,k⟩:=IZ h1;refine⟨by simp[l],λi d q=>?_⟩
    cases i with
    |zero=>simp at q;subst q;exact⟨j,rfl,h0⟩
    |succ i=>exact k i d (by simpa using q)
   ·cases e
  ·cases e
def lR (caps:List Nat) (n ncl:Nat) (mb:MS) (me:M Dv):M Dv:=λρ h=>match qA caps ρ with
 |some ds=>tS n ncl mb (me (ds.map some) h)
 |none=>.bad
def jJ (base h:cx) (cs:List ah):cx:=PySem.W.hideAll h ((bo h.objs.size).filter λb=>!((base.get? b).isSome||cs.contains b))
theorem BM {base h:cx}{cs:List ah}{b:ah}{o:Obj}(e:h.get? b=some o) (hb:(∃u,base.get? b=some u)∨b∈cs):(jJ base h cs).get? b=some o:=
 Aj _ e λz=>by
  have:=(lg.mp z).2
  rcases hb with⟨u,hb⟩|hb
  ·simp[hb]at this
  ·simp[hb]at this
theorem I0 {base h:cx}{cs:List ah}{b:ah}{o:Obj}(e:(jJ base h cs).get? b=some o):h.get? b=some o/\((∃u,base.get? b=some u)∨b∈cs):=by
 have e1:=Ap _ e;refine⟨e1, ?_⟩
 by_cases hb:(∃u,base.get? b=some u)∨b∈cs
 ·exact hb
 ·exfalso
  have hm:b∈(bo h.objs.size).filter λb=>!((base.get? b).isSome||cs.contains b):=by
   refine lg.mpr ⟨bx.mpr (av e1), ?_⟩
   cases q:base.get? b with
   |some u=>exact absurd (.inl ⟨u,q⟩) hb
   |none=>have:b∉cs:=λz=>hb (.inr z);simp[this]
  have:=Ag (h:=h) _ hm;unfold jJ at e;rw[this]at e;cases e
theorem Out.ext {α β:Type}{G:Cfg}{E:XK}{μ μ1:Nat->ah}{n n1:Nat}{H H1:Hp}{r:Rs α}{R:(Nat->ah)->Nat->Hp->α->β->Prop}{Q:β->Hp->Prop}(o:Out G E μ n H r R Q) (x:Ext μ n H μ1 n1 H1):Out G E μ1 n1 H1 r R Q:=by
 cases r with
 |bad=>exact o
 |ex c h'=>exact λμ' H' u y=>o μ' H' u (x.trans y)
 |ok d h'=>exact λμ' H' u y=>o μ' H' u (x.trans y)
theorem JA {env:Env}{scope:gw}{x:Str}{c:ah}(hf:∀x,(x,bz)∈scope.names->∃c,env.cells.lookup x=some c) (e:(cS env scope.names []).lookup x=some c):(x,bz)∈scope.names/\env.cells.lookup x=some c:=by
 rcases vO _ _ e with q|⟨q1,q2⟩
 ·cases q
 ·obtain⟨c',h'⟩:=hf x q1;rw[h']at q2;subst q2;exact⟨q1,h'⟩
section
variable{X:Cx}{G:Cfg}{E:XK}{k:Nat}{q x:Str}{p pos lpos:Pos}{params:ku}{body:bj}{scope:gw}{c P fr:ah}{fdr:bu}{Nl:List Str}{me:M Dv}{n ncl j:Nat}{mb:MS}{caps:List Nat}
theorem WX (g:Good X G E k) (hj:j<=k) (hfn:∀y,X.fn y=true)
  (F:∀base,X.K.In base->base.Ns df X.mg->FnOk X.prog X.w X.K X.mg base (bO X.prog X.w base) j fr fdr [x] (wR G base Nl params body scope me n ncl mb))
  (hg:Gl X q) (hm:X.mg q=some (.ref fr)) (hk:km X.K (.ref fr)=true) (hb:Binds X.K fdr [x] [])
  (hdef:defaultsOf params X.env=([],[])) (hq:X.env.qual ++ "<lambda>" = G.lq) (hP:G.tab=some P) (hcode:X.env.code=.ref c) (hC:kq X.base c P) (hB:nE X.mg X.base)
  (LS:LamScope Nl scope) (hkind:∀y∈Nl,X.env.scope.names.lookup y=some .cell) (hcl:caps.length=Nl.length) (hcap:∀(i j:Nat) (y:Str),caps[i]?=some j->Nl[i]?=some y->X.N[j]?=some y)
  (hdb:(q==("__debug__" : Str))=false) (he:ao [.Lambda params body scope lpos] X.env=[(false,eval (.Lambda params body scope lpos) X.env)]:=by rfl):
  aI X G E (.Call (.Name q p) [.Lambda params body scope lpos] [] pos) (lR caps n ncl mb me):=by
 intro hK pins s σ H Q I ⟨μ,ρ,h,rs,sm,o⟩;unfold lR at o
 cases hcd:qA caps ρ with
 |none=>rw[hcd]at o;exact o.elim
 |some ds=>
 rw[hcd]at o;obtain⟨hdl,hdg⟩:=IZ hcd;have hfree:∀y,(y,bz)∈scope.names->X.env.kindOf y=some .cell∨X.env.kindOf y=some .free:=λy hy=>.inl (hkind y (LS.all _ hy rfl));have hfc:∀y,(y,bz)∈scope.names->∃c,X.env.cells.lookup y=some c:=λy hy=>I.ok.has y (hfree y hy);refine my (sH I hg hm ?_ hdb);refine Av (h₀:=X.base) I.ok.mod.kin hk (aW (gE (WW (G:=G) (lpos:=lpos) (body:=body) hdef hq hP hcode hC hB hfree) iG he pos pins s σ H
  (λvs H1=>∃f c' pm ctv oc,vs=[.ref f]/\IY H H1/\TabOk G H1/\H1 f=some (.frz (jy "<lambda>" G.lq params body scope (cS X.env scope.names []) pm c' ctv) (.own 0))/\H1 c'=some (.frz oc (.own 0))/\vT G.lq oc) I
  ⟨sm.tab,λf c' pm ctv oc H1 st tb e1 e2 e3=>⟨f,c',pm,ctv,oc,rfl,st,tb,e1,e2,e3⟩⟩) λus s1 ⟨vs,H1,I1,r,f,c',pm,ctv,oc,ev,st,tb,e1,e2,e3⟩=>⟨I1.kIn, ?_⟩) he rfl
 subst ev;generalize hcs:cS X.env scope.names []=cl at *;have kb:∀b u,X.base.get? b=some u->(jJ X.base s1.heap (cl.map (·.2))).get? b=some u:=λb u e=>BM (I1.bk _ _ e) (.inl ⟨u,e⟩);have clc:∀y cc,(y,cc)∈cl->cl.lookup y=some cc->X.env.cells.lookup y=some cc:=λy cc _ e=>(JA hfc (by rw[hcs];exact e)).2;have memc:∀b,b∈cl.map (·.2)->∃y,X.env.cells.lookup y=some b:=λb hb=>by
  obtain⟨⟨y,cc⟩,hm1,rfl⟩:=cb.mp hb;have:∀(l:List (Str×ka)) (acc:List (Str×ah)),(∀y cc,(y,cc)∈acc->X.env.cells.lookup y=some cc)->(∀y,(y,bz)∈l->∃c,X.env.cells.lookup y=some c)->∀y cc,(y,cc)∈cS X.env l acc->X.env.cells.lookup y=some cc:=by
   intro l
   induction l with
   |nil=>exact λacc h1 _=>h1
   |cons a l ih=>
    obtain⟨y0,k0⟩:=a;intro acc h1 h2;rw[cS];refine ih _ (λy cc hm2=>?_) λy hy=>h2 y (aq _ hy)
    cases hk0:k0==bz with
    |true=>
     rw[hk0,if_pos rfl]at hm2
     rcases ay.mp hm2 with z|z
     ·cases z;have ek:k0=.free:=by cases k0 <;> first|rfl|cases hk0
      subst ek;obtain⟨c3,h3⟩:=h2 y0 (ax ..);rw[h3];rfl
     ·exact h1 _ _ z
    |false=>rw[hk0,if_neg (by simp)]at hm2;exact h1 _ _ hm2
  exact⟨y,this scope.names [] (λ_ _ z=>by cases z) hfc y cc (by rw[hcs];exact hm1)⟩
 have M0:=I1.ok.mod;have nsk:∀{a:ah}{m:Str->Option af},X.base.Ns a m->(jJ X.base s1.heap (cl.map (·.2))).Ns a m:=λhn=>hn.keeps kb;have hM:Mod X.K X.mg (jJ X.base s1.heap (cl.map (·.2))):=⟨M0.kin.keeps kb,nsk M0.glob,(let ⟨mb,a,b⟩:=M0.blt;⟨mb,nsk a,b⟩),M0.nolimit.keeps kb⟩
 have hbs:∀b u,(jJ X.base s1.heap (cl.map (·.2))).get? b=some u->s1.heap.get? b=some u/\H1 b=none:=λb u e=>by
  obtain⟨g1,g2⟩:=I0 e;refine⟨g1, ?_⟩
  rcases g2 with⟨u',g2⟩|g2
  ·exact(I1.bs _ _ g2).2
  ·obtain⟨y,hy⟩:=memc b g2;exact I1.freeC y b hy
 have nbf:∀b∈dD X.stack,(jJ X.base s1.heap (cl.map (·.2))).get? b=none:=λb hb=>by
  cases qq:(jJ X.base s1.heap (cl.map (·.2))).get? b with
  |none=>rfl
  |some u=>
   exfalso
   obtain⟨g1,g2⟩:=I0 qq
   rcases g2 with⟨u',g2⟩|g2
   ·have:=(I1.stack.mem hb).1;rw[this]at g2;cases g2
   ·obtain⟨y,hy⟩:=memc b g2
    rcases ay.mp (I1.stkSub b hb)with z|z
    ·exact I1.cne y b hy z
    ·obtain⟨v0,ob,ho1,hd1⟩:=I1.cell y b hy;have fm:∀z∈X.fs,z<X.s₀.heap.objs.size:=λz hz=>by obtain⟨_,o2,h2,_⟩:=I1.ok.funs.mem hz;exact av h2
     exact absurd (aw (fm b z) (I1.ok.cab y b (hfn y) hy)) (gh _)
 have hfun:s1.heap.FunFrames (jJ X.base s1.heap (cl.map (·.2))) X.stack:=by
  have all:∀(l:List Env),(∀b∈dD l,b∈dD X.stack)->s1.heap.FunFrames X.base l->s1.heap.FunFrames (jJ X.base s1.heap (cl.map (·.2))) l:=by
   intro l
   induction l with
   |nil=>intro _ _;trivial
   |cons env r ih=>
    intro hs hl;obtain⟨hk',⟨L,o',hf',hn',ho',hd'⟩,hr'⟩:=hl;have hL:L∈dD (env::r):=by unfold dD;rw[cj,hf'];exact ax
    exact⟨hk',⟨L,o',hf',nbf L (hs L hL),ho',hd'⟩,ih (λb hb=>hs b (by unfold dD;rw[cj,hf'];exact aq _ hb)) hr'⟩
  exact all X.stack (λ_ hb=>hb) I1.stack
 have e0:Env0 X.prog X.w X.K X.mg (jJ X.base s1.heap (cl.map (·.2))) X.A X.stack s1 H1:=⟨I1.ok.frames,hM,hbs,mz (Af _ _),hfun,I1.stkFree,I1.hok,I1.bare⟩
 have xt:Ext μ h.length H μ h.length H1:=⟨ak _,λ_ _=>rfl,λa u im z=>st a u (λps w=>by subst w;exact im) z⟩
 have sm1:Sim G μ h H1:=⟨sm.inj,λi ob z=>by
  have r0:=sm.ob i ob z
  cases ob with
  |lst xs=>obtain⟨vs,z1,z2⟩:=r0;exact⟨vs,st _ _ (λ_ w=>by cases w) z1,RelDL.mono xt _ _ z2⟩,tb⟩
 have look:∀y cc,cl.lookup y=some cc->(y,bz)∈scope.names/\X.env.cells.lookup y=some cc:=λy cc e=>JA hfc (by rw[hcs];exact e);have memL:∀y cc,cl.lookup y=some cc->cc∈cl.map (·.2):=λy cc e=>cb.mpr ⟨(y,cc),ff e,rfl⟩;have L:LamAt G (jJ X.base s1.heap (cl.map (·.2))) H1 μ h.length Nl params body scope f c' cl ds:=by
  refine⟨⟨pm,ctv,e1⟩,⟨oc,e2,e3⟩,λy z cc a b=>I1.ok.inj y z cc (look y cc a).2 (look z cc b).2,hdl.trans hcl,λi y hy=>?_,λy cc e=>?_,λi y cc d hy hd e=>?_⟩
  ·have hf1:=LS.fr y (bw hy);have:=sR (env:=X.env) (x:=y) scope.names [] (.inl (ff hf1));rw[hcs]at this;exact⟨_,this⟩
  ·obtain⟨v0,ob,ho1,hd1⟩:=I1.cell y cc (look y cc e).2;exact⟨ob,v0,BM ho1 (.inr (memL y cc e)),hd1⟩
  ·obtain⟨jj,hjj,hρ⟩:=hdg i d hd;obtain⟨v,hv,rd⟩:=rs.at_ jj d hρ;have hNj:=hcap i jj y hjj hy;have hyk:=hkind y (bw hy);obtain⟨m,hn,hl⟩:=I1.loc;obtain⟨u,ru,lk⟩:=hl jj y v hNj hv (.inr (.inl hyk))
   rcases lk with⟨kl,_⟩|⟨_,c4,ec4,ob,ho1,hd1⟩
   ·have kl':X.env.scope.names.lookup y=some .local:=kl;rw[hyk]at kl';cases kl'
   ·rw[(look y cc e).2]at ec4;cases ec4;exact⟨ob,u,v,BM ho1 (.inr (memL y cc e)),hd1,ru,RelD.mono xt _ _ rd⟩
 have hall:∀y cc,cl.lookup y=some cc->y∈Nl:=λy cc e=>LS.all _ (look y cc e).1 rfl;have hlen:(us++([]:List af)).length=[x].length:=by rw[lh,<-r.length];rfl
 have hbt:=hb s1 us I1.kIn hlen;rw[lh]at hbt;refine Au (nu ((F _ hM.kin hM.glob).run X.A X.stack s1 H1 ⟨us,[]⟩ us [.ref f] Q E (g.room.mono hj) e0 hbt r ⟨f,c',cl,ds,μ,h,rfl,L,hall,sm1,o.ext xt⟩) λrr s' hq'=>?_)
 cases rr with
 |ok fl=>
  cases fl with
  |ret u=>exact I1.after hq'
  |next=>exact gq hq'
  |brk=>exact gq hq'
  |cont=>exact gq hq'
 |error ev=>
  obtain⟨e,C,H',eu,os,bare,un,hok,fl,hE⟩:=hq';refine g.pas pins σ H1 s1 ev s' I1 ⟨e,C,H',eu,os,bare,un,hok, ?_,hE⟩;obtain⟨T,a0,w1,w2,w3,w4⟩:=fl;refine⟨T,a0,w1,w2, ?_,w4⟩
  cases qq:X.base.get? e with
  |none=>rfl
  |some u=>have:=kb e u qq;rw[w3]at this;cases this
end
section
variable{X:Cx}{G:Cfg}
open Classical in
noncomputable def isT (H:Hp) (tx:Dt) (u:af):Bool:=decide (∃v t,RelV v u/\Den jU H t v/\bH t tx=true)
open Classical in
theorem JB {H:Hp}{tx t:Dt}{u:af}{v:V}(r:RelV v u) (d:Den jU H t v):isT H tx u=bH t tx:=by
 unfold isT
 cases q:bH t tx with
 |true=>exact decide_eq_true ⟨v,t,r,d,q⟩
 |false=>refine decide_eq_false λ⟨v',t',r',d',q'⟩=>?_;have e:=r'.inj r;subst e;rw[Den.inj t' t v' d' d,q]at q';cases q'
theorem BN {H:Hp}{tx:Dt}:∀{ts:List Dt}{vs:List V}{us:List af},DenL jU H ts vs->Vals vs us->us.any (isT H tx)=ts.any λt=>bH t tx
 | [],_,_,d,r=>by rw[DenL]at d;subst d;cases r;rfl
 |t::ts,_,_,d,r=>by
  rw[DenL]at d;obtain⟨v,rr,rfl,d1,d2⟩:=d
  cases r with
  |cons r1 r2=>rw[List.any_cons,List.any_cons,JB r1 d1,BN d2 r2]
def BO (K:ar) (neg:Bool):R2:=λx y H Q=>∃a vs ts tx,y=.ref a/\(SqL K H a vs∨SqT K H a vs)/\DenL jU H ts vs/\Den jU H tx x/\(∀t∈ts,fT t<=bR/\nod t=true)/\nod tx=true/\Q (.bl (if neg then !(ts.any λt=>bH t tx)else ts.any λt=>bH t tx)) H
theorem JC {pins:List (ah×Obj)}{σ:St}{H:Hp}{s:ag}{x:V}{v:af}{vs:List V}{its:List af}{ts:List Dt}{tx:Dt}(hu:X.A.units+64<cLine) (I:Inv X pins σ H s) (rx:RelV x v) (r:Vals vs its) (d:DenL jU H ts vs) (dx:Den jU H tx x)
  (ht:∀t∈ts,fT t<=bR/\nod t=true) (nx:nod tx=true):∀y,y∈its.toArray->ue X.A.in1 s y v (isT H tx y):=λy hy=>by
 have hy':y∈its:=by simpa using hy
 obtain⟨j,hj,e⟩:=tq.mp hy';have hl:=r.length;obtain⟨u,eu,ru⟩:=r.get (i:=j) (x:=vs[j]'(by omega)) (bc (by omega));have:u=y:=by rw[bc hj,e]at eu;cases eu;rfl
 subst this;obtain⟨t,et,dt⟩:=d.get (i:=j) (bc (by omega:j<vs.length));obtain⟨h1,h2⟩:=ht t (bw et);rw[JB ru dt];exact(A1 I.hok bR X.A.in1 t tx _ x _ v h1 (by show X.A.units+1+bR+1<cLine;unfold bR;omega) h2 nx dt dx ru rx).2
theorem WY (hu:X.A.units+64<cLine):OpR X (compareOp .In) (BO X.K false):=by
 intro pins s σ H x y v u Q I r1 r2 ⟨a,vs,ts,tx,e,hs,d,dx,ht,nx,q⟩;subst e;cases r2
 rcases hs with hs|hs
 ·obtain⟨its,r,pl,hz⟩:=I.list hs;refine SeqAt.in_listAt (isT H tx) pl.isList (JC hu I r1 r d dx ht nx) ?_;exact⟨.bl _,H,I,by rw[show its.toArray.any (isT H tx)=its.any (isT H tx)by simp,BN d r];rfl,q⟩
 ·obtain⟨its,r,pl,hz⟩:=I.tuple hs;refine SeqAt.in_tupleAt (isT H tx) pl (JC hu I r1 r d dx ht nx) ?_;exact⟨.bl _,H,I,by rw[show its.toArray.any (isT H tx)=its.any (isT H tx)by simp,BN d r];rfl,q⟩
def rB (scr:List Int) (neg:Bool) (x c:Dv) (h:Hs):Rs Dv:=match hJ scr c h with
 |some ys=>match bI (bM bR h) ys,bM bR h x with
  |some ts,some tx=>.ok (.bl (if neg then !(ts.any λt=>bH t tx)else ts.any λt=>bH t tx)) h
  |_,_=>.bad
 |none=>.bad
theorem JD {μ:Nat->ah}{h:Hs}{H:Hp}(s:Sim G μ h H):∀{xs:List Dv}{vs:List V}{ts:List Dt},RelDL G μ h.length H xs vs->bI (bM bR h) xs=some ts->DenL jU H ts vs/\∀t∈ts,fT t<=bR/\nod t=true
 | [],_,_,r,e=>by cases e;rw[RelDL]at r;subst r;exact⟨DenL.nil,λt ht=>by simp at ht⟩
 |x::xs,_,_,r,e=>by
  rw[RelDL]at r;obtain⟨v,rr,rfl,r1,r2⟩:=r;unfold bI at e
  cases q:bM bR h x with
  |none=>rw[q]at e;cases e
  |some y=>
   rw[q]at e;dsimp only at e
   cases q2:bI (bM bR h) xs with
   |none=>rw[q2]at e;cases e
   |some ys=>
    rw[q2]at e;cases e;obtain⟨a1,a2,a3⟩:=qV s _ x v y r1 q;obtain⟨b1,b2⟩:=JD s r2 q2;refine⟨DenL.cons a1 b1,λt ht=>?_⟩
    rcases ay.mp ht with rfl|ht
    ·exact⟨a2,a3⟩
    ·exact b2 t ht
theorem WZ (neg:Bool):dZ G (BO G.K neg) (rB G.scr neg):=by
 intro E μ h H x y vx vy Q s rx ry o;unfold rB at o
 cases q:hJ G.scr y h with
 |none=>rw[q]at o;exact o.elim
 |some ys=>
  rw[q]at o;dsimp only at o
  split at o
  ·rename_i ts tx e1 e2;obtain⟨a,vs,rfl,hs,r⟩:=A8 s ry q;obtain⟨b1,b2⟩:=JD s r e1;obtain⟨c1,c2,c3⟩:=qV s _ x vx tx rx e2;exact⟨a,vs,ts,tx,rfl,hs,b1,c1,b2,c3,o.val s rfl⟩
  ·exact o.elim
end
section
variable{X:Cx}{G:Cfg}
theorem W0 {M:wk}{A:cn}{E:af->ag->Prop}{s:ag}{x:V}{u:af}{b:Bool}{Q:Bool->ag->Prop}(r:RelV x u) (q:Q (decide (x=.bl b)) s):wpAny M A (isSame u (.bool b)) Q E s:=by
 cases x with
 |non=>cases r;exact ai q
 |bl c=>
  cases r;refine ai ?_;have:decide (V.bl c=V.bl b)=(uc c==uc b):=by cases c <;> cases b <;> rfl
  rw[this]at q;exact q
 |int i=>obtain⟨t,rfl⟩:=r;exact ai q
 |str i=>obtain⟨t,rfl⟩:=r;exact ai q
 |byt i=>obtain⟨t,rfl⟩:=r;exact ai q
 |flt i=>obtain⟨t,rfl⟩:=r;exact ai q
 |ref a=>cases r;exact ai q
 |ty n=>cases r;exact ai q
def JE (neg:Bool):R2:=λx y H Q=>∃b,y=.bl b/\Q (.bl (if neg then !decide (x=.bl b)else decide (x=.bl b))) H
theorem W2:OpR X (compareOp .Is) (JE false):=by intro pins s σ H x y v u Q I rx ry ⟨b,e,q⟩;subst e;cases ry;exact aa (W0 rx (ai ⟨.bl _,H,I,rfl,q⟩))
def wU:Dv->Dv->Option Bool
 | .non,.non=>some true
 |_,.non=>some false
 | .bl a,.bl b=>some (a==b)
 |_,.bl _=>some false
 |_,_=>none
def qB (neg:Bool) (x y:Dv) (h:Hs):Rs Dv:=match wU x y with
 |some b=>.ok (.bl (if neg then !b else b)) h
 |none=>.bad
def JF (neg:Bool):R2:=λx y H Q=>(y=.non/\Q (.bl (if neg then !decide (x=.non)else decide (x=.non))) H)∨JE neg x y H Q
theorem W3:OpR X (compareOp .Is) (JF false):=OpR.or RD W2
theorem W4 {μ:Nat->ah}{n:Nat}{H:Hp}{x:Dv}{v:V}{b:Bool}(r:RelD G μ n H x v) (e:wU x .non=some b):decide (v=.non)=b:=by
 cases x with
 |non=>cases e;rw[RelD]at r;subst r;rfl
 |bl c=>cases e;rw[RelD]at r;subst r;rfl
 |int c=>cases e;rw[RelD]at r;subst r;rfl
 |str c=>cases e;rw[RelD]at r;subst r;rfl
 |tup c=>cases e;obtain⟨a,vs,rfl,_⟩:=r;rfl
 |ref c=>cases e;obtain⟨_,rfl⟩:=r;rfl
 |edc=>cases e;obtain⟨a,rfl,_⟩:=r;rfl
 |exc c=>cases e;obtain⟨a,o,u,rfl,_⟩:=r;rfl
 |scr=>cases e;obtain⟨rfl,_⟩:=r;rfl
theorem W5 {μ:Nat->ah}{n:Nat}{H:Hp}{x:Dv}{v:V}{b c:Bool}(r:RelD G μ n H x v) (e:wU x (.bl c)=some b):decide (v=.bl c)=b:=by
 cases x with
 |non=>cases e;rw[RelD]at r;subst r;rfl
 |bl d=>cases e;rw[RelD]at r;subst r;cases c <;> cases d <;> rfl
 |int c=>cases e;rw[RelD]at r;subst r;rfl
 |str c=>cases e;rw[RelD]at r;subst r;rfl
 |tup c=>cases e;obtain⟨a,vs,rfl,_⟩:=r;rfl
 |ref c=>cases e;obtain⟨_,rfl⟩:=r;rfl
 |edc=>cases e;obtain⟨a,rfl,_⟩:=r;rfl
 |exc c=>cases e;obtain⟨a,o,u,rfl,_⟩:=r;rfl
 |scr=>cases e;obtain⟨rfl,_⟩:=r;rfl
theorem W6 (neg:Bool):dZ G (JF neg) (qB neg):=by
 intro E μ h H x y vx vy Q s rx ry o;unfold qB at o
 cases q:wU x y with
 |none=>rw[q]at o;exact o.elim
 |some b=>
  rw[q]at o
  cases y with
  |non=>rw[RelD]at ry;exact .inl ⟨ry,by rw[W4 rx q];exact o.val s rfl⟩
  |bl c=>rw[RelD]at ry;exact .inr ⟨c,ry,by rw[W5 rx q];exact o.val s rfl⟩
  |_=>cases x <;> cases q
end
def iJ (c:M Bool) (body:MS):Nat->MS
 |0=>λ_ _=>.bad
 |f+1=>λρ h=>(c ρ h).thenS λb h1=>if b=true then(match body ρ h1 with
  | .nx ρ2 h2=>iJ c body f ρ2 h2
  | .ct ρ2 h2=>iJ c body f ρ2 h2
  | .bk ρ2 h2=>.nx ρ2 h2
  |r=>r)else .nx ρ h1
section
variable{X:Cx}{G:Cfg}{E:XK}{c:bj}{body:List ig}{mc:M Bool}{mb:MS}{pos:Pos}
theorem JG (n:Nat) (hp:yj (model X.prog X.w) X.A X.env X.xe) (hc:fY X G E c mc) (hb:jE X G E body mb):iV X G E (.While c body [] pos) (iJ mc mb n):=λhK=>PS.imp (QL hp (hc hK) (hb hK)) λD σ H ⟨μ,ρ,h,rs,s,o⟩=>by
 refine⟨λm σ H=>∃μ ρ h,RelS G μ h.length H ρ σ/\Sim G μ h H/\SOut G E μ h.length H (iJ mc mb m ρ h) D,⟨n,μ,ρ,h,rs,s,o⟩, ?_⟩
 rintro m σ1 H1 ⟨μ1,ρ1,h1,rs1,s1,o1⟩
 cases m with
 |zero=>exact o1.elim
 |succ m=>
  refine HU rs1 s1 o1 λμ2 b h2 H2 x2 rs2 s2 o2=>?_
  cases b with
  |false=>rw[if_neg (by decide)]at o2 ⊢;exact o2 μ2 H2 σ1 Ext.refl s2 rs2
  |true=>
   rw[if_pos rfl]at o2 ⊢;refine⟨λσ' H'=>∃μ ρ h,RelS G μ h.length H' ρ σ'/\Sim G μ h H'/\SOut G E μ h.length H' (iJ mc mb m ρ h) D,λσ' H' z=>⟨m,jo m,z⟩,μ2,ρ1,h2,rs2,s2, ?_⟩
   cases q:mb ρ1 h2 with
   |nx ρ3 h3=>rw[q]at o2;exact λμ4 H4 σ4 x4 s4 pI=>⟨μ4,ρ3,h3,pI,s4,SOut.ext o2 x4⟩
   |ct ρ3 h3=>rw[q]at o2;exact λμ4 H4 σ4 x4 s4 pI=>⟨μ4,ρ3,h3,pI,s4,SOut.ext o2 x4⟩
   |bk ρ3 h3=>rw[q]at o2;exact o2
   |rt d h3=>rw[q]at o2;exact o2
   |ex d h3=>rw[q]at o2;exact o2
   |bad=>rw[q]at o2;exact o2.elim
end
section
variable{X:Cx}{G:Cfg}{E:XK}{e o:bj}{mo me:M Dv}{pos apos cpos np p2:Pos}{y:Str}
def wV (x i:Dv) (h:Hs):Rs Dv:=match x,i with
 | .ref j,.int n=>match getL h j with
  |some xs=>match fI xs.length n with
   |some k=>match xs[k]? with
    |some d=>if xs.length<=1000000 then .ok d (h.set j (.lst (xs.eraseIdx k)))else .bad
    |none=>.bad
   |none=>.bad
  |none=>.bad
 |_,_=>.bad
theorem JH {μ:Nat->ah}{n:Nat}{H:Hp}:∀{ds:List Dv}{vs:List V}(k:Nat),RelDL G μ n H ds vs->RelDL G μ n H (ds.eraseIdx k) (vs.eraseIdx k)
 | [],_,_,h=>by rw[RelDL]at h;subst h;exact RelDL.nil
 |d::ds,_,0,h=>by rw[RelDL]at h;obtain⟨v,r,rfl,h1,h2⟩:=h;exact h2
 |d::ds,_,k+1,h=>by rw[RelDL]at h;obtain⟨v,r,rfl,h1,h2⟩:=h;exact RelDL.cons h1 (JH k h2)
def tT (mo me:M Dv):M Dv:=λρ h=>(mo ρ h).bind λx h1=>if jH x h1=true then(me ρ h1).bind λd h2=>wV x d h2 else .bad
theorem W7 (ho:aI X G E (.Name y np) mo) (he:aI X G E e me) (hs:ao [e] X.env=[(false,eval e X.env)]:=by rfl) (hl:(apos.endLine==cpos.line)=true:=by rfl):aI X G E (.Call (.Attribute (.Name y np) "pop" apos) [e] [] cpos) (tT mo me):=λhK=>
 PE.imp (AU qj PySem.F.slot_list_pop PySem.F.type_list_pop TB (ho hK) (gE (he hK) iG hs) rfl (by rw[hs];rfl) hl hs rfl) λσ H Q ⟨μ,ρ,h,rs,s,oo⟩=>cZ rs s oo λμ1 x h1 vx H1 x1 rs1 s1 r1 o1=>by
  split at o1
  ·rename_i hl;refine⟨BJ s1 r1 hl,cZ rs1 s1 o1 λμ2 d h2 vd H2 x2 rs2 s2 r2 o2=>?_⟩
   cases x with
   |ref j=>
    cases d with
    |int n=>
     dsimp only[wV]at o2
     cases q:getL h2 j with
     |none=>rw[q]at o2;exact o2.elim
     |some xs=>
      rw[q]at o2;dsimp only at o2
      cases q2:fI xs.length n with
      |none=>rw[q2]at o2;exact o2.elim
      |some k=>
       rw[q2]at o2;dsimp only at o2
       cases q3:xs[k]? with
       |none=>rw[q3]at o2;exact o2.elim
       |some d'=>
        rw[q3]at o2;dsimp only at o2
        split at o2
        ·rename_i hz;obtain⟨vs,ea,ra⟩:=s2.ob j _ (dH q);obtain⟨_,rfl⟩:=RelD.mono x2 _ _ r1;rw[RelD]at r2;subst r2;obtain⟨v,ev,rv⟩:=ra.get q3;obtain⟨i1,i2,i3,i4⟩:=AN q2;obtain⟨x3,s3⟩:=s2.write (dH q) (JH k ra);exact⟨_,vs,n,k,v,rfl,rfl,ea,by omega,by omega,by rw[ra.length];exact i1,ev,o2 μ2 _ _ x3 s3 (RelD.mono x3 _ _ rv)⟩
        ·exact o2.elim
    |_=>exact o2.elim
   |_=>exact o2.elim
  ·exact o1.elim
def jK (xs:List Dv) (lo hi:Option Int):List Dv:=(xs.drop (HT.sIx xs.length 0 lo)).take (HT.sIx xs.length xs.length hi - HT.sIx xs.length 0 lo)
theorem JI {μ:Nat->ah}{n:Nat}{H:Hp}{xs:List Dv}{vs:List V}(r:RelDL G μ n H xs vs) (lo hi:Option Int):RelDL G μ n H (jK xs lo hi) (oC vs lo hi):=by unfold jK oC;rw[r.length];exact(r.drop _).take _
abbrev MO:=Ev->Hs->Rs (Option Int)
def W8 (G:Cfg) (E:XK) (m:MO):TO:=λσ H Q=>∃μ ρ h,RelS G μ h.length H ρ σ/\Sim G μ h H/\Out G E μ h.length H (m ρ h) (λ_ _ _ a b=>b=a) Q
def rC (X:Cx) (G:Cfg) (E:XK) (pe:Option bj) (m:MO):Prop:=X.K=G.K->PO X pe (W8 G E m)
theorem PO.imp {pe:Option bj}{t t':TO}(h:PO X pe t) (i:∀σ H Q,t' σ H Q->t σ H Q):PO X pe t':=λpins s σ H Q I q=>h pins s σ H Q I (i σ H Q q)
def cE:MO:=λ_ h=>.ok none h
def JJ:Dv->Hs->Rs (Option Int)
 | .int i,h=>.ok (some i) h
 |_,_=>.bad
def bY (m:M Dv):MO:=λρ h=>(m ρ h).bind JJ
theorem hO:rC X G E none cE:=λ_=>PO.imp SG λσ H Q ⟨μ,ρ,h,rs,s,oo⟩=>oo.val s rfl
theorem gA (he:aI X G E e me):rC X G E (some e) (bY me):=λhK=>PO.imp (SH (he hK)) λσ H Q ⟨μ,ρ,h,rs,s,oo⟩=>cZ rs s oo λμ1 d h1 v H1 x1 rs1 s1 r1 o1=>by
 cases d with
 |int i=>exact⟨i,r1,o1.val s1 rfl⟩
 |_=>exact o1.elim
end
section
variable{X:Cx}{G:Cfg}{E:XK}{pos:Pos}
theorem W9:aI X G E (.Dict [] [] pos) (mC .edc):=λ_ pins s σ H Q I ⟨μ,ρ,h,rs,sm,o⟩=>by have hb:sysModules<s.heap.objs.size:=Nat.lt_trans (by decide) (I.mod.glob.keeps I.bk).lt;have hn:=I.hok.fresh (ak s.heap.objs.size);refine wpAny_Dict_empty ⟨.ref s.heap.objs.size,_,I.laid (a:=s.heap.objs.size) (o:=.dK []) (t':=s.toks) (λ_ _ q=>aj _ q) (ak _) ⟨jc _,beq_eq_false_iff_ne.mpr (de (bf hb)),[],.nil,Heap.DictOf.new s.heap⟩,rfl, ?_⟩;exact o μ _ _ (Ext.same (cL hn)) (sm.same (cL hn)) ⟨_,rfl,cK⟩
theorem XA {x:Str}{i:Int}{t:Tok}(hg:Gl X x) (hm:X.mg x=some (.int i t)) (hd:(x==("__debug__" : Str))=false:=by decide):aI X G E (.Name x pos) (mC (.int i)):=λ_=>PE.imp (AB (v:=.int i) hg hm ⟨t,rfl⟩ hd) λσ H Q ⟨μ,ρ,h,rs,s,o⟩=>o.val s (show RelD G μ _ H (.int i) (.int i) from rfl)
def BP:Dv->Hs->Rs Dv
 | .int i,h=>.ok (.int (-i)) h
 |_,_=>.bad
theorem XB:jT G (rU λi=>.int (-i)) BP:=by
 intro E μ h H x vx Q s r o
 cases x with
 |int i=>rw[RelD]at r;subst r;exact⟨i,rfl,o.val s rfl⟩
 |_=>exact o.elim
end
def JK (lo st:Int) (n:Nat):It:=⟨λi _=>i<n,λi H x H'=>H'=H/\x=.int (lo+i*st),λi _=>n<=i⟩
theorem XC {P:bg}{w:cq}{K:ar}{tg:bj}(it:ah) (lo st:Int) (n:Nat):Turn P w K tg (JK lo st n) [it] it (λi h=>zr h it (lo+(i:Nat)*st) ((n:Int) - (i:Nat)) st) where
 mem:=by simp
 obj:=λi h st b hb=>by
  have e:b=it:=by simpa using hb
  subst e;exact⟨_,st,λv z=>by
   have z':Bi _=Data.cell v:=z
   cases z'⟩
 keep:=λi h h' st k=>k it (by simp) _ st
 item:=by intro X hP hw hK hc i pins s σ H E I hf uI hg;subst hP hw hK;obtain⟨f0,f1,f2,f3,f4,f5⟩:=hf it (by simp);have W:=Walks.range (prog:=X.prog) (w:=X.w) (I.ok.hd hc) it lo st n;refine W.item i s _ _ hg uI λv h' tk hv st' kk=>?_;obtain⟨t,rfl⟩:=hv;have I1:Inv X pins σ H { s with heap:=h',toks:=tk }:=I.turned (λb o hb e=>kk b o (by simpa using hb) e) f0 f1 f3 f4 f5;exact⟨_,rfl,vG (s:={ s with heap:=h',toks:=tk }) (n := "range_iterator") st' rfl rfl (by decide) ⟨.int (lo+i*st),H,I1,⟨t,rfl⟩,⟨rfl,rfl⟩,st',λb hb=>(hf b hb).1⟩⟩
 done:=by intro X hP hw hK hc i pins s σ H E I hf uI hg;subst hP hw hK;obtain⟨f0,f1,f2,f3,f4,f5⟩:=hf it (by simp);exact wpAny_pyNext_range_end (I.ok.hd hc) uI (by have:n<=i:=hg;omega) λh' eb=>⟨rfl,I.turned (t':=s.toks) (λb o hb e=>eb b o hb e) f0 f1 f3 f4 f5⟩
 self:=λ_ _ _ _ _ st h=>wpAny_pyIter_rangeiter st h
section
variable{X:Cx}{G:Cfg}{E:XK}{tg a b c:bj}{p pos:Pos}{ms:M (List Dv)}
def lS (lo hi st:Int):Nat:=if lo<hi then((hi - lo - 1) / st+1).toNat else 0
def wW (lo hi st:Int):Src:=⟨lS lo hi st,λk _=>some (.int (lo+k*st)),λ_=>true⟩
def kS (i:Int):Bool:=decide (-1000000<i)&&decide (i<1000000)
def rD:List Dv->Hs->Rs Src
 | [.int i,.int j,.int k],h=>if(kS i&&kS j&&kS k&&decide (0<k))=true then .ok (wW i j k) h else .bad
 |_,_=>.bad
theorem XD {μ:Nat->ah}{n:Nat}{H:Hp}{d d' d'':Dv}{vs:List V}(r:RelDL G μ n H [d,d',d''] vs):∃v v' v'',vs=[v,v',v'']/\RelD G μ n H d v/\RelD G μ n H d' v'/\RelD G μ n H d'' v'':=by rw[RelDL]at r;obtain⟨v,r1,rfl,a1,r⟩:=r;obtain⟨v',v'',rfl,a2,a3⟩:=wD r;exact⟨v,v',v'',rfl,a1,a2,a3⟩
theorem XE (hg:Gl X "range") (hm:X.mg "range" = none) (ha:cY X G E [a,b,c] ms) (hs:ao [a,b,c] X.env=[(false,eval a X.env),(false,eval b X.env),(false,eval c X.env)]:=by rfl) (hs2:ao [b,c] X.env=[(false,eval b X.env),(false,eval c X.env)]:=by rfl):
  lN X G E tg (.Call (.Name "range" p) [a,b,c] [] pos) (aS rD ms):=λhK pins s σ H R I ⟨μ,ρ,h,rs,sm,o⟩=>by
 refine Call_ (pO I hg hm Aq (jb (aW (ha hK pos pins s σ H _ I (kK rs sm o λμ1 ds h1 vs H1 x1 rs1 s1 r1 o1=>show ∃i j k:Int,vs=[.int i,.int j,.int k]/\(kS i&&kS j&&kS k&&decide (0<k))=true/\R (JK i k (lS i j k)) H1 from ?_)) λus s1 ⟨vs,H1,I1,r1,q1⟩=>?_) (by rw[hs,hs2]) (by rw[hs2];rfl)))
 ·unfold rD at o1
  split at o1
  ·rename_i i j k
   split at o1
   ·rename_i hj;obtain⟨v,v',v'',rfl,a1,a2,a3⟩:=XD r1;rw[RelD]at a1 a2 a3;subst a1;subst a2;subst a3;refine⟨i,j,k,rfl,hj,o1.val s1 ?_⟩;intro kk μ2 h2 H2 x2 s2;refine⟨λhk d hd=>?_,λhk _=>mz hk.symm⟩;cases hd;exact⟨hk,λx H' hy=>by obtain⟨rfl,rfl⟩:=hy;exact⟨Same.refl _,rfl⟩⟩
   ·exact o1.elim
  ·exact o1.elim
 ·obtain⟨i,j,k,e,hj,q⟩:=q1;subst e;simp only[kS,cf,decide_eq_true_eq]at hj;obtain⟨⟨⟨⟨i1,i2⟩,j1,j2⟩,k1,k2⟩,k0⟩:=hj
  cases r1 with
  |cons r rr=>
  cases rr with
  |cons r' rr=>
  cases rr with
  |cons r'' rr=>
  cases rr;obtain⟨t,rfl⟩:=r;obtain⟨t',rfl⟩:=r';obtain⟨t'',rfl⟩:=r'';have hsz:0<=da i j k/\da i j k<=2000001/\((lS i j k:Nat):Int)=da i j k:=by
   unfold da lS;rw[if_pos k0]
   split
   ·rename_i hij;have h0:0<=(j - i - 1) / k:=Int.ediv_nonneg (by omega) (by omega);have h1:(j - i - 1) / k<=j - i - 1:=Int.ediv_le_self _ (by omega);refine⟨by omega,by omega,by omega⟩
   ·exact⟨by omega,by omega,rfl⟩
  have hmul:(da i j k)*k<=2000001*1000000:=Int.mul_le_mul hsz.2.1 (by omega) (by omega) (by omega);have hmul0:0<=(da i j k)*k:=Int.mul_nonneg hsz.1 (by omega);have small:wj i j k=true:=by unfold wj;simp only[Builtin.Range.rangeFitsLong,cf,wg,decide_eq_true_eq,beq_iff_eq];have cm:k*da i j k=da i j k*k:=Int.mul_comm _ _;generalize da i j k=z at *;refine⟨by omega,.inr ?_⟩;rw[if_pos k0];simp only[cf,decide_eq_true_eq];omega
  refine call_range_3 (by omega) ?_ (.inl (PyProof.noPylong_small (by omega)));refine wpAny_pyIter_range (IsRange.new ..) small ?_;have I2:Inv X pins σ H1 { s1 with heap:=s1.heap.push { cls:=.type "range",data:=.fields #[.int i t,.int j t',.int k t''] },toks:=s1.toks }:=I1.kept λb o e=>aj _ e;refine⟨(s1.heap.push { cls:=.type "range",data:=.fields #[.int i t,.int j t',.int k t''] }).objs.size,[(s1.heap.push { cls:=.type "range",data:=.fields #[.int i t,.int j t',.int k t''] }).objs.size],_,_,H1,rfl,
   I2.kept (t':=s1.toks) λb o e=>aj _ e,XC _ i k (lS i j k), ?_,λb hb=>?_,q⟩
  ·show zr _ _ (i+((0:Nat):Int)*k) (((lS i j k:Nat):Int) - ((0:Nat):Int)) k;rw[hsz.2.2];have e1:i+((0:Nat):Int)*k=i:=by simp
   rw[e1];have e2:da i j k - ((0:Nat):Int)=da i j k:=by simp
   rw[e2];exact az _ rfl
  ·have e:b=(s1.heap.push { cls:=.type "range",data:=.fields #[.int i t,.int j t',.int k t''] }).objs.size:=by simpa using hb
   subst e;exact I2.fpOk (ak _) (I2.hok.fresh (ak _))
end
structure Lawful (lp:bg) (w:cq) (K:ar) (mg:Str->Option af) (base:cx) (k:Nat) (fa:ah) (fd:bu) (x:Str) (P a:ah) (ns:List Int):Prop where
 ex:∃(G:Cfg) (lawF:List Dv->Hs->Rs Dv) (hh:Hs),G.K=K/\G.scr=ns/\G.sa=a/\G.tab=some P/\lawF [.scr] []=.ok (.bl true) hh/\FnOk lp w K mg base (bO lp w base) k fa fd [x] (cR G lawF)
theorem XF {lp:bg}{w:cq}{K:ar}{mg mb:Str->Option af}{k:Nat}{fa a c P:ah}{fd:bu}{x:Str}{s₁:ag}{vs:List af}{ns:List Int}
  (KX:K.In s₁.heap) (hns:s₁.heap.Ns df mg) (hb:s₁.heap.Ns builtinsNs mb) (hbb:∀x:Str,x ≠ "__name__"->mb x=dg x) (hlim:s₁.heap.NoLimit) (hg:s₁.gens=#[])
  (ha:s₁.heap.get? a=some { cls:=.type "list",data:=.seq vs.toArray }) (hi:mn vs ns) (hl:ns.length<=bp) (hr:Room k callerA)
  (hC:kq s₁.heap c P) (hP:s₁.heap.get? P=some (sk #[])) (hB:nE mg s₁.heap) (hnt:PySem.W.noTabs K=true)
  (F:∀base:cx,K.In base->base.Ns df mg->kq base c P->nE mg base->Lawful lp w K mg base k fa fd x P a ns) (hbind:∀(s:ag) (u:af),BindsTo s fd ⟨[u],[]⟩ [(x,u)]):
  codeAny (model lp w) callerA (.call (.ref fa) ⟨[.ref a],[]⟩) (λr s'=>r=.ok (.ret (.bool true))/\OldK s₁.heap s'.heap/\s'.os=s₁.os/\rp s'.gens) s₁:=by
 have rv:=GV hi;have lenV:=hi.length;have KP:K.lookup P=none:=by
  cases q:K.lookup P with
  |none=>rfl
  |some o=>have e:=KX P o q;rw[hP]at e;cases e;have:=cu.mp hnt (P,sk #[]) (PySem.W.mem_of_lookupK q);exact absurd (show false=true from this) ik
 have aP:a≠P:=λz=>by rw[z,hP]at ha;cases ha
 have core:∀H:Hp,H P=some (.tbl #[])->FzL K H a (ns.map V.int)->HOk lp w H s₁.heap->(∀b,H b≠none->b=a∨b=P)->(H a≠none->K.lookup a=none)->(∀u,H a=some u->∃o xs,u=.frz o (.lst xs))->
   codeAny (model lp w) callerA (.call (.ref fa) ⟨[.ref a],[]⟩) (λr s'=>r=.ok (.ret (.bool true))/\OldK s₁.heap s'.heap/\s'.os=s₁.os/\rp s'.gens) s₁:=by
  intro H hHP hS hok hA hK hF;have base_of:∀{b:ah}{o:Obj},s₁.heap.get? b=some o->H b=none->(kJ s₁.heap H).get? b=some o:=λe n=>O3 e n;have none_of:∀{b:ah},b≠a->b≠P->H b=none:=λ{b} h1 h2=>by
   cases q:H b with
   |none=>rfl
   |some u=>exact((hA b (by rw[q];simp)).elim h1 h2).elim
  have noD:∀{b:ah}{o:Obj}{es:Array DictEntry}{ep:Nat},s₁.heap.get? b=some o->o.data=.dict es ep->H b=none:=λ{b o es ep} e d=>none_of (λz=>by
    subst z;rw[ha]at e;cases e;have d':Data.seq vs.toArray _=Data.dict es ep:=d
    cases d') (λz=>by
    subst z;rw[hP]at e;cases e;have d':Bi _=Data.dict es ep:=d
    cases d')
  have nsK:∀{b:ah}{m:Str->Option af},s₁.heap.Ns b m->(kJ s₁.heap H).Ns b m:=λ{b m} ⟨o,es,ep,e,d,r⟩=>⟨o,es,ep,base_of e (noD e d),d,r⟩
  have hKb:K.In (kJ s₁.heap H):=λb o e=>base_of (KX b o e) (by
   cases q:H b with
   |none=>rfl
   |some u=>
    rcases hA b (by rw[q];simp)with z|z
    ·subst z;rw[hK (by rw[q];simp)]at e;cases e
    ·subst z;rw[KP]at e;cases e)
  have hM:Mod K mg (kJ s₁.heap H):=⟨hKb,nsK hns,⟨mb,nsK hb,hbb⟩,let ⟨mc,h1,h2⟩:=hlim;⟨mc,nsK h1,h2⟩⟩
  have hCb:kq (kJ s₁.heap H) c P:=by obtain⟨o,vs',file,tf,flags,tg,inF,text,tt,e1,r1,r⟩:=hC;refine⟨o,vs',file,tf,flags,tg,inF,text,tt,base_of e1 (none_of (λz=>?_) r.2.2.2.2.2.2.2),r1,r⟩;subst z;rw[ha]at e1;cases e1;exact absurd r1 (by intro w;injection w with w;exact absurd w (by decide))
  have hBb:nE mg (kJ s₁.heap H):=by
   obtain⟨bm,ob,b1,b2,b3,b4,b5,b6⟩:=hB;refine⟨bm,ob,b1,b2,base_of b3 (none_of (λz=>?_) (λz=>?_)),b4,b5,b6⟩
   ·subst z;rw[ha]at b3;cases b3;exact absurd b4 (by intro w;injection w with w;exact absurd w (by decide))
   ·subst z;rw[hP]at b3;cases b3;cases b4
  have e0:Env0 lp w K mg (kJ s₁.heap H) callerA [] s₁ H:=⟨rfl,hM,λb o e=>O4 e,mz (O2 _ _),trivial,λb hb=>absurd (show b∈([]:List ah) from hb) (by simp),hok,.of_eq hg⟩
  obtain⟨G,lawF,hh,g1,g2,g3,g4,hlaw,Fn⟩:=(F _ hKb (nsK hns) hCb hBb).ex;have rd:RelDL G (λ_=>0) 0 H [.scr] [.ref a]:=by refine RelDL.cons ?_ RelDL.nil;rw[RelD,g1,g2,g3];exact⟨rfl,hS⟩
  have sm:Sim G (λ_=>0) [] H:=⟨λi j h1=>absurd h1 (by simp),λi o q=>by simp at q,λP' e=>by
   rw[g4]at e;cases e;exact⟨#[],hHP,trivial,λpos cv q=>by
    have q':(none:Option af)=some cv:=q
    cases q'⟩⟩
  refine nu (Fn.run callerA [] s₁ H ⟨[.ref a],[]⟩ [.ref a] [.ref a] (λv _=>v=.bl true) (λ_ _ _=>False) hr e0 (hbind s₁ (.ref a)) (.cons rfl .nil) ⟨λ_=>0,[],[.scr],rd,sm, ?_⟩) λr s' h=>?_
  ·rw[hlaw];exact λμ' H' v _ _ r=>r
  cases r with
  |error e=>obtain⟨_,_,_,_,_,_,_,_,_,z⟩:=h;exact z.elim
  |ok fl=>
   cases fl with
   |next=>exact gq h
   |brk=>exact gq h
   |cont=>exact gq h
   |ret u=>
    obtain⟨v,H',os,bare,un,hok',r',q⟩:=h;have q':v=.bl true:=q;subst q';obtain rfl:u=uc true:=r';have kept:∀b o,b≠P->s₁.heap.get? b=some o->s'.heap.get? b=some o:=λb o hbP e=>by
     cases q:H b with
     |none=>exact un.keep b o e q (by intro z;exact absurd (show b∈([]:List ah) from z) (by simp)) (by simp)
     |some u=>
      rcases hA b (by rw[q];simp)with z|z
      ·subst z;obtain⟨ob,xs,rfl⟩:=hF u q;have z2:=un.frzs b ob _ q;obtain⟨e1,_⟩:=hok b _ q;obtain⟨e2,_⟩:=hok' b _ z2;rw[e]at e1;cases e1;exact e2
      ·exact absurd z hbP
    obtain⟨more,hm⟩:=un.tbls P #[] hHP;have gP:s'.heap.get? P=some (sk (#[]++more)):=hok' P _ hm;refine⟨rfl,⟨λb o e=>?_,λb o e=>?_⟩,os,bare⟩
    ·by_cases hb:b=P
     ·subst hb;rw[hP]at e;cases e;exact .inr (.inl ⟨(hC.tab hP).isCodeTable,rfl,#[],more,rfl,gP⟩)
     ·exact .inl (kept b o hb e)
    ·by_cases hb:b=P
     ·subst hb;exact⟨_,gP⟩
     ·exact⟨_,kept b o hb e⟩
 cases hk:K.lookup a with
 |some o=>
  have e:=KX a o hk;rw[ha]at e;cases e;refine core (λb=>if b=P then some (.tbl #[])else none) (if_pos rfl) (.inr ⟨_,vs.toArray,_,hk,rfl,rfl,rfl,by rw[au,lenV];exact hl,by simpa using rv⟩) (λb u z=>?_) (λb z=>?_) (λz=>absurd (if_neg aP) z) (λu z=>?_)
  ·by_cases hb:b=P
   ·have z':=(if_pos hb).symm.trans z;cases z';subst hb;exact hP
   ·have z':=(if_neg hb).symm.trans z;cases z'
  ·by_cases hb:b=P
   ·exact .inr hb
   ·exact absurd (if_neg hb) z
  ·have z':=(if_neg aP).symm.trans z;cases z'
 |none=>
  have ea:(λb=>if b=a then some (HO.frz { cls:=.type "list",data:=.seq vs.toArray } (.lst (ns.map V.int)))else if b=P then some (.tbl #[])else none) a=some (.frz { cls:=.type "list",data:=.seq vs.toArray } (.lst (ns.map V.int))):=if_pos rfl;refine core (λb=>if b=a then some (.frz { cls:=.type "list",data:=.seq vs.toArray } (.lst (ns.map V.int)))else if b=P then some (.tbl #[])else none) ((if_neg (de aP)).trans (if_pos rfl)) (.inl ⟨{ cls:=.type "list",data:=.seq vs.toArray },ea⟩) (λb u z=>?_) (λb z=>?_) (λ_=>hk) (λu z=>?_)
  ·by_cases hb:b=a
   ·have z':=(if_pos hb).symm.trans z;cases z';subst hb;exact⟨ha,by rw[bh];exact hl,vs,_,rv,ha⟩
   ·have z':=(if_neg hb).symm.trans z
    by_cases hb2:b=P
    ·have z2:=(if_pos hb2).symm.trans z';cases z2;subst hb2;exact hP
    ·have z2:=(if_neg hb2).symm.trans z';cases z2
  ·by_cases hb:b=a
   ·exact .inl hb
   ·by_cases hb2:b=P
    ·exact .inr hb2
    ·exact absurd ((if_neg hb).trans (if_neg hb2)) z
  ·have z':=ea.symm.trans z;cases z';exact⟨_,_,rfl⟩
open L2
theorem iK {α:Type}{P:List α->Prop}(h:∀a,P [a]):∀us:List α,us.length=1->P us
 | [a],_=>h a
theorem kT {α:Type}{P:List α->Prop}(h:∀a b,P [a,b]):∀us:List α,us.length=2->P us
 | [a,b],_=>h a b
theorem XG {α:Type}{P:List α->Prop}(h:∀a b c,P [a,b,c]):∀us:List α,us.length=3->P us
 | [a,b,c],_=>h a b c
theorem jY {P:Nat->Bool->Prop}:∀c b,List.lookup c ([]:List (Nat×Bool))=some b->P c b:=λ_ _ h=>nomatch h
theorem eY {P:Nat->Bool->Prop}{x:Nat}{y:Bool}{l:List (Nat×Bool)}(h:P x y) (hl:∀c b,l.lookup c=some b->P c b):∀c b,List.lookup c ((x,y)::l)=some b->P c b:=λc b e=>by
 rw[ic]at e
 cases q:c==x with
 |true=>rw[q]at e;exact eq_of_beq q▸(cg e)▸h
 |false=>rw[q]at e;exact hl c b e
theorem XH {P:Nat->Prop}:∀c,c<0->P c:=λc h=>absurd h (Nat.not_lt_zero c)
theorem kU {P:Nat->Prop}{n:Nat}(h0:P 0) (h:∀c,c<n->P (c+1)):∀c,c<n+1->P c
 |0,_=>h0
 |c+1,hc=>h c (Nat.lt_of_succ_lt_succ hc)
open PySem.Calls
abbrev Ys {β:Type}(ob:Frag->β) (obE:β):cq->cx->Prop:=λ_ h=>∃K:Frag,K.In h/\noTabs K=true/\ob K=obE
theorem ys_of {β:Type}{ob:Frag->β}{obE:β}:∀(w:cq) (s:ag),ob (sF s.heap)=obE->Ys ob obE w s.heap:=λ_ s e=>⟨sF s.heap,vB _ _,vC _ _,e⟩
theorem ys_keeps {β:Type}{ob:Frag->β}{obE:β}:∀(w:cq) (h h':cx),Ys ob obE w h->(∀b o,h.get? b=some o->h'.get? b=some o)->Ys ob obE w h':=λ_ _ _ ⟨K,x,n,e⟩ k=>⟨K,x.keeps k,n,e⟩
theorem walkK {β:Type}{ob:Frag->β}{obE:β}{l:OpenLaw}{n k:Nat}{q:bg}{loose:List Str}{XP:(Str->Option af)->cx->Prop}{d:DefRec}{x:Str}
  (hn:l.most=some n) (hn2:n<=bp) (hdf:d.params.defaults=[]) (hr:Room k callerA) (hfind:(recsOf q).find? (λe=>e.name==d.name)=some d)
  (F:∀(K:Frag) (w:cq) (mg:Str->Option af) (fa:ah) (h:cx),ob K=obE->noTabs K=true->K.In h->h.Ns df mg->mg d.name=some (.ref fa)->
   ∃(fd:bu) (c P:ah),(∀(s:ag) (u:af),BindsTo s fd ⟨[u],[]⟩ [(x,u)])/\tabIn K d.name=some (c,P)/\noTabs K=true /\
    ∀(base:cx) (a:ah) (ns:List Int),ns.length<=n->K.In base->base.Ns df mg->CodeHd base c P->nE mg base->Lawful l.prog w K mg base k fa fd x P a ns):
  WalkO q loose XP (Ys ob obE) l.row.toRowW d [] (λf vs=>PySem.call f vs):=by
 refine Att.attach_call hn hdf λw s₀ s₁ mg mb fa o pm cd doc a vs ns G Y ho hd hcd hmg hobj hints hlen hg=>?_;obtain⟨K,KX,hnt',hob⟩:=Y;obtain⟨fd,c,P,hb,ht,hnt,hF⟩:=F K w mg fa _ hob hnt' KX G.T.g hmg;obtain⟨hC,hP⟩:=tab_of G.T KX hfind ht;exact XF KX G.T.g G.T.b G.T.builtins G.T.nolimit hg hobj hints (du hlen hn2) hr hC hP G.T.bmain hnt (λbase h1 h2 h3 h4=>hF base a ns hlen h1 h2 h3 h4) hb
theorem XI {K:Frag}{f c:ah}{st:ig}{n:Str}{ps:List Str}(h:cW K f=some (fnOf n n (oD st) (jR st) (bA st) .none .none .none .none none (.ref c) .none)) (hc:codeIn K (.ref c) n=true) (hk:keepIn K (.ref f)=true)
  (hb:∀(kV doc pm:af) (an:Option ah) (cdv ct:af) (us:List af),us.length=ps.length->bindArgs (fnOf n n (oD st) (jR st) (bA st) .none kV doc pm an cdv ct) ⟨us,[]⟩=pure (ps.zip us)):
  ∃fd:bu,Fun K n n st f fd/\Binds K fd ps []/\fd.code=.ref c/\∀us:List af,us.length=ps.length->bindArgs fd ⟨us,[]⟩=pure (ps.zip us):=by
 obtain⟨oc,od,kV,dc,pm,an,ct,sl,e⟩:=ON h;exact⟨_,GW e hc hk,(GW e hc hk).binds hb,rfl,hb kV dc pm an (.ref c) ct⟩
theorem dB {F:List (Frag->Bool)}{K:Frag}(h:F.all (λf=>f K)=true) (i:Nat) {g:Frag->Prop}[∀K,Decidable (g K)] (e:F[i]?=some (λK=>decide (g K)):=by rfl):g K:=dA h i e
theorem cF {K:Frag}{h:cx}{mg:Str->Option af}{n:Str}{v:af}{F:List (Frag->Bool)}(X:K.In h) (G:h.Ns df mg) (hc:F.all (λf=>f K)=true) (i:Nat) (e:F[i]?=some (λK=>decide (nsIn K df n=some (some v))):=by rfl):mg n=some v:=mg_of X G (dA hc i e)
theorem BQ {env:Env}{x:Str}:∀{l:List (Str×ka)},l.lookup x=some .free->(l.map λ(n,k)=>if(k==bz&&env.scope.kind==.function&&env.kindOf n==some .cell)then(n,di)else(n,k)).lookup x≠some .local
 | [],h=>by simp at h
 |(n,q)::r,h=>by
  rw[ic]at h;rw[cy]
  cases e:x==n with
  |true=>
   rw[e]at h;have hq:q=.free:=cg h;subst hq;dsimp only
   split
   ·rw[ic,e];simp
   ·rw[ic,e];simp
  |false=>
   rw[e]at h;dsimp only
   split
   ·rw[ic,e];exact BQ h
   ·rw[ic,e];exact BQ h
theorem XJ {X:Cx}{sc os:gw}{oN N:List Str}{cap:List (Option Nat)}(hs:X.env.scope.names=os.names) (hN:X.N=oN) (h1:sc.kind=.function) (h2:∀p∈sc.names,p.2=.local->sc.names.lookup p.1=some .local) (h3:cap.length=N.length)
  (h4:∀p∈sc.names,p.2=.free->os.names.lookup p.1=some .cell∨os.names.lookup p.1=some .free) (h5:∀p∈sc.names,p.2=.free->(p.1,di)∉sc.names) (h6:∀q∈cap.zip N,∀j∈q.1,oN[j]?=some q.2/\sc.names.lookup q.2=some .free):CapOk X sc N cap:=by
 refine⟨h1,h2,h3,λx hx=>?_,λx hx=>h5 _ hx rfl,λi j x e1 e2=>?_⟩
 ·have:=h4 _ hx rfl;rw[<-hs]at this;exact this
 ·have hm:(some j,x)∈cap.zip N:=bw (i:=i) (qe.mpr ⟨e1,e2⟩);obtain⟨a,b⟩:=h6 _ hm j rfl;rw[hN];refine⟨a,ff b, ?_⟩;exact BQ b
def nF:Dv->Dv->Hs->Rs Dv:=hZ λi j=>.int (i - j)
def qC:Dv->Dv->Hs->Rs Dv:=jV vX λi j=>.int (i*j)
def iC:Dv->Dv->Hs->Rs Dv:=jV oG λi j=>.int (i % j)
def tU:Dv->Dv->Hs->Rs Dv:=jV sZ λi j=>.int (i ^ j.toNat)
def hV:Dv->Dv->Hs->Rs Dv:=hZ λi j=>.bl (decide (i<=j))
def wX:Dv->Dv->Hs->Rs Dv:=hZ λi j=>.bl (decide (i>j))
def oU:Dv->Dv->Hs->Rs Dv:=hZ λi j=>.bl (decide (i>=j))
section
variable{X:Cx}{G:Cfg}{E:XK}{k:Nat}{a b:bj}{ma mb:M Dv}{pos:Pos}
theorem BR (ha:aI X G E a ma) (hb:aI X G E b mb):aI X G E (.BinOp a .Sub b pos) (m2 nF ma mb):=pR Q4 UE ha hb
theorem tV (ha:aI X G E a ma) (hb:aI X G E b mb):aI X G E (.BinOp a .Mult b pos) (m2 qC ma mb):=pR Q5 (vW UG) ha hb
theorem qD (ha:aI X G E a ma) (hb:aI X G E b mb):aI X G E (.BinOp a .Mod b pos) (m2 iC ma mb):=pR Q6 (vW UH) ha hb
theorem JL (ha:aI X G E a ma) (hb:aI X G E b mb):aI X G E (.BinOp a .Pow b pos) (m2 tU ma mb):=pR Q7 (vW UI) ha hb
theorem XM (ha:aI X G E a ma):aI X G E (.UnaryOp .USub a pos) (m1 BP ma):=T9 Q9 XB ha
theorem XN (ha:aI X G E a ma) (hb:aI X G E b mb):aI X G E (.Compare a [.Gt] [b] pos) (m2 wX ma mb):=vU RA pS ha hb (nZ _)
theorem nG (g:Good X G E k) (ha:aI X G E a ma) (hb:aI X G E b mb):aI X G E (.Compare a [.Eq] [b] pos) (m2 bN ma mb):=vU (HG g.room.units) HH ha hb (nZ _)
theorem JM (ha:aI X G E a ma) (hb:aI X G E b mb):fY X G E (.Compare a [.GtE] [b] pos) (mB (m2 oU ma mb)):=qU RC pS ha hb (nZ _)
theorem rE (g:Good X G E k) (ha:aI X G E a ma) (hb:aI X G E b mb):fY X G E (.Compare a [.Eq] [b] pos) (mB (m2 bN ma mb)):=qU (HG g.room.units) HH ha hb (nZ _)
theorem iL (g:Good X G E k) (ha:aI X G E a ma) (hb:aI X G E b mb):fY X G E (.Compare a [.NotEq] [b] pos) (mB (m2 bC ma mb)):=qU (UC g.room.units) UD ha hb (nZ _)
variable{c:bj}{mc:M Dv}
theorem XO (ha:aI X G E a ma) (hb:aI X G E b mb) (hc:aI X G E c mc) (hm:lastMarks [.LtE,.LtE] [b,c]=false:=by with_unfolding_all rfl):aI X G E (.Compare a [.LtE,.LtE] [b,c] pos) (iS hV hV ma mb mc):=T6 vK vK pS pS ha hb hc hm
theorem XQ (ha:aI X G E a ma) (hb:aI X G E b mb) (hc:aI X G E c mc) (hm:lastMarks [.LtE,.LtE] [b,c]=false:=by with_unfolding_all rfl):fY X G E (.Compare a [.LtE,.LtE] [b,c] pos) (mB (iS hV hV ma mb mc)):=T7 vK vK pS pS ha hb hc hm
end
def oV:Ty->Option Bool
 | .bl=>some true | .int=>some true | .exc _=>none|_=>some false
def kW:Ty->Option Bool
 | .bl=>some true | .exc _=>none|_=>some false
def fG:Ty->Option Bool
 | .tup=>some true | .exc _=>none|_=>some false
def tW:Ty->Option Bool
 | .lst=>some true | .exc _=>none|_=>some false
def lT:Ty->Option Bool
 | .str=>some true | .exc _=>none|_=>some false
def tX:Ty->Option Bool
 | .tup=>some true | .lst=>some true | .exc _=>none|_=>some false
section
variable{K:ar}{cl:Nat->ah}
theorem XR:∀ty bb,oV ty=some bb->cz K (kP cl ty) (.type "int")=some bb:=by intro ty bb h;cases ty <;> first|(cases h;rfl)|cases h
theorem XS:∀ty bb,kW ty=some bb->cz K (kP cl ty) (.type "bool")=some bb:=by intro ty bb h;cases ty <;> first|(cases h;rfl)|cases h
theorem XT:∀ty bb,fG ty=some bb->cz K (kP cl ty) (.type "tuple")=some bb:=by intro ty bb h;cases ty <;> first|(cases h;rfl)|cases h
theorem XU:∀ty bb,tW ty=some bb->cz K (kP cl ty) (.type "list")=some bb:=by intro ty bb h;cases ty <;> first|(cases h;rfl)|cases h
theorem XW:∀ty bb,lT ty=some bb->cz K (kP cl ty) (.type "str")=some bb:=by intro ty bb h;cases ty <;> first|(cases h;rfl)|cases h
theorem XX:∀ty bb,tX ty=some bb->PySem.W.kitAny K (kP cl ty) [.type "tuple",.type "list"]=some bb:=by intro ty bb h;cases ty <;> first|(cases h;rfl)|cases h
end
theorem JN:dg "int" = some (.type "int"):=by decide +kernel
theorem XY:dg "bool" = some (.type "bool"):=by decide +kernel
theorem JO:dg "str" = some (.type "str"):=by decide +kernel
theorem XZ:dg "ValueError" = some (.type "ValueError"):=by decide +kernel
def eG (nn:Option Bool) (tbl:List (Nat×Bool)):Ty->Option Bool
 | .exc c=>tbl.lookup c
 | .non=>nn
 |_=>none
section
variable{X:Cx}{G:Cfg}{E:XK}{a:bj}{ma:M Dv}{p q r pos:Pos}
theorem JP (hg:Gl X "isinstance") (hm:X.mg "isinstance" = none) (hg':Gl X "int") (hm':X.mg "int" = none) (ha:aI X G E a ma) (he:ao [a,.Name "int" q] X.env=[(false,eval a X.env),(false,eval (.Name "int" q) X.env)]:=by rfl):
  aI X G E (.Call (.Name "isinstance" p) [a,.Name "int" q] [] pos) (m1 (aU oV) ma):=pX hg hm ha (oK hg' hm' JN) (.inl ⟨_,rfl⟩) rfl XR (λc bb h=>by cases h) he
theorem wY (hg:Gl X "isinstance") (hm:X.mg "isinstance" = none) (hg':Gl X "bool") (hm':X.mg "bool" = none) (ha:aI X G E a ma) (he:ao [a,.Name "bool" q] X.env=[(false,eval a X.env),(false,eval (.Name "bool" q) X.env)]:=by rfl):
  aI X G E (.Call (.Name "isinstance" p) [a,.Name "bool" q] [] pos) (m1 (aU kW) ma):=pX hg hm ha (oK hg' hm' XY) (.inl ⟨_,rfl⟩) rfl XS (λc bb h=>by cases h) he
theorem oW (hg:Gl X "isinstance") (hm:X.mg "isinstance" = none) (hg':Gl X "tuple") (hm':X.mg "tuple" = none) (ha:aI X G E a ma) (he:ao [a,.Name "tuple" q] X.env=[(false,eval a X.env),(false,eval (.Name "tuple" q) X.env)]:=by rfl):
  aI X G E (.Call (.Name "isinstance" p) [a,.Name "tuple" q] [] pos) (m1 (aU fG) ma):=pX hg hm ha (oK hg' hm' vY) (.inl ⟨_,rfl⟩) rfl XT (λc bb h=>by cases h) he
theorem JQ (hg:Gl X "isinstance") (hm:X.mg "isinstance" = none) (hg':Gl X "list") (hm':X.mg "list" = none) (ha:aI X G E a ma) (he:ao [a,.Name "list" q] X.env=[(false,eval a X.env),(false,eval (.Name "list" q) X.env)]:=by rfl):
  aI X G E (.Call (.Name "isinstance" p) [a,.Name "list" q] [] pos) (m1 (aU tW) ma):=pX hg hm ha (oK hg' hm' vZ) (.inl ⟨_,rfl⟩) rfl XU (λc bb h=>by cases h) he
theorem X0 (hg:Gl X "isinstance") (hm:X.mg "isinstance" = none) (hg':Gl X "str") (hm':X.mg "str" = none) (ha:aI X G E a ma) (he:ao [a,.Name "str" q] X.env=[(false,eval a X.env),(false,eval (.Name "str" q) X.env)]:=by rfl):
  aI X G E (.Call (.Name "isinstance" p) [a,.Name "str" q] [] pos) (m1 (aU lT) ma):=pX hg hm ha (oK hg' hm' JO) (.inl ⟨_,rfl⟩) rfl XW (λc bb h=>by cases h) he
theorem X1:∀us',Vals [.ty "tuple",.ty "list"] us'->us'=[.type "tuple",.type "list"]:=by
 intro us' h
 cases h with
 |cons r rr=>
  cases rr with
  |cons r' rr=>
   cases rr
   cases r;cases r'
   rfl
theorem X2 {kt:Nat}{p':Pos}(hg:Gl X "isinstance") (hm:X.mg "isinstance" = none) (hg':Gl X "tuple") (hm':X.mg "tuple" = none) (hg'':Gl X "list") (hm'':X.mg "list" = none) (ha:aI X G E a ma)
  (he:ao [a,.Tuple [.Name "tuple" q,.Name "list" r] kt p] X.env=[(false,eval a X.env),(false,eval (.Tuple [.Name "tuple" q,.Name "list" r] kt p) X.env)]:=by rfl):
  aI X G E (.Call (.Name "isinstance" p') [a,.Tuple [.Name "tuple" q,.Name "list" r] kt p] [] pos) (m1 (aU tX) ma):=
 VU (cs:=[.ty "tuple",.ty "list"]) hg hm ha (gE (oK hg' hm' vY) (gE (oK hg'' hm'' vZ) iG)) (by decide) X1 XX (λc bb h=>by cases h) he
theorem kX {x:Str}{C:ah}{nn:Option Bool}{tbl:List (Nat×Bool)}(hg:Gl X "isinstance") (hm:X.mg "isinstance" = none) (hg':Gl X x) (hm':X.mg x=some (.ref C)) (ha:aI X G E a ma)
  (hn:∀b,nn=some b->cz G.K (.type "NoneType") (.ref C)=some b) (ht:∀c b,tbl.lookup c=some b->cz G.K (.ref (G.cl c)) (.ref C)=some b/\ExK G.K (G.cl c)) (hd:(x==("__debug__" : Str))=false:=by decide)
  (he:ao [a,.Name x q] X.env=[(false,eval a X.env),(false,eval (.Name x q) X.env)]:=by rfl) (he2:ao [.Name x q] X.env=[(false,eval (.Name x q) X.env)]:=by rfl):
  aI X G E (.Call (.Name "isinstance" p) [a,.Name x q] [] pos) (m1 (aU (eG nn tbl)) ma):=
 pX hg hm ha (AB (v:=.ref C) hg' hm' rfl hd) (.inr ⟨_,rfl⟩) rfl (λty bb h=>by
  cases ty with
  |exc c=>exact(ht c bb h).1
  |non=>exact hn bb h
  |_=>cases h) (λc bb h=>(ht c bb h).2) he he2
theorem X3 {nn:Option Bool}{tbl:List (Nat×Bool)}(hg:Gl X "isinstance") (hm:X.mg "isinstance" = none) (hg':Gl X "ValueError") (hm':X.mg "ValueError" = none) (ha:aI X G E a ma)
  (hn:∀b,nn=some b->cz G.K (.type "NoneType") (.type "ValueError")=some b) (ht:∀c b,tbl.lookup c=some b->cz G.K (.ref (G.cl c)) (.type "ValueError")=some b/\ExK G.K (G.cl c))
  (he:ao [a,.Name "ValueError" q] X.env=[(false,eval a X.env),(false,eval (.Name "ValueError" q) X.env)]:=by rfl):
  aI X G E (.Call (.Name "isinstance" p) [a,.Name "ValueError" q] [] pos) (m1 (aU (eG nn tbl)) ma):=
 pX hg hm ha (oK hg' hm' XZ) (.inl ⟨_,rfl⟩) rfl (λty bb h=>by
  cases ty with
  |exc c=>exact(ht c bb h).1
  |non=>exact hn bb h
  |_=>cases h) (λc bb h=>(ht c bb h).2) he
end
section
variable{P:bg}{w:cq}{K:ar}{mg:Str->Option af}{base:cx}{f:ah}{G:Cfg}{k:Nat}{N:List Str}
theorem X4 {x qual:Str}{st:ig}{fd:bu}{ps:List Str}{mb:MS}(Fn:Fun K x qual st f fd) (S:FnScope N ps (bA st)) (hK:K=G.K)
  (hbody:∀(cdv:af) (A:cn) (outer:List Env) (s:ag) (H:Hp) (E₀ E:XK),fd.code=cdv->Good (gX (bO P w base) P w K mg base N qual (bA st) f cdv A outer s H E₀) G E k->jE (gX (bO P w base) P w K mg base N qual (bA st) f cdv A outer s H E₀) G E (jR st) mb):
  FnOk P w K mg base (bO P w base) (k+1) f fd ps (cR G (aZ ps.length N.length mb)):=by
 obtain⟨oc,od,kV,doc,pm,an,cdv,ct,osl,rfl,lk,hcd⟩:=Fn.ex;have hlen:∀vs H Q E,cR G (aZ ps.length N.length mb) vs H Q E->vs.length=ps.length:=λvs H Q E ⟨μ,h,ds,r,sm,o⟩=>by
  rw[r.length];unfold aZ at o
  by_cases hd:ds.length=ps.length
  ·exact hd
  ·rw[if_neg hd]at o;exact o.elim
 refine AM lk hcd S hlen λA outer s H vs Q E hr hsp=>?_;have hl:=hlen _ _ _ _ hsp;obtain⟨μ,h,ds,r,sm,o⟩:=hsp;have o':Out G E μ h.length H (bL (mb (bU N.length ds) h)) (RelD G) Q:=by unfold aZ at o;rw[if_pos (by rw[<-r.length];exact hl)]at o;exact o
 refine⟨_,hbody cdv A outer s H E (EB G μ h.length H (mb (bU N.length ds) h)) rfl (BE hr hK (λu H' ⟨c,h',μ',er,x,s',fl⟩=>?_) BF) hK, ?_⟩
 ·rw[er]at o';exact o' μ' H' u x s' fl
 ·refine⟨μ,bU N.length ds,h,IF r N,sm, ?_⟩
  cases q:mb (bU N.length ds) h with
  |bad=>rw[q]at o';exact o'.elim
  |bk ρ h'=>rw[q]at o';exact o'.elim
  |ct ρ h'=>rw[q]at o';exact o'.elim
  |rt d h'=>rw[q]at o';exact o'
  |nx ρ h'=>rw[q]at o';exact λμ' H' σ' x' s' rs'=>o' μ' H' .non x' s' rfl
  |ex c h'=>exact λμ' H' u x' s' fl=>⟨c,h',μ',rfl,x',s',fl⟩
theorem X5 {fd:bu}{ps:List Str}:FnOk P w K mg base (bO P w base) k f fd ps (cR G (λ_ _=>.bad)):=⟨λvs H Q E ⟨_,_,_,_,_,o⟩=>o.elim,λ_ _ _ _ _ _ _ _ _ _ _ _ _ ⟨_,_,_,_,_,o⟩=>o.elim⟩
end
section
variable{X:Cx}{G:Cfg}{E:XK}{k:Nat}{q x:Str}{p pos lpos:Pos}{params:ku}{body:bj}{scope os:gw}{c P fr:ah}{fdr:bu}{Nl oN:List Str}{me:M Dv}{n ncl j:Nat}{mb:MS}{caps:List Nat}
theorem JR (g:Good X G E k) (hj:j<=k) (hfn:∀y,X.fn y=true)
  (F:∀base,X.K.In base->base.Ns df X.mg->FnOk X.prog X.w X.K X.mg base (bO X.prog X.w base) j fr fdr [x] (wR G base Nl params body scope me n ncl mb))
  (hg:Gl X q) (hm:X.mg q=some (.ref fr)) (hk:km X.K (.ref fr)=true) (hb:Binds X.K fdr [x] [])
  (hdef:defaultsOf params X.env=([],[])) (hq:X.env.qual ++ "<lambda>" = G.lq) (hP:G.tab=some P) (hcode:X.env.code=.ref c) (hC:kq X.base c P) (hB:nE X.mg X.base)
  (LS:LamScope Nl scope) (hs:X.env.scope.names=os.names) (hN:X.N=oN) (hkind:∀y∈Nl,os.names.lookup y=some .cell) (hcl:caps.length=Nl.length) (hcap:∀z∈caps.zip Nl,oN[z.1]?=some z.2)
  (hdb:(q==("__debug__" : Str))=false:=by decide) (he:ao [.Lambda params body scope lpos] X.env=[(false,eval (.Lambda params body scope lpos) X.env)]:=by rfl):
  aI X G E (.Call (.Name q p) [.Lambda params body scope lpos] [] pos) (lR caps n ncl mb me):=
 WX g hj hfn F hg hm hk hb hdef hq hP hcode hC hB LS (λy hy=>by rw[hs];exact hkind y hy) hcl (λi j y e1 e2=>by rw[hN];exact hcap (j,y) (bw (i:=i) (qe.mpr ⟨e1,e2⟩))) hdb he
end
def gB:Dv->Bool
 | .scr=>false
 |_=>true
def aN (x y:Dv) (h:Hs):Rs Dv:=if gB x=true then gI [] x y h else .bad
def dE (x:Dv) (h:Hs):Rs Dv:=if gB x=true then iU [] x h else .bad
def iD (x:Dv) (h:Hs):Rs Dv:=if gB x=true then qX [] x h else .bad
def qE (neg:Bool) (x y:Dv) (h:Hs):Rs Dv:=if gB y=true then rB [] neg x y h else .bad
theorem BS {scr:List Int}{x:Dv}{h:Hs}(e:gB x=true):hJ [] x h=hJ scr x h:=by cases x <;> first|rfl|cases e
section
variable{X:Cx}{G:Cfg}{E:XK}{k:Nat}{a b e:bj}{es:List bj}{ma mb:M Dv}{aS:M (List Dv)}{p pos:Pos}
theorem X6:dZ G (AS G.K) aN:=by
 intro E μ h H x y vx vy Q s rx ry o;unfold aN at o
 split at o
 ·rename_i hx;refine HI E μ h H x y vx vy Q s rx ry ?_;have e:gI G.scr x y h=gI [] x y h:=by cases x <;> cases y <;> first|rfl|exact absurd hx (by decide)
  rw[e];exact o
 ·exact o.elim
theorem X7:jT G (HM G.K) dE:=by
 intro E μ h H x vx Q s rx o;unfold dE at o
 split at o
 ·rename_i hx;refine HN E μ h H x vx Q s rx ?_;unfold iU at o ⊢;rw[<-BS hx];exact o
 ·exact o.elim
theorem X8:jT G (λx H Q=>∃p ys,x=.ref p/\(SqL G.K H p ys∨SqT G.K H p ys)/\∀l,H l=none->Q (.ref l) (aQ H l (.lst ys))) iD:=by
 intro E μ h H x vx Q s rx o;unfold iD at o
 split at o
 ·rename_i hx;refine UQ E μ h H x vx Q s rx ?_;unfold qX at o ⊢;rw[<-BS hx];exact o
 ·exact o.elim
theorem X9 (neg:Bool):dZ G (BO G.K neg) (qE neg):=by
 intro E μ h H x y vx vy Q s rx ry o;unfold qE at o
 split at o
 ·rename_i hx;refine WZ neg E μ h H x y vx vy Q s rx ry ?_;unfold rB at o ⊢;rw[<-BS hx];exact o
 ·exact o.elim
theorem cG (ha:aI X G E a ma) (hb:aI X G E b mb) (hs:sP b:=by intro _ _;rfl):aI X G E (.Subscript a b pos) (m2 aN ma mb):=λhK=>PE.imp (AQ (by have:=GP (X:=X);rw[hK]at this;exact this) (ha hK) (hb hK) hs) λ_ _ _ t=>qT X6 t
theorem nI (hg:Gl X "len") (hm:X.mg "len" = none) (ha:cY X G E (e::es) aS)
  (he:ao (e::es) X.env=(false,eval e X.env)::ao es X.env:=by rfl) (hpl:(backTo pos (ao es X.env)).any (·.1)=false:=by rfl):aI X G E (.Call (.Name "len" p) (e::es) [] pos) (aD (f1 dE) aS):=λhK=>
 pU (CallR.imp (GQ (X:=X)) λxs H Q ⟨v,h1,a,ys,h2,h3,h4⟩=>⟨a,ys,by rw[h1,h2],by rw[hK];exact h3,h4⟩) (mX X7) hg hm wz ha (by decide) (by decide) he hpl hK
theorem BU (hg:Gl X "list") (hm:X.mg "list" = none) (ha:cY X G E (e::es) aS)
  (he:ao (e::es) X.env=(false,eval e X.env)::ao es X.env:=by rfl) (hpl:(backTo pos (ao es X.env)).any (·.1)=false:=by rfl):aI X G E (.Call (.Name "list" p) (e::es) [] pos) (aD (f1 iD) aS):=λhK=>
 wC (CallR.imp (S0 (X:=X)) λxs H Q ⟨v,h1,a,ys,h2,h3,h4⟩=>⟨a,ys,by rw[h1,h2],by rw[hK];exact h3,h4⟩) (mX X8) hg hm vZ ha (by decide) (by decide) he hpl hK
end
theorem YA (h l:Hs) (k:Nat):getL (h++l) (h.length+k)=getL l k:=by unfold getL;rw[dy (by omega),show h.length+k - h.length=k by omega]
theorem YB (h l:Hs):getL (h++l) h.length=getL l 0:=YA h l 0
section
variable{n:Nat}
end
section
variable{ma mb mc:M Dv}{aS:M (List Dv)}{t u:M Bool}{f f':Dv->Dv->Hs->Rs Dv}{g:Dv->Hs->Rs Dv}{F:List Dv->Hs->Rs Dv}
end
section
variable{mi mi':M Src}{st st':cU}{test test':M Bool}{inner:MC}{me:M Dv}{cap:List (Option Nat)}
end
section
variable{mo me mi:M Dv}{ml:M (List Dv)}{m u:MS}{t:M Bool}
end
def jZ:Dv->Option Int
 | .int i=>some i
 |_=>none
theorem tY {G:Cfg}{μ:Nat->ah}{n:Nat}{H:Hp}:∀{xs:List Dv}{vs:List V}{ns:List Int},RelDL G μ n H xs vs->bI jZ xs=some ns->vs=ns.map V.int
 | [],_,ns,r,e=>by cases e;rw[RelDL]at r;subst r;rfl
 |x::xs,_,ns,r,e=>by
  rw[RelDL]at r;obtain⟨v,rr,rfl,r1,r2⟩:=r;unfold bI at e
  cases x with
  |int i=>
   dsimp only[jZ]at e
   cases q:bI jZ xs with
   |none=>rw[q]at e;cases e
   |some zs=>rw[q]at e;cases e;rw[RelD]at r1;subst r1;rw[tY r2 q];rfl
  |_=>cases e
section
variable{X:Cx}{G:Cfg}{E:XK}{e a b:bj}{es:List bj}{ma mb:M Dv}{aS:M (List Dv)}{p pos:Pos}
theorem wZ {ns:List Int}{its:List af}(rv:Vals (ns.map V.int) its) {i:Nat}{v:af}(e:its.toArray[i]?=some v):∃t,v=.int (ns.getD i 0) t:=by
 have hl:=rv.length;rw[bh]at hl;have e':its[i]?=some v:=by simpa using e
 have hi:i<its.length:=(ba.mp e').1;have hb:i<ns.length:=by omega
 obtain⟨u,e2,r⟩:=rv.get (i:=i) (x:=V.int ns[i]) (by simp[hb]);rw[e']at e2;cases e2;have hg:ns.getD i 0=ns[i]:=by simp[kh,hb]
 rw[hg];exact r
end
section
variable{X:Cx}{G:Cfg}{E:XK}{a:bj}{elts:List bj}{kk:Nat}{tp p pos:Pos}{ma:M Dv}{ms:M (List Dv)}
end
def lU (g:Int->Int->Bool) (val:Nat->Int):Nat->Int
 |0=>val 0
 |k+1=>if g (val (k+1)) (lU g val k)then val (k+1)else lU g val k
theorem BV (g:Int->Int->Bool) (val:Nat->Int):∀k,val (argBest (λi j=>g (val i) (val j)) k)=lU g val k
 |0=>rfl
 |k+1=>by
  rw[argBest,lU,<-BV g val k]
  split <;> rfl
def lV (ns:List Int):Int:=lU (λa b=>decide (a>b)) (λi=>ns.getD i 0) (ns.length - 1)
def lW (ns:List Int):Int:=lU (λa b=>decide (a<b)) (λi=>ns.getD i 0) (ns.length - 1)
section
variable{X:Cx}{G:Cfg}{E:XK}{e a b:bj}{es:List bj}{ma mb:M Dv}{aS:M (List Dv)}{p pos:Pos}
theorem YC:dg "sorted" = some (.builtin "sorted"):=by decide +kernel
end
section
variable{X:Cx}{G:Cfg}{E:XK}{e o a b:bj}{es:List bj}{ma mb mo me:M Dv}{aS:M (List Dv)}{p pos np apos cpos:Pos}{y:Str}
def BW (_ j:Int):Prop:=0<j/\j<18446744073709551616
theorem YD:OpR X (binaryOp .FloorDiv) (rI BW λi j=>.int (i / j)):=vI λi j _ _ _ _ _ hc q=>by
 have h1:(0:Int)<j:=hc.1;have h2:j<18446744073709551616:=hc.2;refine floordiv_int (by omega) (by rw[Int.fdiv_eq_ediv_of_nonneg i (by omega)];exact q) (.inl (PyProof.noPylong_of_log2 ?_));have h3:j.natAbs≠0:=by omega
 have h4:j.natAbs<2 ^ 64:=by omega
 have:=(Nat.log2_lt h3).mpr h4;omega
def tZ (_ j:Int):Bool:=decide (0<j)&&decide (j<18446744073709551616)
theorem YE (i j:Int) (h:tZ i j=true):BW i j:=by unfold tZ at h;unfold BW;simpa only[cf,decide_eq_true_eq]using h
def uA:Dv->Dv->Hs->Rs Dv:=jV tZ λi j=>.int (i / j)
theorem JS (ha:aI X G E a ma) (hb:aI X G E b mb):aI X G E (.BinOp a .FloorDiv b pos) (m2 uA ma mb):=pR YD (vW YE) ha hb
def JT (K:ar):R2:=λx y H Q=>∃a b ys,x=.ref a/\y=.ref b/\SqT K H a []/\SqT K H b ys/\Q (.ref b) H
theorem op_catT0:OpR X (binaryOp .Add) (JT X.K):=by
 intro pins s σ H x y v u Q I rx ry ⟨a,b,ys,e1,e2,ha,hb,q⟩;subst e1;subst e2;cases rx;cases ry;obtain⟨its,r1,p1,_⟩:=I.tuple ha;obtain⟨its2,r2,p2,_⟩:=I.tuple hb;have hn:its=[]:=r1.nil_iff.mpr rfl;subst hn;obtain⟨⟨cls,dd,data,sl⟩,ho,hc,n,hd⟩:=p1;obtain⟨⟨cls2,dd2,data2,sl2⟩,ho2,hc2,n2,hd2⟩:=p2;simp only at hc hd hc2 hd2;subst hc hd hc2 hd2;exact concat_meets ⟨_,ho,rfl⟩ ⟨_,ho2,rfl⟩ yn Bo qv qg (pv _ _)
  (tuple_addW0 a b _ _ n n2 dd dd2 sl sl2 rfl) ⟨ho,ho2,⟨.ref b,H,I,rfl,q⟩⟩
def bD (x y:Dv) (h:Hs):Rs Dv:=match x,y with
 | .tup [],.tup ys=>.ok (.tup ys) h
 |x,y=>mW x y h
theorem YF:dZ G (λx y H Q=>JT G.K x y H Q∨A6 G.K x y H Q) bD:=by
 intro E μ h H x y vx vy Q s rx ry o;unfold bD at o
 split at o
 ·rename_i ys;obtain⟨a,vs,rfl,ea,ra⟩:=rx;obtain⟨b,ws,rfl,eb,rb⟩:=id ry;have:vs=[]:=by rw[RelDL]at ra;exact ra
  subst this;exact .inl ⟨a,b,ws,rfl,rfl,SqT.of ea,SqT.of eb,o.val s ry⟩
 ·exact .inr (UK E μ h H _ _ vx vy Q s rx ry o)
theorem eZ (ha:aI X G E a ma) (hb:aI X G E b mb):aI X G E (.BinOp a .Add b pos) (m2 bD ma mb):=λhK=>pR (op_catT0.or UJ) (by rw[hK];exact YF) ha hb hK
def uB (k:Int):List Int->Option Nat
 | []=>none
 |n::ns=>if n=k then some 0 else(uB k ns).map (·+1)
end
section
variable{X:Cx}{G:Cfg}{E:XK}{k:Nat}{a b:bj}{ma mb mo:M Dv}{pos:Pos}
theorem YG (g:Good X G E k) (ha:aI X G E a ma) (hb:aI X G E b mb) (hm:lastMarks [.In] [b]=false:=by with_unfolding_all rfl):aI X G E (.Compare a [.In] [b] pos) (m2 (qE false) ma mb):=λhK=>vU (WY g.room.units) (by rw[hK];exact X9 false) ha hb hm hK
theorem YH (ha:aI X G E a ma) (hb:aI X G E b mb):fY X G E (.Compare a [.Is] [b] pos) (mB (m2 (qB false) ma mb)):=qU W3 (W6 false) ha hb (nZ _)
end
theorem oX {H:Hs}{n:Nat}{xs ys:List Dv}(e:getL H n=some xs):getL (H.set n (.lst ys)) n=some ys:=by have h:=(ba.mp (dH e)).1;unfold getL;rw[dm h]
theorem rF {H:Hs}{n j:Nat}{o:Ob}(h:n≠j):getL (H.set n o) j=getL H j:=by unfold getL;rw[fh h]
theorem nJ {H:Hs}{n:Nat}{xs:List Dv}(e:getL H n=some xs):n<H.length:=(ba.mp (dH e)).1
theorem kY {H l:Hs}{n:Nat}{xs:List Dv}(e:getL H n=some xs):getL (H++l) n=some xs:=by unfold getL;rw[dk (nJ e),dH e]
structure Fr (S:List Nat) (H H':Hs):Prop where
 le:H.length<=H'.length
 at_:∀j,j<H.length->j∉S->H'[j]?=H[j]?
theorem Fr.refl {S:List Nat}{H:Hs}:Fr S H H:=⟨ak _,λ_ _ _=>rfl⟩
theorem Fr.trans {S T:List Nat}{H H1 H2:Hs}(a:Fr S H H1) (b:Fr T H1 H2) (h:∀j∈T,j∈S∨H.length<=j):Fr S H H2:=⟨du a.le b.le,λj hj hS=>(b.at_ j (aw hj a.le) λz=>(h j z).elim hS λw=>absurd (aw hj w) (gh _)).trans (a.at_ j hj hS)⟩
theorem Fr.app {S:List Nat}{H l:Hs}:Fr S H (H++l):=⟨by simp,λj hj _=>dk hj⟩
theorem Fr.set {H:Hs}{n:Nat}{o:Ob}:Fr [n] H (H.set n o):=⟨by simp,λj hj hS=>fh (by simpa using de (by simpa using hS))⟩
theorem Fr.getL {S:List Nat}{H H':Hs}{j:Nat}{xs:List Dv}(a:Fr S H H') (e:getL H j=some xs) (h:j∉S):getL H' j=some xs:=by unfold L2.Mr.getL at e ⊢;rw[a.at_ j (nJ e) h];exact e
theorem Fr.mono {S T:List Nat}{H H':Hs}(a:Fr S H H') (h:∀j∈S,j∈T):Fr T H H':=⟨a.le,λj hj hT=>a.at_ j hj λz=>hT (h j z)⟩
theorem aY {m u:MS}{ρ ρ1:Ev}{h h1:Hs}(e:m ρ h=.nx ρ1 h1):aJ m u ρ h=u ρ1 h1:=by unfold aJ;rw[e]
theorem qF {mi:M Src}{st:cU}{b:MS}{ρ:Ev}{h h1:Hs}{src:Src}(e:mi ρ h=.ok src h1):eS mi st b ρ h=eR src st b src.n 0 ρ h1:=by unfold eS;rw[e];rfl
theorem nK {c:M Bool}{t u:MS}{ρ:Ev}{h h1:Hs}(e:c ρ h=.ok true h1):aR c t u ρ h=t ρ h1:=by unfold aR;rw[e];rfl
theorem kZ {c:M Bool}{t u:MS}{ρ:Ev}{h h1:Hs}(e:c ρ h=.ok false h1):aR c t u ρ h=u ρ h1:=by unfold aR;rw[e];rfl
theorem xA {src:Src}{sg:cU}{b:MS}{f k:Nat}{ρ ρ1 ρ2:Ev}{H H2:Hs}{d:Dv}(hg:src.get k H=some d) (hs:sg d ρ=some ρ1) (hb:b ρ1 H=.nx ρ2 H2):eR src sg b (f+1) k ρ H=eR src sg b f (k+1) ρ2 H2:=by simp[eR,hg,hs,hb]
theorem JU {src:Src}{sg:cU}{b:MS}(P:Nat->Ev->Hs->Prop)
  (step:∀k ρ H,k<src.n->P k ρ H->∃d ρ1 ρ2 H2,src.get k H=some d/\sg d ρ=some ρ1/\b ρ1 H=.nx ρ2 H2/\P (k+1) ρ2 H2)
  (fin:∀ρ H,P src.n ρ H->src.fin H=true):∀(f k:Nat) (ρ:Ev) (H:Hs),f+k=src.n->P k ρ H->∃ρ' H',eR src sg b f k ρ H=.nx ρ' H'/\P src.n ρ' H'
 |0,k,ρ,H,h,p=>by
  have hk:k=src.n:=by omega
  subst hk;exact⟨ρ,H,by simp[eR,fin ρ H p],p⟩
 |f+1,k,ρ,H,h,p=>by obtain⟨d,ρ1,ρ2,H2,e1,e2,e3,p2⟩:=step k ρ H (by omega) p;rw[xA e1 e2 e3];exact JU P step fin f (k+1) ρ2 H2 (by omega) p2
theorem xB {mi:M Src}{src:Src}{sg:cU}{b:MS}{ρ:Ev}{H H1:Hs}(hi:mi ρ H=.ok src H1) (P:Nat->Ev->Hs->Prop)
  (step:∀k ρ H,k<src.n->P k ρ H->∃d ρ1 ρ2 H2,src.get k H=some d/\sg d ρ=some ρ1/\b ρ1 H=.nx ρ2 H2/\P (k+1) ρ2 H2)
  (fin:∀ρ H,P src.n ρ H->src.fin H=true) (p:P 0 ρ H1):∃ρ' H',eS mi sg b ρ H=.nx ρ' H'/\P src.n ρ' H':=by
 rw[qF hi];exact JU P step fin src.n 0 ρ H1 (by omega) p
theorem BX {src:Src}{sg:cU}{t:M Bool}{m:MC}(P:Nat->Ev->Hs->List Dv->Prop)
  (step:∀k ρ H acc,k<src.n->P k ρ H acc->∃d ρ1,src.get k H=some d/\sg d ρ=some ρ1 /\
   ((∃H2,t ρ1 H=.ok false H2/\P (k+1) ρ1 H2 acc)∨∃H2 ρ3 acc3 H3,t ρ1 H=.ok true H2/\m ρ1 H2 acc=.ok (ρ3,acc3) H3/\P (k+1) ρ3 H3 acc3))
  (fin:∀ρ H acc,P src.n ρ H acc->src.fin H=true):∀(f k:Nat) (ρ:Ev) (H:Hs) (acc:List Dv),f+k=src.n->P k ρ H acc->∃ρ' H' acc',gJ src sg t m f k ρ H acc=.ok (ρ',acc') H'/\P src.n ρ' H' acc'
 |0,k,ρ,H,acc,h,p=>by
  have hk:k=src.n:=by omega
  subst hk;exact⟨ρ,H,acc,by simp[gJ,fin ρ H acc p],p⟩
 |f+1,k,ρ,H,acc,h,p=>by
  obtain⟨d,ρ1,e1,e2,e3⟩:=step k ρ H acc (by omega) p
  rcases e3 with⟨H2,e3,p2⟩|⟨H2,ρ3,acc3,H3,e3,e4,p2⟩
  ·obtain⟨ρ',H',acc',e5,p5⟩:=BX P step fin f (k+1) ρ1 H2 acc (by omega) p2;exact⟨ρ',H',acc',by simp[gJ,e1,e2,e3,e5],p5⟩
  ·obtain⟨ρ',H',acc',e5,p5⟩:=BX P step fin f (k+1) ρ3 H3 acc3 (by omega) p2;exact⟨ρ',H',acc',by simp[gJ,e1,e2,e3,e4,e5],p5⟩
theorem JV (k:Nat) (H:Hs):∀ns:List Int,bI (bM (k+1) H) (ns.map Dv.int)=some (ns.map Dt.int)
 | []=>rfl
 |n::ns=>by rw[cy,bI,JV k H ns];rfl
def aG (p:Int×Int):Dv:=.tup [.int p.1,.int p.2]
def kA (p:Int×Int):Dt:=.tup [.int p.1,.int p.2]
theorem JW (k:Nat) (H:Hs) (p:Int×Int):bM (k+2) H (aG p)=some (kA p):=rfl
theorem BY (k:Nat) (H:Hs):∀ps:List (Int×Int),bI (bM (k+2) H) (ps.map aG)=some (ps.map kA)
 | []=>rfl
 |p::ps=>by rw[cy,bI,BY k H ps,JW];rfl
theorem JX (p q:Int×Int):bH (kA p) (kA q)=decide (p=q):=by obtain⟨a,b⟩:=p;obtain⟨c,d⟩:=q;simp only[kA,bH,hY,Bool.and_true];rw[dw];simp
theorem YI (neg:Bool) (H:Hs) (p:Int×Int) (ps:List (Int×Int)):qE neg (aG p) (.tup (ps.map aG)) H=.ok (.bl (if neg then !decide (p∈ps)else decide (p∈ps))) H:=by
 have e:(ps.map kA).any (λt=>bH t (kA p))=decide (p∈ps):=by
  rw[dw];simp only[List.any_map,vn,Function.comp,JX,decide_eq_true_eq];constructor
  ·rintro ⟨q,hq,rfl⟩;exact hq
  ·intro h;exact⟨p,h,rfl⟩
 have h1:bI (bM bR H) (ps.map aG)=some (ps.map kA):=BY 28 H ps;have h2:bM bR H (aG p)=some (kA p):=JW 28 H p;show rB [] neg (aG p) (.tup (ps.map aG)) H=_;simp only[rB,hJ,h1,h2,e]
section
variable{X:Cx}{G:Cfg}{E:XK}{elt tg iter tg' iter':bj}{ifs ifs':List bj}{sc:gw}{ps px pos:Pos}{N:List Str}{cap:List (Option Nat)}{mi mi':M Src}{st st':cU}{test test':M Bool}{me:M Dv}{i:Nat}{x:Str}
end
end L2.Mr
namespace SoM
open PySem PySem.W PyProof.Rows
variable{n:Nat}{f:Nat->Nat}{s:ag}
def nL (n:Nat) (f:Nat->Nat) (i j:Nat) (C:Bool->ag->Prop) (s:ag):Prop:=i<n/\j<n/\C (decide (f i<f j)) s
def F (f:Nat->Nat) (p:Array Nat) (k:Nat):Nat:=f (p.getD k 0)
def Ent (n:Nat) (p:Array Nat):Prop:=p.size=n/\p.toList.Perm (bo n)
theorem Ent.lt {p:Array Nat}(e:Ent n p) (hn:0<n) (k:Nat):p.getD k 0<n:=by
 by_cases h:k<p.size
 ·have:p.getD k 0=p[k]:=by simp[jz,h]
  rw[this];have hm:p[k]∈p.toList:=by simp
  exact bx.mp (e.2.mem_iff.mp hm)
 ·have:p.getD k 0=0:=by simp[jz,h]
  omega
theorem uC {p q:Array Nat}{i j:Nat}(h:p[i]?=q[j]?):F f p i=F f q j:=by unfold F;simp only[Array.getD_eq_getD_getElem?,h]
theorem Ent.mirror {p:Array Nat}(e:Ent n p) (i j d:Nat):Ent n (mirror p i j d):=⟨(mirror_size ..).trans e.1,((xa.mp (mirror_perm p i j d))).trans e.2⟩
theorem Ent.bubble {p:Array Nat}(e:Ent n p) (k d:Nat):Ent n (bubble p k d):=⟨(bubble_size ..).trans e.1,((xa.mp (bubble_perm p k d))).trans e.2⟩
theorem Ent.rev {p:Array Nat}(e:Ent n p) (i j:Nat):Ent n (kas_rev p i j):=e.mirror _ _ _
theorem uD {p:Array Nat}{i j:Nat}(hj:j<=p.size) (k:Nat):F f (kas_rev p i j) k=if i<=k/\k<j then F f p (i+j - 1 - k)else F f p k:=by
 have e:=getElem?_mirror_all (i:=i) hj k
 by_cases h:i<=k/\k<j
 ·rw[if_pos h]at e ⊢;exact uC e
 ·rw[if_neg h]at e ⊢;exact uC e
theorem JY {p:Array Nat}{k d:Nat}(hs:k<p.size) (hd:d<=k) (i:Nat):F f (bubble p k d) i=if i=k - d then F f p k else if k - d<i/\i<=k then F f p (i - 1)else F f p i:=by
 have e:=getElem?_bubble hs d hd i
 by_cases h1:i=k - d
 ·rw[if_pos h1]at e ⊢;exact uC e
 ·rw[if_neg h1]at e ⊢
  by_cases h2:k - d<i/\i<=k
  ·rw[if_pos h2]at e ⊢;exact uC e
  ·rw[if_neg h2]at e ⊢;exact uC e
def Inc (f:Nat->Nat) (p:Array Nat) (m:Nat):Prop:=∀i j,i<=j->j<m->F f p i<=F f p j
def Dec (f:Nat->Nat) (p:Array Nat) (m:Nat):Prop:=∀i j,i<=j->j<m->F f p j<=F f p i
theorem Inc.succ {p:Array Nat}{m:Nat}(h:Inc f p m) (hm:1<=m) (h1:F f p (m - 1)<=F f p m):Inc f p (m+1):=by
 intro i j hij hj
 by_cases q:j=m
 ·subst q
  by_cases r:i=j
  ·subst r;exact ak _
  ·exact du (h i (j - 1) (by omega) (by omega)) h1
 ·exact h i j hij (by omega)
theorem Dec.succ {p:Array Nat}{m:Nat}(h:Dec f p m) (hm:1<=m) (h1:F f p m<=F f p (m - 1)):Dec f p (m+1):=by
 intro i j hij hj
 by_cases q:j=m
 ·subst q
  by_cases r:i=j
  ·subst r;exact ak _
  ·exact du h1 (h i (j - 1) (by omega) (by omega))
 ·exact h i j hij (by omega)
theorem BZ {p:Array Nat}(e:Ent n p) (hn:0<n) {Q:Nat->ag->Prop}:∀(fu m:Nat) (s:ag),1<=m->Inc f p m->
  (∀m',m<=m'->m'<=m+fu->Inc f p m'->(m'=m+fu∨F f p m'<F f p (m' - 1))->Q m' s)->(kas_asc p fu m).kasWp (nL n f) Q s
 |0,m,s,h1,hi,h=>h m (ak _) (ak _) hi (.inl rfl)
 |fu+1,m,s,h1,hi,h=>by
  refine⟨e.lt hn _,e.lt hn _, ?_⟩
  by_cases c:f (p.getD m 0)<f (p.getD (m - 1) 0)
  ·rw[decide_eq_true c];exact h m (ak _) (by omega) hi (.inr c)
  ·rw[decide_eq_false c];refine BZ e hn fu (m+1) s (by omega) (hi.succ h1 (Nat.le_of_not_lt c)) λm' a b c d=>h m' (by omega) (by omega) c ?_
   rcases d with d|d
   ·exact .inl (by omega)
   ·exact .inr d
theorem xC (hn:0<n) {Q:Array Nat×Nat×Nat->ag->Prop}:∀(fu m q:Nat) (p:Array Nat) (s:ag),Ent n p->q+1<=m->m+fu<=n->Dec f p m->(∀k,m - 1 - q<=k->k<m->F f p k=F f p (m - 1))->
  (∀p' m' q',Ent n p'->q'+1<=m'->m<=m'->m'<=m+fu->Dec f p' m'->(∀k,m' - 1 - q'<=k->k<m'->F f p' k=F f p' (m' - 1))->Q (p',m',q') s)->(kas_desc fu p m q).kasWp (nL n f) Q s
 |0,m,q,p,s,e,h1,h2,hd,he,h=>h p m q e h1 (ak _) (ak _) hd he
 |fu+1,m,q,p,s,e,h1,h2,hd,he,h=>by
  refine⟨e.lt hn _,e.lt hn _, ?_⟩
  by_cases c:f (p.getD m 0)<f (p.getD (m - 1) 0)
  ·have c':F f p m<F f p (m - 1):=c;rw[decide_eq_true c];show KasT.kasWp _ (if true=true then(if q>0 then _ else _)else _) _ _;rw[if_pos rfl]
   by_cases hq:q>0
   ·rw[if_pos hq];have hsz:m<=p.size:=by rw[e.1];omega
    have hF:∀k,F f (kas_rev p (m - (q+1)) m) k=F f p k:=by
     intro k;rw[uD hsz]
     split
     ·rw[he _ (by omega) (by omega),he k (by omega) (by omega)]
     ·rfl
    have hd':Dec f (kas_rev p (m - (q+1)) m) (m+1):=by intro i j hij hj;rw[hF,hF];exact hd.succ (by omega) (gy c') i j hij hj
    refine xC hn fu (m+1) 0 _ s (e.rev _ _) (by omega) (by omega) hd' ?_ λp' m' q' a b c d=>h p' m' q' a b (by omega) (by omega);intro k k1 k2;have:k=m:=by omega
    subst this;rfl
   ·rw[if_neg hq];refine xC hn fu (m+1) 0 _ s e (by omega) (by omega) (hd.succ (by omega) (gy c')) ?_ λp' m' q' a b c d=>h p' m' q' a b (by omega) (by omega);intro k k1 k2;have:k=m:=by omega
    subst this;rfl
  ·have c':¬ F f p m<F f p (m - 1):=c;rw[decide_eq_false c];show KasT.kasWp _ (if false=true then _ else KasT.ask _ _ _) _ _;rw[if_neg (by simp)];refine⟨e.lt hn _,e.lt hn _, ?_⟩
   by_cases c2:f (p.getD (m - 1) 0)<f (p.getD m 0)
   ·rw[decide_eq_true c2];exact h p m q e h1 (ak _) (by omega) hd he
   ·have c2':¬ F f p (m - 1)<F f p m:=c2;rw[decide_eq_false c2];have eq:F f p m=F f p (m - 1):=by omega
    refine xC hn fu (m+1) (q+1) _ s e (by omega) (by omega) (hd.succ (by omega) (by omega)) ?_ λp' m' q' a b c d=>h p' m' q' a b (by omega) (by omega);intro k k1 k2;show F f p k=F f p m
    by_cases r:k=m
    ·subst r;rfl
    ·rw[eq];exact he k (by omega) (by omega)
theorem Dec.rev {p:Array Nat}{m:Nat}(hm:m<=p.size) (h:Dec f p m):Inc f (kas_rev p 0 m) m:=by intro i j hij hj;rw[uD hm,uD hm,if_pos ⟨jc _,by omega⟩,if_pos ⟨jc _,hj⟩];exact h _ _ (by omega) (by omega)
theorem JZ (hn:0<n) {p:Array Nat}{m:Nat}{Q:Nat×Array Nat->ag->Prop}(e:Ent n p) (h1:1<=m) (h2:m<=n) (hd:Dec f p m)
  (h:∀m' p',Ent n p'->1<=m'->m'<=n->Inc f p' m'->Q (m',p') s):(kas_tail3 m n p).kasWp (nL n f) Q s:=by
 unfold kas_tail3;rw[KasT.kasWp_bind];refine BZ (e.rev 0 m) hn (n - m) m s h1 (hd.rev (by rw[e.1];exact h2)) λm' a b c _=>?_;exact h m' _ (e.rev 0 m) (by omega) (by omega) c
theorem J0 (hn:0<n) {p:Array Nat}{m:Nat}{Q:Nat×Array Nat->ag->Prop}(e:Ent n p) (h2:m+1<=n) (hd:Dec f p (m+1))
  (h:∀m' p',Ent n p'->1<=m'->m'<=n->Inc f p' m'->Q (m',p') s):(kas_descPart m n p).kasWp (nL n f) Q s:=by
 unfold kas_descPart;rw[KasT.kasWp_bind];refine xC hn (n - (m+1)) (m+1) 0 p s e (by omega) (by omega) hd (λk k1 k2=>by (have:k=m:=by omega);subst this;rfl) λp' m' q' e' a b c d eq=>?_;show KasT.kasWp _ (if q'>0 then _ else _) _ _
 by_cases hq:q'>0
 ·rw[if_pos hq];have hsz:m'<=p'.size:=by rw[e'.1];omega
  have hF:∀k,F f (kas_rev p' (m' - (q'+1)) m') k=F f p' k:=by
   intro k;rw[uD hsz]
   split
   ·rw[eq _ (by omega) (by omega),eq k (by omega) (by omega)]
   ·rfl
  refine JZ hn (e'.rev _ _) (show 1<=m' by omega) (show m'<=n by omega) ?_ h;intro i j hij hj;rw[hF,hF];exact d i j hij hj
 ·rw[if_neg hq];exact JZ hn e' (show 1<=m' by omega) (show m'<=n by omega) d h
theorem YJ (hn:1<=n) {p:Array Nat}{Q:Nat×Array Nat->ag->Prop}(e:Ent n p)
  (h:∀m' p',Ent n p'->1<=m'->m'<=n->Inc f p' m'->Q (m',p') s):(kas_count n p).kasWp (nL n f) Q s:=by
 unfold kas_count;rw[KasT.kasWp_bind];refine BZ e (by omega) (n - 1) 1 s (ak _) (λi j hij hj=>by (have:i=j:=by omega);subst this;exact ak _) λm a b c d=>?_;show KasT.kasWp _ (if(m==n)=true then _ else if m>1 then _ else _) _ _
 by_cases q:m=n
 ·rw[if_pos (beq_iff_eq.mpr q)];exact h m p e (by omega) (by omega) c
 ·rw[if_neg (by intro z;exact q (beq_iff_eq.mp z))];have hlt:F f p m<F f p (m - 1):=by
   rcases d with d|d
   ·omega
   ·exact d
  by_cases q1:m>1
  ·rw[if_pos q1];refine⟨e.lt (by omega) _,e.lt (by omega) _, ?_⟩
   by_cases c2:f (p.getD 0 0)<f (p.getD (m - 1) 0)
   ·rw[decide_eq_true c2];exact h m p e (by omega) (by omega) c
   ·have c2':¬ F f p 0<F f p (m - 1):=c2;rw[decide_eq_false c2];have hsz:m<=p.size:=by rw[e.1];omega
    have eq:∀k,k<m->F f p k=F f p 0:=by intro k hk;have:=c 0 k (by omega) hk;have:=c k (m - 1) (by omega) (by omega);omega
    have hF:∀k,F f (kas_rev p 0 m) k=F f p k:=by
     intro k;rw[uD hsz]
     split
     ·rw[eq _ (by omega),eq k (by omega)]
     ·rfl
    refine J0 (by omega) (e.rev _ _) (by omega) ?_ h;intro i j hij hj;rw[hF,hF]
    by_cases r:j=m
    ·subst r
     by_cases r2:i=j
     ·subst r2;exact ak _
     ·have:=eq i (by omega);have:=eq (j - 1) (by omega);omega
    ·rw[eq i (by omega),eq j (by omega)];exact ak _
  ·rw[if_neg q1];have:m=1:=by omega
   subst this;refine J0 (by omega) e (by omega) ?_ h;intro i j hij hj
   by_cases r:i=j
   ·subst r;exact ak _
   ·have h1:i=0:=by omega
    have h2:j=1:=by omega
    subst h1;subst h2;exact gy hlt
theorem CA {p:Array Nat}(e:Ent n p) (hn:0<n) {k:Nat}(hi:Inc f p k) {Q:Nat->ag->Prop}:∀(fu l r:Nat) (s:ag),r - l<=fu->l<=r->r<=k->
  (∀i,i<l->F f p i<=F f p k)->(∀i,r<=i->i<k->F f p k<F f p i)->
  (∀l',l'<=k->(∀i,i<l'->F f p i<=F f p k)->(∀i,l'<=i->i<k->F f p k<F f p i)->Q l' s)->(kas_place p k fu l r).kasWp (nL n f) Q s
 |0,l,r,s,h1,h2,h3,ha,hb,h=>by
  have:l=r:=by omega
  subst this;exact h l h3 ha hb
 |fu+1,l,r,s,h1,h2,h3,ha,hb,h=>by
  unfold kas_place
  by_cases q:l>=r
  ·rw[if_pos q];have:l=r:=by omega
   subst this;exact h l h3 ha hb
  ·rw[if_neg q];refine⟨e.lt hn _,e.lt hn _, ?_⟩
   by_cases c:f (p.getD k 0)<f (p.getD ((l+r) / 2) 0)
   ·have c':F f p k<F f p ((l+r) / 2):=c;rw[decide_eq_true c];refine CA e hn hi fu l ((l+r) / 2) s (by omega) (by omega) (by omega) ha ?_ h;intro i i1 i2;have:=hi ((l+r) / 2) i i1 i2;omega
   ·have c':¬ F f p k<F f p ((l+r) / 2):=c;rw[decide_eq_false c];refine CA e hn hi fu ((l+r) / 2+1) r s (by omega) (by omega) (by omega) ?_ hb h;intro i i1;have:=hi i ((l+r) / 2) (by omega) (by omega);omega
theorem J1 (hn:0<n) {Q:Array Nat->ag->Prop}:∀(fu k:Nat) (p:Array Nat) (s:ag),Ent n p->k+fu<=n->Inc f p k->(∀p',Ent n p'->Inc f p' (k+fu)->Q p' s)->(kas_bin fu p k).kasWp (nL n f) Q s
 |0,k,p,s,e,h1,hi,h=>h p e hi
 |fu+1,k,p,s,e,h1,hi,h=>by
  unfold kas_bin;rw[KasT.kasWp_bind];refine CA e hn hi k 0 k s (by omega) (by omega) (ak _) (λi hi=>absurd hi (by omega)) (λi a b=>absurd b (by omega)) λl hl ha hb=>?_;have hsz:k<p.size:=by rw[e.1];omega
  refine J1 hn fu (k+1) _ s (e.bubble _ _) (by omega) ?_ λp' e' i'=>h p' e' (by rw[show k+(fu+1)=k+1+fu by omega];exact i');intro i j hij hj;rw[JY hsz (by omega),JY hsz (by omega)];have hkl:k - (k - l)=l:=by omega
  rw[hkl]
  by_cases i1:i=l
  ·rw[if_pos i1]
   by_cases j1:j=l
   ·rw[if_pos j1];exact ak _
   ·rw[if_neg j1,if_pos (by omega)];exact gy (hb (j - 1) (by omega) (by omega))
  ·rw[if_neg i1]
   by_cases i2:l<i/\i<=k
   ·rw[if_pos i2,if_neg (by omega),if_pos (by omega)];exact hi (i - 1) (j - 1) (by omega) (by omega)
   ·rw[if_neg i2]
    by_cases j1:j=l
    ·rw[if_pos j1];exact ha i (by omega)
    ·rw[if_neg j1]
     by_cases j2:l<j/\j<=k
     ·rw[if_pos j2];exact hi i (j - 1) (by omega) (by omega)
     ·rw[if_neg j2];exact hi i j hij (by omega)
theorem YK (hn:1<=n) {Q:Array Nat->ag->Prop}(h:∀p,Ent n p->Inc f p n->Q p s):(kas_sort n).kasWp (nL n f) Q s:=by
 unfold kas_sort;rw[KasT.kasWp_bind];refine YJ hn ⟨by simp,by simp⟩ λm p e h1 h2 hi=>?_;show KasT.kasWp _ (if m<n then _ else _) _ _
 by_cases q:m<n
 ·rw[if_pos q];have:max m 1=m:=by omega
  rw[this];refine J1 (by omega) (n - m) m p s e (by omega) hi λp' e' i'=>h p' e' ?_;rw[show m+(n - m)=n by omega]at i';exact i'
 ·rw[if_neg q];have:m=n:=by omega
  subst this;exact h p e hi
theorem J2 {α:Type}{cmp:Nat->Nat->(Bool->ag->Prop)->ag->Prop}{I:ag->Prop}(hc:∀i j C s,I s->i<n->j<n->(∀s',I s'->C (decide (f i<f j)) s')->cmp i j C s):
  ∀(t:KasT α) (Q:α->Prop) (Q':α->ag->Prop) (s₀ s:ag),t.kasWp (nL n f) (λa _=>Q a) s₀->I s->(∀a s',Q a->I s'->Q' a s')->t.kasWp cmp Q' s
 | .ret a,Q,Q',s₀,s,h,hi,k=>k a s h hi
 | .ask i j c,Q,Q',s₀,s,h,hi,k=>hc i j _ s hi h.1 h.2.1 λs' hi'=>J2 hc (c _) Q Q' s₀ s' h.2.2 hi' k
end SoM
namespace L2
structure Sto {α:Type}(lt:α->α->Bool):Prop where
 irr:∀x,lt x x=false
 tr:∀x y z,lt x y=true->lt y z=true->lt x z=true
 tot:∀x y,lt x y=false->lt y x=false->x=y
section
variable{α:Type}{lt:α->α->Bool}
theorem Sto.asy (o:Sto lt) {x y:α}(h:lt x y=true):lt y x=false:=by
 cases q:lt y x with
 |false=>rfl
 |true=>have:=o.tr x y x h q;rw[o.irr]at this;cases this
theorem Sto.lt_le (o:Sto lt) {x y z:α}(h:lt x y=true) (h2:lt z y=false):lt x z=true:=by
 cases q:lt y z with
 |true=>exact o.tr x y z h q
 |false=>rw[<-o.tot y z q h2];exact h
abbrev gL (lt:α->α->Bool) (l:List α):Prop:=l.Pairwise λa b=>lt b a=false
abbrev fH (lt:α->α->Bool) (l:List α):Prop:=l.Pairwise λa b=>lt a b=true
theorem J3 (o:Sto lt):∀{l l':List α},gL lt l->gL lt l'->l.Perm l'->l=l'
 | [],l',_,_,p=>(List.nil_perm.mp p).symm
 |x::r,[],_,_,p=>by simp at p
 |x::r,y::r',h,h',p=>by
  have h1:=fq.mp h;have h2:=fq.mp h';have e:x=y:=by
   refine o.tot x y ?_ ?_
   ·rcases ay.mp (p.mem_iff.mp (ax ..))with e|e
    ·rw[e];exact o.irr y
    ·exact h2.1 x e
   ·rcases ay.mp (p.mem_iff.mpr (ax ..))with e|e
    ·rw[e];exact o.irr x
    ·exact h1.1 y e
  subst e;rw[J3 o h1.2 h2.2 (List.Perm.cons_inv p)]
def lA (lt:α->α->Bool) (x:α):List α->List α
 | []=>[x]
 |y::r=>if lt y x then y::lA lt x r else if lt x y then x::y::r else y::r
def dN (lt:α->α->Bool):List α->List α
 | []=>[]
 |x::r=>lA lt x (dN lt r)
theorem CB (o:Sto lt) (x z:α):∀l,z∈lA lt x l↔z=x∨z∈l
 | []=>by simp[lA]
 |y::r=>by
  unfold lA
  split
  ·rw[ay,CB o x z r,ay];constructor
   ·rintro (h|h|h)
    ·exact .inr (.inl h)
    ·exact .inl h
    ·exact .inr (.inr h)
   ·rintro (h|h|h)
    ·exact .inr (.inl h)
    ·exact .inl h
    ·exact .inr (.inr h)
  ·rename_i q1
   split
   ·simp
   ·rename_i q2;have e:=o.tot x y (by simpa using q2) (by simpa using q1);subst e;simp
theorem nM (o:Sto lt) (z:α):∀l,z∈dN lt l↔z∈l
 | []=>.rfl
 |x::r=>by rw[dN,CB o,nM o z r,ay]
theorem J4 (o:Sto lt) (x:α):∀l,fH lt l->fH lt (lA lt x l)
 | [],_=>by simp[lA,fH]
 |y::r,h=>by
  have h1:=fq.mp h;unfold lA
  split
  ·rename_i q;refine fq.mpr ⟨λz hz=>?_,J4 o x r h1.2⟩
   rcases(CB o x z r).mp hz with rfl|hz
   ·exact q
   ·exact h1.1 z hz
  ·split
   ·rename_i q;refine fq.mpr ⟨λz hz=>?_,h⟩
    rcases ay.mp hz with rfl|hz
    ·exact q
    ·exact o.tr _ _ _ q (h1.1 z hz)
   ·exact h
theorem uE (o:Sto lt):∀l,fH lt (dN lt l)
 | []=>xh
 |x::r=>J4 o x _ (uE o r)
theorem J5 (o:Sto lt) {l:List α}(h:fH lt l):gL lt l:=h.imp λh=>o.asy h
theorem rG (o:Sto lt) {l:List α}(h:fH lt l):l.Nodup:=h.imp λ{a b} h e=>by rw[e,o.irr]at h;cases h
theorem xD (o:Sto lt) {l l':List α}(h:fH lt l) (h':fH lt l') (m:∀z,z∈l↔z∈l'):l=l':=by refine J3 o (J5 o h) (J5 o h') ?_;exact(ph (rG o h) (rG o h')).mpr m
theorem YL (o:Sto lt) {l l':List α}(h:fH lt l') (m:∀z,z∈l'↔z∈l):l'=dN lt l:=xD o h (uE o l) λz=>(m z).trans (nM o z l).symm
def rk (lt:α->α->Bool) (ks:List α) (x:α):Nat:=ks.countP λy=>lt y x
theorem CC {p q:α->Bool}:∀(l:List α),(∀y,p y=true->q y=true)->l.countP p<=l.countP q
 | [],_=>ak _
 |y::r,h=>by
  have:=CC r h;rw[rf,rf]
  cases hp:p y with
  |true=>rw[h y hp];simp;omega
  |false=>cases q y <;> simp <;> omega
theorem J6 {p q:α->Bool}:∀(l:List α),(∀y,p y=true->q y=true)->∀x,x∈l->q x=true->p x=false->l.countP p<l.countP q
 | [],_,x,hx,_,_=>by simp at hx
 |y::r,h,x,hx,h1,h2=>by
  rw[rf,rf]
  rcases ay.mp hx with rfl|hx
  ·have:=CC r h;rw[h1,h2];simp;omega
  ·have:=J6 r h x hx h1 h2
   cases hp:p y with
   |true=>rw[h y hp];simp;omega
   |false=>cases q y <;> simp <;> omega
theorem J7 (o:Sto lt) {ks:List α}{x z:α}(hx:x∈ks):decide (rk lt ks x<rk lt ks z)=lt x z:=by
 cases q:lt x z with
 |true=>exact decide_eq_true (J6 ks (λy h=>o.tr y x z h q) x hx q (o.irr x))
 |false=>exact decide_eq_false (Nat.not_lt.mpr (CC ks λy h=>o.lt_le h q))
theorem YM (o:Sto lt) {ks:List α}{x z:α}(hz:z∈ks) (h:rk lt ks x<=rk lt ks z):lt z x=false:=by rw[<-J7 o hz];exact decide_eq_false (Nat.not_lt.mpr h)
end
def cP:List Int->List Int->Bool
 | [],[]=>false
 | [],_::_=>true
 |_::_,[]=>false
 |a::x,b::y=>if a==b then cP x y else decide (a<b)
theorem stoL:Sto cP:=by
 refine⟨λx=>?_,λx=>?_,λx=>?_⟩
 ·induction x with
  |nil=>rfl
  |cons a x ih=>simp[cP,ih]
 ·induction x with
  |nil=>
   intro y z h1 h2
   cases z with
   |nil=>cases y with
    |nil=>exact h1
    |cons b y=>cases h2
   |cons c z=>rfl
  |cons a x ih=>
   intro y z h1 h2
   cases y with
   |nil=>cases h1
   |cons b y=>
    cases z with
    |nil=>cases h2
    |cons c z=>
     simp only[cP,beq_iff_eq]at h1 h2 ⊢
     by_cases e1:a=b <;> by_cases e2:b=c
     ·rw[if_pos e1]at h1;rw[if_pos e2]at h2;rw[if_pos (e1.trans e2)];exact ih y z h1 h2
     ·rw[if_neg e2]at h2;rw[if_neg (by rw[e1];exact e2)];rw[e1];exact h2
     ·rw[if_neg e1]at h1;rw[if_neg (by rw[<-e2];exact e1)];rw[<-e2];exact h1
     ·rw[if_neg e1]at h1;rw[if_neg e2]at h2;simp only[decide_eq_true_eq]at h1 h2;rw[if_neg (by omega)];simp;omega
 ·induction x with
  |nil=>
   intro y h1 h2
   cases y with
   |nil=>rfl
   |cons b y=>cases h1
  |cons a x ih=>
   intro y h1 h2
   cases y with
   |nil=>cases h2
   |cons b y=>
    simp only[cP,beq_iff_eq]at h1 h2
    by_cases e:a=b
    ·subst e;rw[if_pos rfl]at h1 h2;rw[ih y h1 h2]
    ·rw[if_neg e]at h1;rw[if_neg (de e)]at h2;simp at h1 h2;omega
def dO (p q:Int×Int):Bool:=if p.1==q.1 then decide (p.2<q.2)else decide (p.1<q.1)
def iW (p:Int×Int):List Int:=[p.1,p.2]
theorem uF (p q:Int×Int):cP (iW p) (iW q)=dO p q:=by
 unfold dO iW cP
 split
 ·unfold cP
  split
  ·rename_i h;simp at h;simp[cP,h]
  ·rfl
 ·rfl
theorem YN {p q:Int×Int}(h:iW p=iW q):p=q:=by obtain⟨a,b⟩:=p;obtain⟨c,d⟩:=q;simp[iW]at h;rw[h.1,h.2]
theorem stoP:Sto dO:=⟨λx=>by rw[<-uF];exact stoL.irr _,λx y z h1 h2=>by rw[<-uF]at *;exact stoL.tr _ _ _ h1 h2,λx y h1 h2=>by rw[<-uF]at *;exact YN (stoL.tot _ _ h1 h2)⟩
section
variable{α β:Type}{lt:α->α->Bool}{lt':β->β->Bool}{f:α->β}
theorem J8 (h:∀x y,lt' (f x) (f y)=lt x y) (x:α):∀l,lA lt' (f x) (l.map f)=(lA lt x l).map f
 | []=>rfl
 |y::r=>by
  simp only[cy,lA,h]
  split
  ·rw[J8 h x r];rfl
  ·split <;> rfl
theorem J9 (h:∀x y,lt' (f x) (f y)=lt x y):∀l,dN lt' (l.map f)=(dN lt l).map f
 | []=>rfl
 |x::r=>by rw[cy,dN,J9 h r,J8 h];rfl
end
end L2
namespace SM
open PySem PySem.SetTable
def gL (l:List Nat):Prop:=l.Pairwise (·<·)
theorem CD {l:List Nat}(hr:gL l) {i k x:Nat}(a:l[i]?=some x) (b:l[k]?=some x):i=k:=by
 obtain⟨p1,p2⟩:=ba.mp a;obtain⟨q1,q2⟩:=ba.mp b
 rcases Nat.lt_trichotomy i k with h|h|h
 ·have:=gn.mp hr i k p1 q1 h;omega
 ·exact h
 ·have:=gn.mp hr k i q1 p1 h;omega
theorem YO (xs:Array Nat) (j:Nat) (hr:gL xs.toList):∀(fuel lo hi:Nat),lo<=hi->hi<=xs.size->hi - lo<=fuel->
  (∀i (h:i<xs.size),i<lo->xs[i]<j)->(∀i (h:i<xs.size),hi<=i->j<=xs[i])->
  (∀i (h:i<xs.size),i<below.go xs j fuel lo hi->xs[i]<j)/\(∀i (h:i<xs.size),below.go xs j fuel lo hi<=i->j<=xs[i])/\below.go xs j fuel lo hi<=xs.size:=by
 intro fuel
 induction fuel with
 |zero=>
  intro lo hi h1 h2 h3 ha hb;have:lo=hi:=by omega
  subst this;exact⟨ha,hb,h2⟩
 |succ n ih=>
  intro lo hi h1 h2 h3 ha hb;unfold below.go
  by_cases hlt:lo<hi
  ·rw[if_pos hlt];dsimp only;have hm:(lo+hi) / 2<xs.size:=by omega
   have e:xs.getD ((lo+hi) / 2) j=xs[(lo+hi) / 2]:=by simp[jz,hm]
   have mono:∀a b (ha:a<xs.size) (hb:b<xs.size),a<b->xs[a]<xs[b]:=by intro a b ha hb hab;have:=gn.mp hr a b (by simpa using ha) (by simpa using hb) hab;simpa using this
   by_cases hc:xs.getD ((lo+hi) / 2) j<j
   ·rw[if_pos hc];refine ih _ _ (by omega) h2 (by omega) ?_ hb;intro i h hi';rw[e]at hc
    by_cases q:i=(lo+hi) / 2
    ·subst q;exact hc
    ·have:=mono i _ h hm (by omega);omega
   ·rw[if_neg hc];refine ih _ _ (by omega) (by omega) (by omega) ha ?_;intro i h hi';rw[e]at hc
    by_cases q:i=(lo+hi) / 2
    ·subst q;omega
    ·have:=mono _ i hm h (by omega);omega
  ·rw[if_neg hlt];have:lo=hi:=by omega
   subst this;exact⟨ha,hb,h2⟩
theorem uG {xs:Array Nat}{j:Nat}(hr:gL xs.toList):
  (∀i (h:i<xs.size),i<below xs j->xs[i]<j)/\(∀i (h:i<xs.size),below xs j<=i->j<=xs[i])/\below xs j<=xs.size:=
 YO xs j hr xs.size 0 xs.size (jc _) (ak _) (by omega) (λi h hi=>absurd hi (by omega)) (λi h hi=>absurd h (by omega))
theorem KC {xs:Array Nat}{j:Nat}(hr:gL xs.toList) (hm:j∈xs.toList):xs[below xs j]?=some j:=by
 obtain⟨h1,h2,h3⟩:=uG (j:=j) hr;obtain⟨i,hi,e⟩:=jx hm;have hi':i<xs.size:=by simpa using hi
 have e':xs[i]=j:=by simpa using e
 have hle:below xs j<=i:=by
  rcases iz i (below xs j)with q|q
  ·have:=h1 i hi' q;omega
  ·exact q
 have hb:below xs j<xs.size:=by omega
 have:=h2 (below xs j) hb (ak _);have mono:∀a b (ha:a<xs.size) (hb:b<xs.size),a<b->xs[a]<xs[b]:=by intro a b ha hb hab;have:=gn.mp hr a b (by simpa using ha) (by simpa using hb) hab;simpa using this
 have hE:below xs j=i:=by
  rcases iz (below xs j) i with q|q
  ·have:=mono _ _ hb hi' q;omega
  ·omega
 rw[fi hb]
 congr 1
 have:∀k (hk:k<xs.size),k=i->xs[k]=xs[i]:=by intro k hk e;subst e;rfl
 rw[this _ hb hE,e']
theorem YQ {xs:Array Nat}{j:Nat}(hm:j∉xs.toList):(xs[below xs j]?==some j)=false:=by rw[beq_eq_false_iff_ne];intro e;obtain⟨h,e⟩:=dh.mp e;exact hm (by rw[<-e];simp)
theorem uH {α:Type}(xs:Array α) (p:Nat) (x:α) (hp:p<=xs.size):(insertAt xs p x).toList=xs.toList.take p++x::xs.toList.drop p:=by unfold insertAt;rw[Array.toList_append,Array.toList_push];simp[Array.toList_extract,An]
theorem YR {xs:Array Nat}{j:Nat}(hr:gL xs.toList) (hm:j∉xs.toList):gL (insertAt xs (below xs j) j).toList:=by
 obtain⟨h1,h2,h3⟩:=uG (j:=j) hr;rw[uH _ _ _ h3];unfold gL at hr ⊢;have hlt:∀a∈xs.toList.take (below xs j),a<j:=by intro a ha;obtain⟨i,hi,e⟩:=jx ha;rw[iq]at hi;rw[List.getElem_take]at e;have:=h1 i (by simp at hi;omega) (by omega);simp at e;omega
 have hgt:∀a∈xs.toList.drop (below xs j),j<a:=by
  intro a ha;obtain⟨i,hi,e⟩:=jx ha;rw[nq]at hi;rw[List.getElem_drop]at e;have q:=h2 (below xs j+i) (by simp at hi;omega) (by omega);have ne:a≠j:=by rintro rfl;exact hm (Bm ha)
  simp at e;omega
 rw[List.pairwise_append];refine⟨hr.sublist (List.take_sublist _ _), ?_, ?_⟩
 ·rw[fq];exact⟨hgt,hr.sublist (List.drop_sublist _ _)⟩
 ·intro a ha b hb
  rcases ay.mp hb with rfl|hb
  ·exact hlt a ha
  ·have:=hlt a ha;have:=hgt b hb;omega
def nO (mask:Nat) (p:Probe):Probe:=
 if p.more>0 then{ p with j:=p.j+1,more:=p.more - 1 } else
 { p with j:=(leap mask p.i p.perturb).1,more:=runEnd mask (leap mask p.i p.perturb).1 - (leap mask p.i p.perturb).1,i:=(leap mask p.i p.perturb).1,perturb:=(leap mask p.i p.perturb).2 }
theorem KD (t:gv) (p:Probe):t.advance p=nO t.mask p:=by
 unfold SetTable.advance nO
 split <;> rfl
def uI (mask:Nat) (h:Int):Probe:={ j:=bits h % (mask+1),more:=runEnd mask (bits h % (mask+1)) - bits h % (mask+1),i:=bits h % (mask+1),perturb:=bits h,dummy:=none }
def cV (mask:Nat) (h:Int):Nat->Probe
 |0=>uI mask h
 |n+1=>nO mask (cV mask h n)
def pr (mask:Nat) (h:Int) (n:Nat):Nat:=(cV mask h n).j
theorem YS (mask:Nat) (p:Probe):(nO mask p).dummy=p.dummy:=by unfold nO;split <;> rfl
theorem KG (mask:Nat) (h:Int):∀n,(cV mask h n).dummy=none
 |0=>rfl
 |n+1=>by rw[cV,YS,KG mask h n]
def qG (mask i pt:Nat):Probe:={ j:=i,more:=runEnd mask i - i,i:=i,perturb:=pt,dummy:=none }
def bs (mask:Nat) (h:Int):Nat->Nat×Nat
 |0=>(bits h % (mask+1),bits h)
 |L+1=>leap mask (bs mask h L).1 (bs mask h L).2
theorem YT (mask i:Nat):runEnd mask i - i<=9:=by unfold runEnd;split <;> omega
theorem xE (mask:Nat) (h:Int) (i pt:Nat) (n:Nat) (e:cV mask h n=qG mask i pt):∀k,k<=runEnd mask i - i->cV mask h (n+k)={ qG mask i pt with j:=i+k,more:=runEnd mask i - i - k }
 |0,_=>by rw[Nat.add_zero,e];rfl
 |k+1,hk=>by have ih:=xE mask h i pt n e k (by omega);rw[show n+(k+1)=(n+k)+1 from rfl,cV,ih];unfold nO;rw[if_pos (show runEnd mask i - i - k>0 by omega)];simp[qG];omega
theorem KH (mask:Nat) (h:Int):∀L,∃n,n<=10*L/\cV mask h n=qG mask (bs mask h L).1 (bs mask h L).2
 |0=>⟨0,by omega,rfl⟩
 |L+1=>by obtain⟨n,hn,e⟩:=KH mask h L;have r:=xE mask h _ _ n e (runEnd mask (bs mask h L).1 - (bs mask h L).1) (ak _);have:=YT mask (bs mask h L).1;refine⟨n+(runEnd mask (bs mask h L).1 - (bs mask h L).1)+1,by omega, ?_⟩;rw[cV,r];unfold nO;rw[if_neg (by simp)];rfl
theorem KI (mask:Nat) (h:Int):∀L,(bs mask h L).2=bits h / 32 ^ L
 |0=>by simp[bs]
 |L+1=>by rw[bs];show(bs mask h L).2 / 32=_;rw[KI mask h L,Nat.div_div_eq_div_mul,Nat.pow_succ]
theorem YU (h:Int):bits h<2 ^ 64:=by unfold bits;omega
theorem YV (mask:Nat) (h:Int) {L:Nat}(hL:13<=L):(bs mask h L).2=0:=by
 rw[KI];have h1:=YU h;have h2:(32:Nat) ^ 13<=32 ^ L:=Nat.pow_le_pow_right (by decide) hL;have h3:(2:Nat) ^ 64<32 ^ 13:=by decide
 exact Nat.div_eq_of_lt (by omega)
def fx (mask x:Nat):Nat:=(x*5+1) % (mask+1)
def oY (mask:Nat):Nat->Nat->Nat
 |0,x=>x
 |n+1,x=>oY mask n (fx mask x)
theorem KJ (mask:Nat):∀n x,oY mask (n+1) x=fx mask (oY mask n x)
 |0,x=>rfl
 |n+1,x=>by rw[oY,KJ mask n,oY]
theorem KL (mask:Nat) (h:Int):∀n,(bs mask h (13+n)).1=oY mask n (bs mask h 13).1
 |0=>rfl
 |n+1=>by rw[KJ,<-KL mask h n,show 13+(n+1)=(13+n)+1 from rfl,bs];show((bs mask h (13+n)).1*5+1+(bs mask h (13+n)).2 / 32) % (mask+1)=_;rw[YV mask h (by omega)];rfl
def rH (mask:Nat):Nat->Nat->Nat
 |0,_=>0
 |n+1,x=>2 ^ x ||| rH mask n (fx mask x)
theorem KN (mask j:Nat):∀n x,(rH mask n x).testBit j=true->∃k,k<n/\oY mask k x=j
 |0,x,h=>by simp[rH]at h
 |n+1,x,h=>by
  rw[rH,Nat.testBit_or,wg]at h
  rcases h with h|h
  ·rw[Nat.testBit_two_pow,decide_eq_true_eq]at h;exact⟨0,by omega,h⟩
  ·obtain⟨k,hk,e⟩:=KN mask j n _ h;exact⟨k+1,by omega,e⟩
def lX (mask:Nat):Prop:=mask=7∨mask=31∨mask=127
def KO (mask:Nat):Bool:=(bo (mask+1)).all λx=>rH mask (mask+1) x==2 ^ (mask+1) - 1
theorem YW {mask:Nat}(g:lX mask):KO mask=true:=by rcases g with rfl|rfl|rfl <;> decide +kernel
theorem YX {mask x j:Nat}(g:lX mask) (hx:x<=mask) (hj:j<=mask):∃k,k<=mask/\oY mask k x=j:=by
 have h1:=YW g;unfold KO at h1;rw[cu]at h1;have h2:=h1 x (bx.mpr (by omega));rw[beq_iff_eq]at h2;have h3:(rH mask (mask+1) x).testBit j=true:=by rw[h2,Nat.testBit_two_pow_sub_one,decide_eq_true_eq];omega
 obtain⟨k,hk,e⟩:=KN mask j _ _ h3;exact⟨k,by omega,e⟩
theorem xF (a m:Nat):a % (m+1)<=m:=by have:=Nat.mod_lt a (show 0<m+1 by omega);omega
theorem YY (mask:Nat) (h:Int):∀L,(bs mask h L).1<=mask
 |0=>xF _ _
 |L+1=>xF _ _
theorem KQ {mask j:Nat}(g:lX mask) (h:Int) (hj:j<=mask):∃L,L<=13+mask/\(bs mask h L).1=j:=by obtain⟨k,hk,e⟩:=YX g (YY mask h 13) hj;exact⟨13+k,by omega,by rw[KL];exact e⟩
theorem YZ {mask j:Nat}(g:lX mask) (h:Int) (hj:j<=mask):∃n,n<10*turns mask/\pr mask h n=j:=by obtain⟨L,hL,e⟩:=KQ g h hj;obtain⟨n,hn,e2⟩:=KH mask h L;refine⟨n,by unfold turns;omega, ?_⟩;unfold pr;rw[e2];exact e
theorem KR {mask i:Nat}(hi:i<=mask):runEnd mask i<=mask:=by unfold runEnd;split <;> omega
theorem KS {mask:Nat}(h:Int):∀n,(cV mask h n).i<=mask/\(cV mask h n).j+(cV mask h n).more<=mask
 |0=>by
  have e:bits h % (mask+1)<=mask:=xF _ _;have:=KR e;have:bits h % (mask+1)<=runEnd mask (bits h % (mask+1)):=by unfold runEnd;split <;> omega
  exact⟨e,by show bits h % (mask+1)+(runEnd mask (bits h % (mask+1)) - bits h % (mask+1))<=mask;omega⟩
 |n+1=>by
  obtain⟨h1,h2⟩:=KS (mask:=mask) h n;rw[cV];unfold nO
  split
  ·exact⟨h1,by dsimp only;omega⟩
  ·dsimp only;have e:(leap mask (cV mask h n).i (cV mask h n).perturb).1<=mask:=xF _ _;have:=KR e;have:(leap mask (cV mask h n).i (cV mask h n).perturb).1<=runEnd mask (leap mask (cV mask h n).i (cV mask h n).perturb).1:=by unfold runEnd;split <;> omega
   exact⟨e,by omega⟩
theorem CF {mask:Nat}(h:Int) (n:Nat):pr mask h n<=mask:=by have:=(KS (mask:=mask) h n).2;unfold pr;omega
def Way (mask:Nat) (occ:Nat->Prop) (h:Int) (j:Nat):Prop:=∃n,pr mask h n=j/\∀m,m<n->occ (pr mask h m)
theorem Way.mono {mask:Nat}{occ occ':Nat->Prop}{h:Int}{j:Nat}(w:Way mask occ h j) (k:∀x,occ x->occ' x):Way mask occ' h j:=let ⟨n,e,a⟩:=w;⟨n,e,λm hm=>k _ (a m hm)⟩
structure TOk (t:gv) (hs:List Int):Prop where
 size:t.place.size=hs.length
 rise:gL t.place.toList
 nod:t.dummies=#[]
 bnd:∀j∈t.place.toList,j<=t.mask
 room:hs.length<=t.mask
 msk:lX t.mask
 way:∀(i:Nat) (h:Int) (j:Nat),hs[i]?=some h->t.place.toList[i]?=some j->Way t.mask (·∈t.place.toList) h j
 plain:t.plain=true
theorem TOk.fits {t:gv}{hs:List Int}(T:TOk t hs):t.fits hs.length=true:=by unfold SetTable.fits SetTable.fill;rw[T.nod,T.size];simpa using T.room
theorem TOk.gave {t:gv}{hs:List Int}(T:TOk t hs):t.gaveWay=false:=by
 unfold SetTable.gaveWay
 rcases T.msk with e|e|e <;> rw[e] <;> rfl
theorem KU (j:Nat):SetTable.has #[] j=false:=by unfold SetTable.has;simp
theorem TOk.slot_live {t:gv}{hs:List Int}(T:TOk t hs) {j:Nat}(h:j∈t.place.toList):∃i,t.slot j=.live i/\t.place.toList[i]?=some j:=by refine⟨below t.place j, ?_,by simpa using KC T.rise h⟩;unfold SetTable.slot;dsimp only;rw[KC T.rise h];simp
theorem TOk.slot_empty {t:gv}{hs:List Int}(T:TOk t hs) {j:Nat}(h:j∉t.place.toList):t.slot j=.empty:=by unfold SetTable.slot;dsimp only;rw[YQ h,T.nod,KU];rfl
theorem TOk.empty_there {t:gv}{hs:List Int}(T:TOk t hs):∃j,j<=t.mask/\j∉t.place.toList:=by
 rcases qk (∃j,j<=t.mask/\j∉t.place.toList)with h|h
 ·exact h
 ·exfalso
  have h1:∀j,j∈bo (t.mask+1)->j∈t.place.toList:=by
   intro j hj
   rcases qk (j∈t.place.toList)with q|q
   ·exact q
   ·exact absurd ⟨j,by have:=bx.mp hj;omega,q⟩ h
  have h2:=(rg (n:=t.mask+1)).length_le_of_subset h1;rw[jv]at h2;have h3:t.place.toList.length=hs.length:=by rw[<-T.size];simp
  have:=T.room;omega
theorem Y0 {t:gv}{hs:List Int}(T:TOk t hs) (hashAt:Nat->Int) (h:Int):∀(fuel n N:Nat),n<=N->N - n<fuel->pr t.mask h N∉t.place.toList->
  ∃m,n<=m/\m<=N/\(∀l,n<=l->l<m->pr t.mask h l∈t.place.toList/\∀i,t.place.toList[i]?=some (pr t.mask h l)->hashAt i≠h) /\
   ((pr t.mask h m∉t.place.toList/\probe.go t hashAt h fuel (cV t.mask h n)=some (.empty (pr t.mask h m) none)) ∨
    (∃i,t.place.toList[i]?=some (pr t.mask h m)/\hashAt i=h/\probe.go t hashAt h fuel (cV t.mask h n)=some (.candidate (pr t.mask h m) i (cV t.mask h (m+1))))):=by
 intro fuel
 induction fuel with
 |zero=>intro n N _ h2 _;omega
 |succ f ih=>
  intro n N h1 h2 h3;have hj:(cV t.mask h n).j=pr t.mask h n:=rfl
  rcases qk (pr t.mask h n∈t.place.toList)with hm|hm
  ·obtain⟨i,e1,e2⟩:=T.slot_live hm
   by_cases hh:hashAt i=h
   ·refine⟨n,ak _,h1,λl a b=>absurd a (by omega),.inr ⟨i,e2,hh, ?_⟩⟩;rw[probe.go,hj,e1];dsimp only;rw[if_pos (beq_iff_eq.mpr hh),KD];rfl
   ·have hne:n≠N:=by rintro rfl;exact h3 hm
    obtain⟨m,a1,a2,a3,a4⟩:=ih (n+1) N (by omega) (by omega) h3;have e3:probe.go t hashAt h (f+1) (cV t.mask h n)=probe.go t hashAt h f (cV t.mask h (n+1)):=by rw[probe.go,hj,e1];dsimp only;rw[if_neg (by intro q;exact hh (beq_iff_eq.mp q)),KD];rfl
    refine⟨m,by omega,a2,λl b1 b2=>?_,by rw[e3];exact a4⟩
    rcases iz n l with q|q
    ·exact a3 l (by omega) b2
    ·have:l=n:=by omega
     subst this;refine⟨hm,λi' e'=>?_⟩;have:i'=i:=CD T.rise e' e2;subst this;exact hh
  ·refine⟨n,ak _,h1,λl a b=>absurd a (by omega),.inl ⟨hm, ?_⟩⟩;rw[probe.go,hj,T.slot_empty hm];dsimp only;rw[KG]
theorem TOk.stops {t:gv}{hs:List Int}(T:TOk t hs) (h:Int):∃N,N<10*turns t.mask/\pr t.mask h N∉t.place.toList:=by obtain⟨j,hj,hn⟩:=T.empty_there;obtain⟨N,hN,e⟩:=YZ T.msk h hj;exact⟨N,hN,by rw[e];exact hn⟩
theorem TOk.before {t:gv}{hs:List Int}(T:TOk t hs) {h:Int}{i j m:Nat}(e1:hs[i]?=some h) (e2:t.place.toList[i]?=some j) (hm:pr t.mask h m∉t.place.toList):∃n,n<m/\pr t.mask h n=j:=by
 obtain⟨n,e,a⟩:=T.way i h j e1 e2;refine⟨n, ?_,e⟩
 rcases iz n m with q|q
 ·exact q
 ·exfalso
  rcases iz m n with r|r
  ·exact hm (a m r)
  ·have:m=n:=by omega
   subst this;exact hm (by rw[e];exact bw e2)
theorem KW {xs:Array Nat}{p j x:Nat}(hp:p<=xs.size):x∈(insertAt xs p j).toList↔x=j∨x∈xs.toList:=by
 rw[uH _ _ _ hp,fw,ay];have e:x∈xs.toList↔x∈xs.toList.take p∨x∈xs.toList.drop p:=by rw[<-fw,Bb]
 rw[e];constructor
 ·rintro (a|a|a)
  ·exact .inr (.inl a)
  ·exact .inl a
  ·exact .inr (.inr a)
 ·rintro (a|a|a)
  ·exact .inr (.inl a)
  ·exact .inl a
  ·exact .inr (.inr a)
theorem Y1 {t:gv}(hn:t.dummies=#[]) (j:Nat):t.put j=({ t with place:=insertAt t.place (below t.place j) j },below t.place j):=by unfold SetTable.put;dsimp only;rw[hn,KU];cases t;subst hn;rfl
theorem KY {α:Type}(l:List α) (x:α) (p i:Nat) (hp:p<=l.length):(l.take p++x::l.drop p)[i]?=if i<p then l[i]? else if i=p then some x else l[i - 1]?:=by
 have hl:(l.take p).length=p:=by rw[iq];omega
 by_cases h1:i<p
 ·rw[if_pos h1,dk (by omega),zt h1]
 ·rw[if_neg h1,dy (by omega),hl]
  by_cases h2:i=p
  ·subst h2;rw[if_pos rfl,Nat.sub_self];rfl
  ·rw[if_neg h2];obtain⟨k,rfl⟩:∃k,i=p+(k+1):=⟨i - p - 1,by omega⟩
   rw[show p+(k+1) - p=k+1 by omega,qz,List.getElem?_drop,show p+(k+1) - 1=p+k by omega]
theorem TOk.put {t:gv}{hs:List Int}(T:TOk t hs) {h:Int}{n:Nat}(hn:pr t.mask h n∉t.place.toList) (hw:∀m,m<n->pr t.mask h m∈t.place.toList) (hr:hs.length+1<=t.mask):
  TOk { t with place:=insertAt t.place (below t.place (pr t.mask h n)) (pr t.mask h n) } (hs.take (below t.place (pr t.mask h n))++h::hs.drop (below t.place (pr t.mask h n))):=by
 have hb:=(uG (j:=pr t.mask h n) T.rise).2.2;have hs':t.place.toList.length=hs.length:=by rw[<-T.size];simp
 have hlen:(hs.take (below t.place (pr t.mask h n))++h::hs.drop (below t.place (pr t.mask h n))).length=hs.length+1:=by rw[br,cp,iq,nq];have:=T.size;omega
 refine⟨?_,YR T.rise hn,T.nod, ?_, ?_,T.msk, ?_,T.plain⟩
 ·show(insertAt t.place (below t.place (pr t.mask h n)) (pr t.mask h n)).size=_;rw[hlen];have:(insertAt t.place (below t.place (pr t.mask h n)) (pr t.mask h n)).toList.length=hs.length+1:=by rw[uH _ _ _ hb,br,cp,iq,nq,hs'];have:=T.size;omega
  simpa using this
 ·intro j hj
  rcases(KW hb).mp hj with rfl|hj
  ·exact CF h n
  ·exact T.bnd j hj
 ·rw[hlen];exact hr
 ·intro i h' j e1 e2;have e2':(t.place.toList.take (below t.place (pr t.mask h n))++pr t.mask h n::t.place.toList.drop (below t.place (pr t.mask h n)))[i]?=some j:=by rw[<-uH _ _ _ hb];exact e2
  have hb2:below t.place (pr t.mask h n)<=hs.length:=by rw[<-T.size];exact hb
  rw[KY _ _ _ _ hb2]at e1;rw[KY _ _ _ _ (by rw[hs'];exact hb2)]at e2';have mono:∀x,x∈t.place.toList->x∈(insertAt t.place (below t.place (pr t.mask h n)) (pr t.mask h n)).toList:=λx hx=>(KW hb).mpr (.inr hx)
  by_cases q1:i<below t.place (pr t.mask h n)
  ·rw[if_pos q1]at e1 e2';exact(T.way _ _ _ e1 e2').mono mono
  ·rw[if_neg q1]at e1 e2'
   by_cases q2:i=below t.place (pr t.mask h n)
   ·rw[if_pos q2]at e1 e2'
    cases e1;cases e2'
    exact⟨n,rfl,λm hm=>mono _ (hw m hm)⟩
   ·rw[if_neg q2]at e1 e2';exact(T.way _ _ _ e1 e2').mono mono
def hW (owner:Array (Option Nat)) (j:Nat):Prop:=(owner.getD j (some 0)).isSome=true
theorem KZ {P:Nat->Bool}{n:Nat}(h:(bo n).find? P=none):∀k,k<n->P k=false:=by intro k hk;have:=List.find?_eq_none.mp h k (bx.mpr hk);simpa using this
theorem Y2 {P:Nat->Bool}:∀{n k:Nat},(bo n).find? P=some k->k<n/\P k=true/\∀l,l<k->P l=false:=by
 intro n
 induction n with
 |zero=>intro k h;simp at h
 |succ n ih=>
  intro k h;rw[List.range_succ,List.find?_append]at h
  cases q:(bo n).find? P with
  |some k'=>rw[q]at h;simp at h;subst h;obtain⟨a,b,c⟩:=ih q;exact⟨by omega,b,c⟩
  |none=>
   rw[q]at h
   by_cases hp:P n=true
   ·simp[hp]at h;subst h;exact⟨by omega,hp,λl hl=>KZ q l hl⟩
   ·simp[hp]at h
theorem Y3 {mask:Nat}{h:Int}{L n:Nat}(e:cV mask h n=qG mask (bs mask h L).1 (bs mask h L).2):cV mask h (n+(runEnd mask (bs mask h L).1 - (bs mask h L).1)+1)=qG mask (bs mask h (L+1)).1 (bs mask h (L+1)).2:=by have r:=xE mask h _ _ n e (runEnd mask (bs mask h L).1 - (bs mask h L).1) (ak _);rw[cV,r];unfold nO;rw[if_neg (by simp)];rfl
theorem Y4 {mask:Nat}{h:Int}{owner:Array (Option Nat)}:∀(fuel L n:Nat),cV mask h n=qG mask (bs mask h L).1 (bs mask h L).2->(∀k,k<n->hW owner (pr mask h k))->
  (∃L',L<=L'/\L'<L+fuel/\¬ hW owner (bs mask h L').1)->
  ∃n,layClean.free mask owner fuel (bs mask h L).1 (bs mask h L).2=some (pr mask h n)/\¬ hW owner (pr mask h n)/\∀m,m<n->hW owner (pr mask h m):=by
 intro fuel
 induction fuel with
 |zero=>rintro L n _ _ ⟨L',a,b,_⟩;omega
 |succ f ih=>
  rintro L n e hb ⟨L',a1,a2,a3⟩
  have r:=xE mask h _ _ n e;have hle:(bs mask h L).1<=runEnd mask (bs mask h L).1:=by unfold runEnd;split <;> omega
  rw[layClean.free]
  cases q:(bo (runEnd mask (bs mask h L).1+1 - (bs mask h L).1)).find? λk=>(owner.getD ((bs mask h L).1+k) (some 0)).isNone with
  |some k=>
   obtain⟨b1,b2,b3⟩:=Y2 q;dsimp only;have ek:pr mask h (n+k)=(bs mask h L).1+k:=by unfold pr;rw[r k (by omega)]
   refine⟨n+k,by rw[ek], ?_,λm hm=>?_⟩
   ·rw[ek];unfold hW;simp at b2;simp[b2]
   ·rcases iz m n with z|z
    ·exact hb m z
    ·obtain⟨l,rfl⟩:∃l,m=n+l:=⟨m - n,by omega⟩
     have el:pr mask h (n+l)=(bs mask h L).1+l:=by unfold pr;rw[r l (by omega)]
     rw[el];have:=b3 l (by omega);unfold hW
     cases w:owner.getD ((bs mask h L).1+l) (some 0)with
     |none=>rw[w]at this;simp at this
     |some _=>rfl
  |none=>
   dsimp only;have b:=KZ q;have hocc:∀l,l<=runEnd mask (bs mask h L).1 - (bs mask h L).1->hW owner ((bs mask h L).1+l):=by
    intro l hl;have:=b l (by omega);unfold hW
    cases w:owner.getD ((bs mask h L).1+l) (some 0)with
    |none=>rw[w]at this;simp at this
    |some _=>rfl
   have hne:L≠L':=by
    rintro rfl
    exact a3 (by simpa using hocc 0 (by omega))
   refine ih (L+1) _ (Y3 e) (λk hk=>?_) ⟨L',by omega,by omega,a3⟩
   rcases iz k n with z|z
   ·exact hb k z
   ·obtain⟨l,rfl⟩:∃l,k=n+l:=⟨k - n,by omega⟩
    have el:pr mask h (n+l)=(bs mask h L).1+l:=by unfold pr;rw[r l (by omega)]
    rw[el];exact hocc l (by omega)
structure LOk (mask:Nat) (hs:List Int) (owner:Array (Option Nat)) (k:Nat):Prop where
 size:owner.size=mask+1
 own:∀(j i:Nat),owner[j]?=some (some i)->i<k/\∃h,hs[i]?=some h/\Way mask (hW owner) h j
 all:∀(i:Nat),i<k->∃j:Nat,owner[j]?=some (some i)
 inj:∀(j j' i:Nat),owner[j]?=some (some i)->owner[j']?=some (some i)->j=j'
theorem uJ {owner:Array (Option Nat)}{j:Nat}(hj:j<owner.size):hW owner j↔∃i,owner[j]?=some (some i):=by
 unfold hW;rw[fi hj];simp only[jz,hj,dif_pos,Array.getInternal_eq_getElem,zq]
 cases owner[j] <;> simp
theorem LOk.free {mask k:Nat}{hs:List Int}{owner:Array (Option Nat)}(O:LOk mask hs owner k) (hk:k<=mask):∃j,j<=mask/\¬ hW owner j:=by
 rcases qk (∃j,j<=mask/\¬ hW owner j)with h|h
 ·exact h
 ·exfalso
  have h1:∀j,j<=mask->∃i,owner[j]?=some (some i):=λj hj=>by
   rcases qk (hW owner j)with q|q
   ·exact(uJ (by rw[O.size];omega)).mp q
   ·exact absurd ⟨j,hj,q⟩ h
  let f:Nat->Nat:=λj=>match owner[j]? with|some (some i)=>i|_=>0
  have hf:∀j,j<=mask->owner[j]?=some (some (f j)):=λj hj=>by obtain⟨i,e⟩:=h1 j hj;show owner[j]?=some (some (match owner[j]? with|some (some i)=>i|_=>0));rw[e]
  have nd:((bo (mask+1)).map f).Nodup:=by rw[yf];rw[ql];refine ou ?_ (rg (n:=mask+1));intro a b ha hb hab e;have ea:=hf a (by have:=bx.mp ha;omega);have eb:=hf b (by have:=bx.mp hb;omega);rw[e]at ea;exact hab (O.inj _ _ _ ea eb)
  have sub:∀x,x∈(bo (mask+1)).map f->x∈bo k:=by intro x hx;obtain⟨j,hj,rfl⟩:=cb.mp hx;exact bx.mpr (O.own j _ (hf j (by have:=bx.mp hj;omega))).1
  have:=nd.length_le_of_subset sub;simp at this;omega
theorem LOk.step {mask k:Nat}{hs:List Int}{owner:Array (Option Nat)}{h:Int}(g:lX mask) (O:LOk mask hs owner k) (hk:k<=mask) (hh:hs[k]?=some h):
  ∃j,layClean.free mask owner (turns mask) (bits h % (mask+1)) (bits h)=some j/\LOk mask hs (owner.setIfInBounds j (some k)) (k+1):=by
 obtain⟨j0,hj0,hn0⟩:=O.free hk;obtain⟨L,hL,eL⟩:=KQ g h hj0;obtain⟨n,e,hn,hw⟩:=Y4 (mask:=mask) (h:=h) (owner:=owner) (turns mask) 0 0 rfl (λk hk=>absurd hk (by omega)) ⟨L,by omega,by unfold turns;omega,by rw[eL];exact hn0⟩;refine⟨pr mask h n,e, ?_⟩;have hjl:pr mask h n<owner.size:=by rw[O.size];have:=CF (mask:=mask) h n;omega
 have hjn:owner[pr mask h n]?=some none:=by
  rw[fi hjl];have:¬ ∃i,owner[pr mask h n]?=some (some i):=λq=>hn ((uJ hjl).mpr q)
  cases w:owner[pr mask h n]with
  |none=>rfl
  |some i=>exact absurd ⟨i,by rw[fi hjl,w]⟩ this
 have get:∀j,(owner.setIfInBounds (pr mask h n) (some k))[j]?=if pr mask h n=j then some (some k)else owner[j]?:=by
  intro j;rw[Array.getElem?_setIfInBounds]
  by_cases q:pr mask h n=j
  ·rw[if_pos q,if_pos q,if_pos hjl]
  ·rw[if_neg q,if_neg q]
 have hsz:(owner.setIfInBounds (pr mask h n) (some k)).size=mask+1:=by rw[Array.size_setIfInBounds];exact O.size
 have occm:∀x,hW owner x->hW (owner.setIfInBounds (pr mask h n) (some k)) x:=by
  intro x hx
  by_cases hl:x<owner.size
  ·obtain⟨i,e⟩:=(uJ hl).mp hx;refine(uJ (by rw[hsz,<-O.size];exact hl)).mpr ?_;rw[get]
   by_cases q:pr mask h n=x
   ·exact⟨k,if_pos q⟩
   ·exact⟨i,by rw[if_neg q];exact e⟩
  ·unfold hW;simp[jz,hl]
 refine⟨hsz, ?_, ?_, ?_⟩
 ·intro j i e;rw[get]at e
  by_cases q:pr mask h n=j
  ·rw[if_pos q]at e;cases e;exact⟨by omega,h,hh,n,q,λm hm=>occm _ (hw m hm)⟩
  ·rw[if_neg q]at e;obtain⟨a,h',b,c⟩:=O.own j i e;exact⟨by omega,h',b,c.mono occm⟩
 ·intro i hi
  by_cases q:i=k
  ·subst q;exact⟨pr mask h n,by rw[get,if_pos rfl]⟩
  ·obtain⟨j,e⟩:=O.all i (by omega);refine⟨j, ?_⟩;rw[get]
   by_cases z:pr mask h n=j
   ·rw[<-z,hjn]at e;cases e
   ·rw[if_neg z];exact e
 ·intro j j' i e e';rw[get]at e e'
  by_cases z:pr mask h n=j
  ·rw[if_pos z]at e;cases e
   by_cases z':pr mask h n=j'
   ·exact z.symm.trans z'
   ·rw[if_neg z']at e';have:=(O.own j' _ e').1;omega
  ·rw[if_neg z]at e
   by_cases z':pr mask h n=j'
   ·rw[if_pos z']at e';cases e';have:=(O.own j _ e).1;omega
   ·rw[if_neg z']at e';exact O.inj _ _ _ e e'
theorem K0 {mask:Nat}{hs:List Int}(g:lX mask) (hl:hs.length<=mask):∀(l pre:List Int) (owner:Array (Option Nat)),hs=pre++l->LOk mask hs owner pre.length->
  ∃owner',l.foldl (λ(acc:Option (Array (Option Nat)×Nat)) h=>do
    let (owner,k) <-acc
    let j <-layClean.free mask owner (turns mask) (bits h % (mask+1)) (bits h)
    pure (owner.setIfInBounds j (some k),k+1)) (some (owner,pre.length))=some (owner',hs.length)/\LOk mask hs owner' hs.length
 | [],pre,owner,e,O=>by rw[lh]at e;subst e;exact⟨owner,rfl,O⟩
 |h::l,pre,owner,e,O=>by
  have hh:hs[pre.length]?=some h:=by rw[e];simp
  obtain⟨j,e1,O1⟩:=O.step g (by rw[e]at hl;simp at hl;omega) hh;have e2:hs=(pre++[h])++l:=by rw[e];simp
  have hlen:(pre++[h]).length=pre.length+1:=by simp
  obtain⟨o',a,b⟩:=K0 g hl l (pre++[h]) _ e2 (by rw[hlen];exact O1);refine⟨o', ?_,b⟩;rw[List.foldl_cons];rw[<-a,hlen]
  congr 1
  show(do let j <-layClean.free mask owner (turns mask) (bits h % (mask+1)) (bits h);pure (owner.setIfInBounds j (some pre.length),pre.length+1))=_;rw[e1];rfl
theorem Y5 {mask:Nat}{hs:Array Int}(g:lX mask) (hl:hs.size<=mask):∃owner,layClean mask hs=some owner/\LOk mask hs.toList owner hs.size:=by
 have O0:LOk mask hs.toList (Array.replicate (mask+1) none) 0:=by
  refine⟨by simp, ?_,λi hi=>absurd hi (by omega), ?_⟩
  ·intro j i e;rw[zm]at e
   split at e <;> simp at e
  ·intro j j' i e;rw[zm]at e
   split at e <;> simp at e
 obtain⟨o',a,b⟩:=K0 g (by simpa using hl) hs.toList [] _ rfl O0;refine⟨o', ?_,by simpa using b⟩;unfold layClean;rw[<-Array.foldl_toList];simp only[je]at a;rw[a];rfl
theorem Way.mono' {mask:Nat}{occ occ':Nat->Prop}{h:Int}{j:Nat}(w:Way mask occ h j) (k:∀x,x<=mask->occ x->occ' x):Way mask occ' h j:=let ⟨n,e,a⟩:=w;⟨n,e,λm hm=>k _ (CF h m) (a m hm)⟩
theorem K1 (g:Nat->Option Nat):∀(l:List Nat),l.Pairwise (·<·)->((l.filterMap λj=>(g j).map ((j,·):Nat->Nat×Nat)).map ed).Pairwise (·<·)
 | [],_=>by simp
 |j::l,h=>by
  rw[fq]at h;have ih:=K1 g l h.2
  cases e:g j with
  |none=>simpa[cj,e]using ih
  |some i=>
   simp only[cj,e,Option.map_some,cy,fq];refine⟨?_,ih⟩;intro a ha;obtain⟨⟨x,y⟩,hp,rfl⟩:=cb.mp ha;obtain⟨z,hz,ez⟩:=gz.mp hp
   cases q:g z with
   |none=>rw[q]at ez;simp at ez
   |some i'=>rw[q]at ez;simp at ez;have:=h.1 z hz;omega
theorem Y6 {mask finger moves:Nat}{led:Bool}{hs:Array Int}(g:lX mask) (hl:hs.size<=mask):
  ∃t order,laid mask finger moves led true hs=some (t,order)/\t.mask=mask/\t.led=led/\order.toList.Perm (bo hs.size)/\TOk t (order.toList.filterMap (hs.toList[·]?)):=by
 obtain⟨owner,e,O⟩:=Y5 g hl;generalize hlive:(bo (mask+1)).filterMap (λj=>(owner.getD j none).map ((j,·):Nat->Nat×Nat))=live;have hmem:∀j i,(j,i)∈live↔owner[j]?=some (some i):=by
  intro j i;rw[<-hlive,gz];constructor
  ·rintro ⟨x,hx,ex⟩
   have hx':x<owner.size:=by rw[O.size];exact bx.mp hx
   have eg:owner.getD x none=owner[x]:=by simp[jz,hx']
   rw[eg]at ex
   cases q:owner[x]with
   |none=>rw[q]at ex;simp at ex
   |some i'=>rw[q]at ex;simp at ex;obtain⟨rfl,rfl⟩:=ex;rw[fi hx',q]
  ·intro h;obtain⟨hx',q⟩:=dh.mp h;refine⟨j,bx.mpr (by rw[<-O.size];exact hx'), ?_⟩;have eg:owner.getD j none=owner[j]:=by simp[jz,hx']
   rw[eg,q];rfl
 have hrise:(live.map ed).Pairwise (·<·):=by rw[<-hlive];exact K1 _ _ (List.pairwise_lt_range)
 have hperm:(live.map pj).Perm (bo hs.size):=by
  refine(ph ?_ rg).mpr ?_
  ·rw[yf,ql];rw[ql]at hrise;refine ou ?_ hrise
   rintro ⟨a,i⟩ ⟨b,i'⟩ ha hb hab e
   have e':i=i':=e;subst e';have:=O.inj a b i ((hmem _ _).mp ha) ((hmem _ _).mp hb);have hab':a<b:=hab;omega
  ·intro i;rw[bx];constructor
   ·intro h;obtain⟨⟨j,i'⟩,hp,rfl⟩:=cb.mp h;exact(O.own j i' ((hmem _ _).mp hp)).1
   ·intro h;obtain⟨j,ej⟩:=O.all i h;exact cb.mpr ⟨(j,i),(hmem _ _).mpr ej,rfl⟩
 have hlen:live.length=hs.size:=by simpa using hperm.length_eq
 have hget:∀(i:Nat),((live.map pj).filterMap (hs.toList[·]?))[i]?=(live[i]?).bind λp=>hs.toList[p.2]?:=by
  have gen:∀(l:List (Nat×Nat)),(∀p∈l,p.2<hs.toList.length)->∀(i:Nat),((l.map pj).filterMap (hs.toList[·]?))[i]?=(l[i]?).bind λp=>hs.toList[p.2]?:=by
   intro l
   induction l with
   |nil=>intro _ i;simp
   |cons p l ih=>
    intro hp i;have h1:=hp p (ax ..);have e1:hs.toList[p.2]?=some hs.toList[p.2]:=bc h1;rw[cy,cj,e1]
    cases i with
    |zero=>simp[e1]
    |succ i=>simp only[qz];exact ih (λq hq=>hp q (aq _ hq)) i
  intro i;refine gen live ?_ i
  rintro ⟨j,k⟩ hp
  have:=(O.own j k ((hmem _ _).mp hp)).1;simpa using this
 have hlen':((live.map pj).filterMap (hs.toList[·]?)).length=hs.size:=by
  have gen:∀(l:List (Nat×Nat)),(∀p∈l,p.2<hs.toList.length)->((l.map pj).filterMap (hs.toList[·]?)).length=l.length:=by
   intro l
   induction l with
   |nil=>intro _;rfl
   |cons p l ih=>intro hp;have h1:=hp p (ax ..);have e1:hs.toList[p.2]?=some hs.toList[p.2]:=bc h1;rw[cy,cj,e1];show(_::_).length=_;rw[cp,cp,ih (λq hq=>hp q (aq _ hq))]
  rw[gen live ?_,hlen]
  rintro ⟨j,k⟩ hp
  have:=(O.own j k ((hmem _ _).mp hp)).1;simpa using this
 refine⟨{ mask,place:=(live.map ed).toArray,dummies:=#[],finger,led,moves,plain:=true },(live.map pj).toArray, ?_,rfl,rfl,hperm, ?_⟩
 ·unfold laid;rw[e];show some _=some _;rw[hlive]
 ·refine⟨(by show(live.map ed).toArray.size=((live.map pj).filterMap (hs.toList[·]?)).length;rw[hlen',au,bh,hlen]),hrise,rfl, ?_,by rw[hlen'];exact hl,g, ?_,rfl⟩
  ·intro j hj;obtain⟨⟨x,y⟩,hp,rfl⟩:=cb.mp (show j∈live.map ed from hj);have:=(hmem _ _).mp hp;obtain⟨hx',_⟩:=dh.mp this;have:=O.size;show x<=mask;omega
  ·intro i h j e1 e2;have e1':((live.map pj).filterMap (hs.toList[·]?))[i]?=some h:=e1;rw[hget]at e1';have e2':(live.map ed)[i]?=some j:=e2;rw[dv]at e2'
   cases q:live[i]? with
   |none=>rw[q]at e2';cases e2'
   |some p=>
    obtain⟨x,k⟩:=p;rw[q]at e1' e2';simp at e1' e2';subst e2';have hp:=bw q;obtain⟨a,h',b,c⟩:=O.own x k ((hmem _ _).mp hp);have hh:h'=h:=by
     have:hs.toList[k]?=some h:=by simpa using e1'
     rw[b]at this;exact cg this
    subst hh;refine c.mono' λy hy ho=>?_;obtain⟨i',ei⟩:=(uJ (by rw[O.size];omega)).mp ho;exact cb.mpr ⟨(y,i'),(hmem _ _).mpr ei,rfl⟩
end SM
namespace SR
open PySem PySem.Spec PyProof.Rows SM
section
variable{prog:bg}{w:cq}
def hk (prog:bg) (w:cq) (k:List Int):Int:=tupleKeyHash (intKind prog w) k
abbrev KB:=List (List Int×ah)
def gM (prog:bg) (w:cq) (kb:KB):List (Int×af):=kb.map λp=>(hk prog w p.1,gu p.2)
structure Parts (prog:bg) (w:cq) (h:cx) (a:ah) (kb:KB) (o:Obj) (es:Array (Int×af)) (ep:Nat) (t:gv):Prop where
 obj:h.get? a=some o
 ex:o.ExactSet
 data:o.data=.set es ep t
 es:es.toList=gM prog w kb
 tab:TOk t (kb.map λp=>hk prog w p.1)
 nd:(kb.map ed).Nodup
 nf:kb.length*5<t.mask*3
 led:t.led=!w.params.followText "set-order"
def lC (prog:bg) (w:cq) (h:cx) (a:ah) (kb:KB):Prop:=∃o es ep t,Parts prog w h a kb o es ep t
def xG (prog:bg) (w:cq) (h:cx) (kb:KB):Prop:=∀p∈kb,gg (intKind prog w) h p.1 p.2
variable{h:cx}{a:ah}{kb:KB}{o:Obj}{es:Array (Int×af)}{ep:Nat}{t:gv}
theorem Parts.size (P:Parts prog w h a kb o es ep t):es.size=kb.length:=by have:=congrArg jm P.es;simpa[gM]using this
theorem Parts.fits (P:Parts prog w h a kb o es ep t):t.fits es.size=true:=by have:=P.tab.fits;rw[bh]at this;rw[P.size];exact this
theorem Parts.at_ (P:Parts prog w h a kb o es ep t) {i:Nat}{p:List Int×ah}(e:kb[i]?=some p):es[i]?=some (hk prog w p.1,.ref p.2):=by
 have:es.toList[i]?=some (hk prog w p.1,gu p.2):=by rw[P.es];simp[gM,e]
 simpa using this
theorem Parts.hash_at (P:Parts prog w h a kb o es ep t) {i:Nat}{p:List Int×ah}(e:kb[i]?=some p):(es[i]?.map (·.1)).getD 0=hk prog w p.1:=by rw[P.at_ e];rfl
end
section
variable{prog:bg}{w:cq}{A:cn}{E:af->ag->Prop}{s:ag}{a:ah}{kb:KB}{o:Obj}{es:Array (Int×af)}{ep:Nat}{t:gv}
theorem K2 {ks:List Int}{b:ah}{Q:Bool->ag->Prop}(hb:gg (intKind prog w) s.heap ks b) (h:Q false s):wpAny (model prog w) A (ofAClassStatement 8 (.ref b)) Q E s:=by
 obtain⟨o,items,n,ho,hc,hd,hi⟩:=hb;unfold ofAClassStatement;refine aa (qh (T := "tuple") ⟨o,ho,hc⟩ ?_);show wpAny _ _ ((if(("tuple" : String) == "tuple")=true then(pure true:Sem Bool)else isSubtype (.type "tuple") (.type "tuple")) >>= _) _ _ s;rw[if_pos (by decide)];refine aa (ai ?_);simp only[om,cw,if_false];refine aa (jh ho hd ?_);refine aa ?_;show wpAny _ _ (forIn items _ _) _ _ s;rw[<-Bs];refine td _ (λrest r s'=>r.1=none/\s'=s/\∀v∈rest,carriedByValue v=true) _ ?_ ?_ _ _ ⟨rfl,rfl,hi.byValue⟩
 ·rintro v rest r s' ⟨hr,rfl,hall⟩
  have hv:=hall v ax;have e:ofAClassStatement 7 v=pure false:=by
   cases v with
   |ref a=>simp[carriedByValue]at hv
   |_=>rfl
  rw[e];refine aa (ai ?_);simp only[cw,if_false];exact ai ⟨rfl,rfl,λu hu'=>hall u (aq _ hu')⟩
 ·rintro ⟨r1,r2⟩ s' ⟨hr,rfl,_⟩
  simp only at hr;subst hr;exact ai h
theorem Y7 {k:List Int}{b:ah}{Q:Bool->ag->Prop}(hb:gg (intKind prog w) s.heap k b):∀(l:List af),(∀y∈l,∃k' b',y=.ref b'/\gg (intKind prog w) s.heap k' b')->Q false s->
  wpAny (model prog w) A (searchCouldBeSeen (.ref b) l) Q E s:=by
 intro l hl h;unfold searchCouldBeSeen;refine aa ?_;refine td _ (λrest r s'=>r.1=none/\s'=s/\∀y∈rest,∃k' b',y=.ref b'/\gg (intKind prog w) s.heap k' b') _ ?_ ?_ _ _ ⟨rfl,rfl,hl⟩
 ·rintro y rest r s' ⟨hr,rfl,hall⟩
  obtain⟨k',b',rfl,hb'⟩:=hall y ax;have fin:r.1=none/\s'=s'/\∀y∈rest,∃k' b',y=.ref b'/\gg (intKind prog w) s'.heap k' b':=⟨hr,rfl,λu hu=>hall u (aq _ hu)⟩
  dsimp only
  split
  ·exact ai ⟨rfl,rfl,fin.2.2⟩
  ·refine aa (wpAny_eqIsQuiet_tuple hb ?_);simp only[om,cw,if_false];refine aa (wpAny_eqIsQuiet_tuple hb' ?_);simp only[om,cw,if_false];refine aa (K2 hb ?_);simp only[cw,if_false];refine aa (K2 hb' ?_);simp only[cw,if_false];exact ai ⟨rfl,rfl,fin.2.2⟩
 ·rintro ⟨r1,r2⟩ s' ⟨hr,rfl,_⟩
  simp only at hr;subst hr;exact ai h
end
section
variable{prog:bg}{w:cq}{A:cn}{E:af->ag->Prop}{s:ag}{a:ah}{kb:KB}{o:Obj}{es:Array (Int×af)}{ep:Nat}{t:gv}{k:List Int}{b:ah}
theorem mem_keys {kb:KB}{k:List Int}:k∈kb.map ed↔∃(i:Nat) (b:ah),kb[i]?=some (k,b):=by
 constructor
 ·intro h;obtain⟨⟨k',b⟩,hp,rfl⟩:=cb.mp h;obtain⟨i,hi,e⟩:=jx hp;exact⟨i,b,by rw[bc hi,e]⟩
 ·rintro ⟨i,b,e⟩
  exact cb.mpr ⟨(k,b),bw e,rfl⟩
theorem Y8 (P:Parts prog w s.heap a kb o es ep t) (T:xG prog w s.heap kb) (hb:gg (intKind prog w) s.heap k b) (hu:A.units<cLine) {Q:SetFound->ag->Prop}
  (hin:k∈kb.map ed->Q (.there none) s)
  (hout:k∉kb.map ed->∀n,pr t.mask (hk prog w k) n∉t.place.toList->(∀m,m<n->pr t.mask (hk prog w k) m∈t.place.toList)->Q (.free (pr t.mask (hk prog w k) n) false) s)
  (N:Nat) (hN:N<10*sd t.mask) (hNe:pr t.mask (hk prog w k) N∉t.place.toList):
  ∀(fuel n:Nat) (stand:Option SetTable.Probe),stand.getD (t.probeStart (hk prog w k))=cV t.mask (hk prog w k) n->n<=N->N - n<fuel->
   (∀l,l<n->pr t.mask (hk prog w k) l∈t.place.toList/\∀(i:Nat) p,t.place.toList[i]?=some (pr t.mask (hk prog w k) l)->kb[i]?=some p->p.1≠k)->
   wpAny (model prog w) A (setSearchFrom a (.ref b) (hk prog w k) true fuel stand) Q E s:=by
 intro fuel
 induction fuel with
 |zero=>intro n stand _ _ h2;omega
 |succ f ih=>
  intro n stand hst h1 h2 hseen;have hlen:t.place.toList.length=kb.length:=by have:=P.tab.size;simpa using this
  have kbat:∀{i j:Nat},t.place.toList[i]?=some j->∃p,kb[i]?=some p:=λ{i j} e=>by obtain⟨hi,_⟩:=ba.mp e;exact⟨kb[i]'(by omega),bc (by omega)⟩
  unfold setSearchFrom;refine aa (jk P.obj P.data P.fits ?_);dsimp only;rw[P.tab.gave];simp only[cw,if_false];obtain⟨m,a1,a2,a3,a4⟩:=Y0 P.tab (λi=>(es[i]?.map (·.1)).getD 0) (hk prog w k) (10*sd t.mask) n N h1 (by omega) hNe;have pass:∀l,l<m->pr t.mask (hk prog w k) l∈t.place.toList/\∀(i:Nat) p,t.place.toList[i]?=some (pr t.mask (hk prog w k) l)->kb[i]?=some p->p.1≠k:=by
   intro l hl
   rcases iz l n with q|q
   ·exact hseen l q
   ·obtain⟨b1,b2⟩:=a3 l q hl;refine⟨b1,λi p e1 e2 e3=>b2 i e1 ?_⟩;show(es[i]?.map (·.1)).getD 0=_;rw[P.hash_at e2,e3]
  rcases a4 with⟨b1,b2⟩|⟨i,b1,b2,b3⟩
  ·have e:∀g:Nat->Int,g=(λi=>(es[i]?.map (·.1)).getD 0)->t.probe g (hk prog w k) (stand.getD (t.probeStart (hk prog w k)))=some (.empty (pr t.mask (hk prog w k) m) none):=by rintro g rfl;rw[hst];exact b2
   rw[e]
   rotate_left
   ·rfl
   refine ai (hout ?_ m b1 λl hl=>(pass l hl).1);intro hmem;obtain⟨i,b',ei⟩:=mem_keys.mp hmem;obtain⟨j,ej⟩:∃j,t.place.toList[i]?=some j:=by obtain⟨hi,_⟩:=ba.mp ei;exact⟨_,bc (by omega)⟩
   obtain⟨n',hn',e'⟩:=P.tab.before (i:=i) (h:=hk prog w k) (by rw[dv,ei];rfl) ej b1;exact(pass n' hn').2 i (k,b') (by rw[e'];exact ej) ei rfl
  ·have e:∀g:Nat->Int,g=(λi=>(es[i]?.map (·.1)).getD 0)->t.probe g (hk prog w k) (stand.getD (t.probeStart (hk prog w k)))=some (.candidate (pr t.mask (hk prog w k) m) i (cV t.mask (hk prog w k) (m+1))):=by rintro g rfl;rw[hst];exact b3
   rw[e]
   rotate_left
   ·rfl
   dsimp only;obtain⟨p,ep'⟩:=kbat b1;have hp:=T p (bw ep');have es1:t.sameMemory t.moves t.mask=some true:=by unfold SetTable.sameMemory;simp
   obtain⟨i2,e2,e3⟩:=P.tab.slot_live (bw b1);have hi2:i2=i:=CD P.tab.rise e3 b1;subst hi2;have nxt:¬ p.1=k->wpAny (model prog w) A (setSearchFrom a (.ref b) (hk prog w k) true f (some (cV t.mask (hk prog w k) (m+1)))) Q E s:=by
    intro hpk;have hmN:m≠N:=by rintro rfl;exact hNe (bw b1)
    refine ih (m+1) _ rfl (by omega) (by omega) ?_
    ·intro l hl
     rcases iz l m with q|q
     ·exact pass l q
     ·have:l=m:=by omega
      subst this;refine⟨bw b1,λi' p' z1 z2=>?_⟩;have:i'=i2:=CD P.tab.rise z1 b1;subst this;rw[ep']at z2;cases z2;exact hpk
   cases hl:t.led
   case' true=>simp only[om,cw,if_false]
   case' false=>
    simp only[yg,if_true];refine aa (Y7 hb _ ?_ ?_)
    ·intro y hy;obtain⟨e1,he1,rfl⟩:=cb.mp hy;have he2:=(Array.mem_filter.mp (Bc.mp he1)).1;have he3:e1∈gM prog w kb:=by rw[<-P.es];exact Bc.mpr he2
     obtain⟨q,hq,rfl⟩:=cb.mp he3;exact⟨q.1,q.2,rfl,T q hq⟩
    simp only[cw,if_false]
   all_goals
    rw[P.at_ ep'];dsimp only;refine aa (ib (wpAny_eqBool_tuple hu hp hb ?_));refine aa (jk P.obj P.data P.fits ?_);dsimp only
    by_cases hpk:p.1=k
    ·rw[decide_eq_true hpk];simp only[uh,if_true];exact ai (hin (mem_keys.mpr ⟨i2,p.2,by rw[ep',<-hpk]⟩))
    ·rw[decide_eq_false hpk];simp only[pg,cw,if_false];rw[es1];dsimp only;simp only[if_true];rw[e2];dsimp only;rw[P.at_ ep'];dsimp only;refine aa (wpAny_isSame_ref_self ?_);refine aa (ai ?_);simp only[if_true];exact nxt hpk
theorem Y9 (P:Parts prog w s.heap a kb o es ep t) (T:xG prog w s.heap kb) (hb:gg (intKind prog w) s.heap k b) (hu:A.units<cLine) {Q:SetFound->ag->Prop}
  (hin:k∈kb.map ed->Q (.there none) s)
  (hout:k∉kb.map ed->∀n,pr t.mask (hk prog w k) n∉t.place.toList->(∀m,m<n->pr t.mask (hk prog w k) m∈t.place.toList)->Q (.free (pr t.mask (hk prog w k) n) false) s):
  wpAny (model prog w) A (setSearch a (.ref b) (hk prog w k) true) Q E s:=by
 obtain⟨N,hN,hNe⟩:=P.tab.stops (hk prog w k);have hm:10*sd t.mask<=1420:=by
  unfold sd
  rcases P.tab.msk with e|e|e <;> rw[e] <;> decide
 exact Y8 P T hb hu hin hout N hN hNe 100000 0 none rfl (jc _) (by omega) λl hl=>absurd hl (by omega)
theorem ZA {Q:Bool->ag->Prop}(hb:gg (intKind prog w) s.heap k b) (h:Q true s):wpAny (model prog w) A (hashByValue 8 (.ref b)) Q E s:=by
 have hT:=hb.typeIs;obtain⟨o,items,n,ho,hc,hd,hi⟩:=hb;unfold hashByValue;refine aa (wpAny_specialOf hT F.slot_tuple_hash.lookup ?_);dsimp only;refine aa (jh ho hd ?_);refine aa ?_;show wpAny _ _ (forIn items _ _) _ _ s;rw[<-Bs];have hv:∀v∈items.toList,∃i t,v=.int i t:=by
  clear hd ho
  generalize items.toList=l at hi
  induction hi with
  |nil=>intro v h;cases h
  |cons h1 _ ih=>
   intro v hv
   rcases ay.mp hv with rfl|hv
   ·obtain⟨t,e⟩:=ly h1;exact⟨_,t,e⟩
   ·exact ih v hv
 refine td _ (λrest r s'=>r.1=none/\s'=s/\∀v∈rest,∃i t,v=.int i t) _ ?_ ?_ _ _ ⟨rfl,rfl,hv⟩
 ·rintro v rest r s' ⟨hr,rfl,hall⟩
  obtain⟨i,t,rfl⟩:=hall v ax;refine aa (ai ?_);simp only[om,cw,if_false];exact ai ⟨rfl,rfl,λu hu'=>hall u (aq _ hu')⟩
 ·rintro ⟨r1,r2⟩ s' ⟨hr,rfl,_⟩
  simp only at hr;subst hr;exact ai h
end
section
variable{prog:bg}{w:cq}{A:cn}{E:af->ag->Prop}{s:ag}{a:ah}{kb:KB}{o:Obj}{es:Array (Int×af)}{ep:Nat}{t:gv}{k:List Int}{b:ah}
theorem ZC (p:Nat):(gM prog w kb).take p++(hk prog w k,gu b)::(gM prog w kb).drop p=gM prog w (kb.take p++(k,b)::kb.drop p):=by simp[gM,ui,qt]
theorem ZD (p:Nat):(kb.map λq=>hk prog w q.1).take p++hk prog w k::(kb.map λq=>hk prog w q.1).drop p=(kb.take p++(k,b)::kb.drop p).map λq=>hk prog w q.1:=by simp[ui,qt]
theorem xH {α:Type}(l:List α) (x:α) (p:Nat):(l.take p++x::l.drop p).Perm (x::l):=by have h:(l.take p++x::l.drop p).Perm (x::(l.take p++l.drop p)):=List.perm_middle;rwa [Bb]at h
theorem CG {p:Nat}(h:(kb.map ed).Nodup) (hk:k∉kb.map ed):((kb.take p++(k,b)::kb.drop p).map ed).Nodup:=by have q:=(xH kb (k,b) p).map ed;exact q.nodup_iff.mpr (js.mpr ⟨hk,h⟩)
theorem K4 {es':Array (Int×af)}{t':gv}(hd:o.data=.set es ep t) (ho:s.heap.get? a=some o):(s.heap.update a (Obj.putSet es' t')).get? a=some { o with data:=.set es' (ep+1) t' }:=by have:=nj (Obj.putSet es' t') ho (by rw[putSet_of es' t' hd];rfl);rw[putSet_of es' t' hd]at this;exact this
theorem K5 {α:Type}:∀(l:List α),(bo l.length).filterMap (λi=>l[i]?)=l
 | []=>rfl
 |x::l=>by
  rw[cp,Al,cj];simp only[List.getElem?_cons_zero,List.filterMap_map]
  congr 1
  exact K5 l
theorem K6 {kb:KB}{mask' wanted:Nat}{Q:Unit->ag->Prop}(ho:s.heap.get? a=some o) (hex:o.ExactSet) (hd:o.data=.set es ep t) (hes:es.toList=gM prog w kb) (hT:TOk t (kb.map λp=>hk prog w p.1)) (nd:(kb.map ed).Nodup) (hled:t.led=!w.params.followText "set-order")
  (hw:Ao wanted - 1=mask') (hg:lX mask') (hl:kb.length*5<mask'*3) (hz:Ao wanted<=bp)
  (h:∀h' kb',ij a s.heap h'->lC prog w h' a kb'->kb'.Perm kb->Q () { s with heap:=h' }):
  wpAny (model prog w) A (setRelay a wanted) Q E s:=by
 have hsz:es.size=kb.length:=by have:=congrArg jm hes;simpa[gM]using this
 have hfit:t.fits es.size=true:=by have:=hT.fits;rw[bh]at this;rw[hsz];exact this
 have eh:(es.map (·.1)).toList=kb.map λp=>hk prog w p.1:=by rw[Array.toList_map,hes];simp[gM]
 have hs':(es.map (·.1)).size=kb.length:=by simp[hsz]
 unfold setRelay;refine aa (jk ho hd hfit ?_);dsimp only;rw[if_neg (by omega)];obtain⟨t',order,e1,e2,e3,e4,e5⟩:=Y6 (mask:=mask') (finger:=t.finger) (moves:=t.movedTo mask') (led:=t.led) (hs:=es.map (·.1)) hg (by rw[hs'];omega);have er:t.relaid (es.map (·.1)) wanted=some (t',order):=by unfold SetTable.relaid;rw[hw,hT.plain];exact e1
 rw[er];have hlt:∀i∈order.toList,i<kb.length:=λi hi=>by have:=bx.mp (e4.mem_iff.mp hi);omega
 have hfm:∀(l:List Nat),(∀i∈l,i<kb.length)->l.filterMap (λi=>es[i]?)=gM prog w (l.filterMap λi=>kb[i]?):=by
  intro l hl
  induction l with
  |nil=>rfl
  |cons i l ih=>
   have hi:=hl i ax;have q1:kb[i]?=some kb[i]:=bc hi;have q2:es[i]?=some (hk prog w kb[i].1,gu kb[i].2):=by
    have:es.toList[i]?=some (hk prog w kb[i].1,gu kb[i].2):=by rw[hes];simp[gM,q1]
    simpa using this
   rw[cj,cj,q1,q2];simp only;rw[ih λj hj=>hl j (aq _ hj)];rfl
 have hkey:∀(l:List Nat),(∀i∈l,i<kb.length)->l.filterMap (λi=>(es.map (·.1)).toList[i]?)=(l.filterMap λi=>kb[i]?).map λp=>hk prog w p.1:=by
  intro l hl
  induction l with
  |nil=>rfl
  |cons i l ih=>
   have hi:=hl i ax;have q1:kb[i]?=some kb[i]:=bc hi;have q2:(es.map (·.1)).toList[i]?=some (hk prog w kb[i].1):=by rw[eh];simp[q1]
   rw[cj,cj,q1,q2];simp only;rw[ih λj hj=>hl j (aq _ hj)];rfl
 have hperm:(order.toList.filterMap λi=>kb[i]?).Perm kb:=by have q:=e4.filterMap (λi=>kb[i]?);rw[hs']at q;exact q.trans (List.Perm.of_eq (K5 kb))
 have hes2:(order.filterMap (es[·]?)).toList=gM prog w (order.toList.filterMap λi=>kb[i]?):=by rw[Array.toList_filterMap];exact hfm _ hlt
 have hsz2:(order.filterMap (es[·]?)).size=es.size:=by have:=congrArg jm hes2;rw[kv]at this;rw[this,hsz];simp[gM,hperm.length_eq]
 show wpAny _ _ ((if((order.filterMap (es[·]?)).size != es.size)=true then(unsupported "internal:set-table-lost-an-element" >>= λ_=>pure (order.filterMap (es[·]?),t'))else pure (order.filterMap (es[·]?),t')) >>= _) _ _ s;rw[if_neg (by rw[hsz2];simp)];refine aa (ai ?_);dsimp only;refine wpAny_storeSet_of ho hd ?_ (by rw[hsz2,hsz];rcases hg with q|q|q <;> (rw[q]at hl;rw[jq];omega));refine h _ (order.toList.filterMap λi=>kb[i]?) (nc ..) ⟨_,_,_,t',K4 hd ho,hex,rfl,hes2, ?_, ?_, ?_,e3.trans hled⟩ hperm
 ·rw[<-hkey _ hlt];exact e5
 ·exact(hperm.map ed).nodup_iff.mpr nd
 ·rw[hperm.length_eq,e2];exact hl
theorem ZE (P:Parts prog w s.heap a kb o es ep t) (T:xG prog w s.heap kb) (hb:gg (intKind prog w) s.heap k b) (hu:A.units<cLine) (h76:k∉kb.map ed->kb.length+1<=76) {Q:Bool->ag->Prop}
  (h:∀h' kb' r,ij a s.heap h'->lC prog w h' a kb'->(k∈kb.map ed->kb'.Perm kb)->(k∉kb.map ed->kb'.Perm ((k,b)::kb))->Q r { s with heap:=h' }):
  wpAny (model prog w) A (setAddHashed a (.ref b) (hk prog w k)) Q E s:=by
 unfold setAddHashed;refine ib ?_;unfold setAddHashedIn;refine aa (jk P.obj P.data P.fits ?_);dsimp only;have hbs:byScan (.ref b) es=false:=by simp[byScan,Value.scannable]
 rw[hbs];simp only[cw,if_false];refine aa (Y9 P T hb hu (λhin=>?_) λhout n hn hw=>?_)
 ·dsimp only;refine ai ?_;have:=h s.heap kb false (zo ..) ⟨o,es,ep,t,P⟩ (λ_=>.refl _) λq=>absurd hin q;exact this
 ·dsimp only;refine aa (jk P.obj P.data P.fits ?_);dsimp only;rw[Y1 P.tab.nod];dsimp only;rw[if_pos P.tab.plain];refine aa (ZA hb ?_);simp only[if_true];have hlen:=P.nf;have hmask:=P.tab.msk;have hroom:(kb.map λp=>hk prog w p.1).length+1<=t.mask:=by
   rw[bh]
   rcases hmask with q|q|q <;> (rw[q]at hlen ⊢;omega)
  have T2:=P.tab.put (h:=hk prog w k) (n:=n) hn hw hroom;have hbl:=(uG (j:=pr t.mask (hk prog w k) n) P.tab.rise).2.2;generalize hp:sf t.place (pr t.mask (hk prog w k) n)=p at T2 hbl ⊢;rw[ZD (b:=b)]at T2;have hesl:(ja es p (hk prog w k,gu b)).toList=gM prog w (kb.take p++(k,b)::kb.drop p):=by rw[uH _ _ _ (by rw[P.size,<-show t.place.size=kb.length from by have:=P.tab.size;simpa using this];exact hbl),P.es,ZC]
  have hsz:(ja es p (hk prog w k,gu b)).size=kb.length+1:=by have:=congrArg jm hesl;simp only[gM,bh,kv]at this;rw[this,(xH kb (k,b) p).length_eq];rfl
  refine aa (wpAny_storeSet_of P.obj P.data ?_ (by rw[hsz,jq];have:=h76 hout;omega));have hlen2:(kb.take p++(k,b)::kb.drop p).length=kb.length+1:=(xH kb (k,b) p).length_eq;have ho2:=K4 (s:=s) (es':=ja es p (hk prog w k,gu b)) (t':={ t with place:=ja t.place p (pr t.mask (hk prog w k) n) }) P.data P.obj;have fill:({ t with place:=ja t.place p (pr t.mask (hk prog w k) n) }:gv).tooFull=decide ((kb.length+1)*5>=t.mask*3):=by unfold SetTable.tooFull SetTable.fill;have e1:=T2.size;rw[bh,hlen2]at e1;have e1':(ja t.place p (pr t.mask (hk prog w k) n)).size=kb.length+1:=e1;dsimp only;rw[P.tab.nod,e1'];rfl
  simp only[yg,uh];rw[fill];have fin:∀h' kb',ij a (s.heap.update a (Obj.putSet (ja es p (hk prog w k,gu b)) { t with place:=ja t.place p (pr t.mask (hk prog w k) n) })) h'->lC prog w h' a kb'->
    kb'.Perm (kb.take p++(k,b)::kb.drop p)->Q true { s with heap:=h' }:=λh' kb' sb st pm=>
   h h' kb' true ((nc ..).trans sb) st (λq=>absurd q hout) λ_=>pm.trans (xH kb (k,b) p)
  by_cases full:(kb.length+1)*5>=t.mask*3
  ·rw[decide_eq_true full,if_pos rfl];have h76':=h76 hout;have hcase:(t.mask=7/\kb.length=4)∨(t.mask=31/\kb.length=18):=by
    rcases hmask with q|q|q
    ·left;rw[q]at hlen full;exact⟨q,by omega⟩
    ·right;rw[q]at hlen full;exact⟨q,by omega⟩
    ·rw[q]at full;omega
   have es0:es.size=kb.length:=P.size
   rcases hcase with⟨q1,q2⟩|⟨q1,q2⟩
   ·refine aa (K6 (mask':=31) (kb:=kb.take p++(k,b)::kb.drop p) ho2 P.ex rfl hesl T2 (CG P.nd hout) P.led (by rw[es0,q2];decide) (.inr (.inl rfl)) (by rw[hlen2,q2];decide) (by rw[es0,q2,jq];decide) λh' kb' sb st pm=>ai (fin h' kb' sb st pm))
   ·refine aa (K6 (mask':=127) (kb:=kb.take p++(k,b)::kb.drop p) ho2 P.ex rfl hesl T2 (CG P.nd hout) P.led (by rw[es0,q2];decide) (.inr (.inr rfl)) (by rw[hlen2,q2];decide) (by rw[es0,q2,jq];decide) λh' kb' sb st pm=>ai (fin h' kb' sb st pm))
  ·rw[decide_eq_false full,if_neg ik];refine ai (fin _ _ (zo ..) ⟨_,_,_,_,ho2,P.ex,rfl,hesl,T2,CG P.nd hout, ?_,P.led⟩ (.refl _));rw[hlen2];exact Nat.lt_of_not_le full
end
theorem Parts.keep {prog:bg}{w:cq}{h h':cx}{a:ah}{kb:KB}(S:lC prog w h a kb) (k:∀o,h.get? a=some o->h'.get? a=some o):lC prog w h' a kb:=by obtain⟨o,es,ep,t,P⟩:=S;exact⟨o,es,ep,t,k o P.obj,P.ex,P.data,P.es,P.tab,P.nd,P.nf,P.led⟩
theorem xI {prog:bg}{w:cq}{h h':cx}{ks:List Int}{a:ah}(x:gg (intKind prog w) h ks a) (k:∀o,h.get? a=some o->h'.get? a=some o):gg (intKind prog w) h' ks a:=by obtain⟨o,items,n,ho,r⟩:=x;exact⟨o,items,n,k o ho,r⟩
section
variable{prog:bg}{w:cq}{A:cn}{R:yk->ag->Prop}{I:ah}{fp wr:List ah}{n:Nat}{P:Nat->af->Prop}{St:Nat->cx->Prop}
structure Upto (ky:Nat->List Int) (ad:Nat->ah) (i:Nat) (kb:KB):Prop where
 from_:∀p∈kb,∃j,j<i/\p=(ky j,ad j)
 all:∀j,j<i->ky j∈kb.map ed
theorem ZF (W:Walks prog w A.in1 I fp wr n P St) (S:ah) (hSf:S∉fp) (ad:Nat->ah) (ky:Nat->List Int) (hval:∀i v,P i v->v=.ref (ad i)) (hu:A.units+2<cLine)
  (U:List (List Int)) (hU:U.length<=76) (hky:∀i,i<n->ky i∈U) (hS:∀i,i<n->ad i≠S/\ad i∉wr):
  ∀(m i:Nat) (s:ag) (kb:KB),n - i=m->i<=n->St i s.heap->lC prog w s.heap S kb->Upto ky ad i kb->(∀j,j<n->gg (intKind prog w) s.heap (ky j) (ad j))->
   (∀h' tk kb',(∀b o,b∉S::wr->s.heap.get? b=some o->h'.get? b=some o)->lC prog w h' S kb'->Upto ky ad n kb'->R (.ok (.ret .none)) { s with heap:=h',toks:=tk })->
   codeAny (model prog w) A (.builtin "set.update.loop" ⟨[.ref S,.ref I],[]⟩) R s:=by
 have hSw:S∉wr:=λh=>hSf (W.sub _ h);intro m
 induction m with
 |zero=>
  intro i s kb hk hi hst hT hup hkeys hR;have hin:i=n:=by omega
  subst hin;refine qd F.entry_set_update_loop ?_;rw[nr F.plain_set_update_loop _];show wpAny _ A.in1 (pyNext (.ref I) >>= _) _ _ s;refine aa (W.done s _ _ hst λh' tk hm=>?_);exact ai (hR h' tk kb (λb o hb e=>hm b o (λz=>hb (aq _ z)) e) (Parts.keep hT λo e=>hm S o hSw e) hup)
 |succ m ih=>
  intro i s kb hk hi hst hT hup hkeys hR;have hlt:i<n:=by omega
  refine qd F.entry_set_update_loop ?_;rw[nr F.plain_set_update_loop _];show wpAny _ A.in1 (pyNext (.ref I) >>= _) _ _ s;refine aa (W.item i s _ _ hlt hst λv h' tk hP hst' hm=>?_);have ev:=hval i v hP;subst ev;have hT':lC prog w h' S kb:=Parts.keep hT λo e=>hm S o hSw e;have hkeys':∀j,j<n->gg (intKind prog w) h' (ky j) (ad j):=λj hj=>xI (hkeys j hj) λo e=>hm _ o (hS j hj).2 e;show wpAny _ A.in1 (holding [gu (ad i)] (setAdd S (.ref (ad i))) >>= _) _ _ _;refine aa (ib ?_);unfold setAdd;refine ib ?_;refine aa (wpAny_pyHash_tuple (s:={ s with heap:=h',toks:=tk }) (show A.in1.units<cLine by show A.units+1<cLine;omega) (hkeys' i hlt) ?_);obtain⟨o,es,ep,t,Pt⟩:=hT';have tups:xG prog w h' kb:=λp hp=>by obtain⟨j,hj,rfl⟩:=hup.from_ p hp;exact hkeys' j (by omega)
  have hsub:∀x∈kb.map ed,x∈U:=λx hx=>by obtain⟨p,hp,rfl⟩:=cb.mp hx;obtain⟨j,hj,rfl⟩:=hup.from_ p hp;exact hky j (by omega)
  refine ZE (s:={ s with heap:=h',toks:=tk+((ky i).length+1) }) (a:=S) (k:=ky i) (b:=ad i) Pt tups (hkeys' i hlt) (by show A.units+1<cLine;omega) (λhout=>?_) λh2 kb2 r sb hT2 q1 q2=>?_
  ·have nd:(ky i::kb.map ed).Nodup:=js.mpr ⟨hout,Pt.nd⟩;have:=nd.length_le_of_subset (l₂:=U) λx hx=>by
    rcases ay.mp hx with rfl|hx
    ·exact hky i hlt
    ·exact hsub x hx
   simp at this;omega
  ·have hup2:Upto ky ad (i+1) kb2:=by
    by_cases hin:ky i∈kb.map ed
    ·have pm:=q1 hin;refine⟨λp hp=>?_,λj hj=>?_⟩
     ·obtain⟨j,hj,e⟩:=hup.from_ p (pm.mem_iff.mp hp);exact⟨j,by omega,e⟩
     ·rw[(pm.map ed).mem_iff]
      rcases iz j i with z|z
      ·exact hup.all j z
      ·have:j=i:=by omega
       subst this;exact hin
    ·have pm:=q2 hin;refine⟨λp hp=>?_,λj hj=>?_⟩
     ·rcases ay.mp (pm.mem_iff.mp hp)with z|z
      ·exact⟨i,by omega,z⟩
      ·obtain⟨j,hj,e⟩:=hup.from_ p z;exact⟨j,by omega,e⟩
     ·rw[(pm.map ed).mem_iff,cy,ay]
      rcases iz j i with z|z
      ·exact .inr (hup.all j z)
      ·have:j=i:=by omega
       subst this;exact .inl rfl
   refine ai ⟨plainId_quiet F.plain_set_update_loop _,ih (i+1) _ kb2 (by omega) hlt (W.frame _ _ _ hst' λb hb o e=>?_) hT2 hup2 (λj hj=>?_) λh3 tk3 kb3 k3 hT3 hup3=>?_⟩
   ·rw[sb.2 b (λz:b=S=>hSf (by rw[<-z];exact hb))];exact e
   ·exact xI (hkeys' j hj) λo e=>(sb.2 _ (hS j hj).1).trans e
   ·refine hR h3 tk3 kb3 (λb o hb e=>k3 b o hb ?_) hT3 hup3;exact(sb.2 b λz=>hb (by rw[z];exact ax)).trans (hm b o (λz=>hb (aq _ z)) e)
end
theorem walk_slots:Slot "set" "__iter__" "set.__iter__"/\Slot "set_iterator" "__next__" "set_iterator.__next__"/\Slot "set_iterator" "__iter__" "set_iterator.__iter__"/\Slot "set" "__len__" "set.__len__":=by
 refine⟨Slot.of (owner := "set") (n := "__iter__") ?_ ?_ ?_ ?_ ?_ ?_,Slot.of (owner := "set_iterator") (n := "__next__") ?_ ?_ ?_ ?_ ?_ ?_,Slot.of (owner := "set_iterator") (n := "__iter__") ?_ ?_ ?_ ?_ ?_ ?_,Slot.of (owner := "set") (n := "__len__") ?_ ?_ ?_ ?_ ?_ ?_⟩
 all_goals first
  |decide +kernel
  |(rw[typeLookup_type,builtinLookup_eq_fast];kernel_rfl)
  |(rw[isSubtype_type];kernel_rfl)
  |(left;decide +kernel)
  |(right;decide +kernel)
theorem xJ (a:af):argsOk "set.__iter__" ⟨[a],[]⟩/\argsOk "set_iterator.__next__" ⟨[a],[]⟩/\argsOk "set_iterator.__iter__" ⟨[a],[]⟩:=by refine⟨?_, ?_, ?_⟩ <;> unfold argsOk <;> kernel_rfl
theorem K7:entryFor table "set_iterator.__next__" = some mq.«set_iterator.__next__»:=entryFor_of_fast (by kernel_rfl)
theorem ZG:entryFor table "set.__iter__" = some mq.«frozenset.__iter__»:=entryFor_alias (id' := "frozenset.__iter__") (by kernel_rfl) rfl (by decide +kernel) (by kernel_rfl)
theorem ZH:entryFor table "set_iterator.__iter__" = some mq.«dict_keyiterator.__iter__»:=entryFor_alias (id' := "dict_keyiterator.__iter__") (by kernel_rfl) rfl (by decide +kernel) (by kernel_rfl)
theorem erase_perm {α:Type}:∀(l:List α) (i:Nat) (h:i<l.length),(l[i]::l.eraseIdx i).Perm l
 | [],_,h=>absurd h (by simp)
 |x::r,0,_=>.refl _
 |x::r,i+1,h=>by have ih:=erase_perm r i (by simpa using h);show((r[i]'(by simpa using h))::x::r.eraseIdx i).Perm (x::r);exact(List.Perm.swap _ _ _).trans (ih.cons x)
theorem K8 {α:Type}(next:Nat->Nat):∀(fuel k:Nat) (l:List α) (out:Array α),l.length<=fuel->(xb next fuel k l out).toList.Perm (out.toList++l)
 |0,k,l,out,h=>by have:l=[]:=Ai.mp (by omega);subst this;rw[xb];simp
 |fuel+1,k,l,out,h=>by
  rw[xb]
  cases l with
  |nil=>simp
  |cons x r=>have hlt:next k % (x::r).length<(x::r).length:=Nat.mod_lt _ (by simp);rw[bc hlt];dsimp only;refine(K8 next fuel (k+1) _ _ (by rw[yh hlt];omega)).trans ?_;rw[Array.toList_push,ux];refine yi _ ?_;exact erase_perm _ _ hlt
theorem ZI {α:Type}(next:Nat->Nat) (xs:Array α):(pickOrder next xs).toList.Perm xs.toList:=by unfold pickOrder;have:=K8 next xs.size 0 xs.toList #[] (by simp);simpa using this
section
variable{prog:bg}{w:cq}
def iM (w:cq) (a:ah) (ep:Nat) (es:Array (Int×af)):Array (Int×af):=if w.params.followText "set-order" then pickOrder (w.params.setOrder a ep) es else es
theorem K9 (w:cq) (a:ah) (ep:Nat) (es:Array (Int×af)):(iM w a ep es).toList.Perm es.toList:=by
 unfold iM
 split
 ·exact ZI _ _
 ·exact .refl _
theorem xK (w:cq) (a:ah) (ep:Nat) (es:Array (Int×af)):(iM w a ep es).size=es.size:=by simpa using(K9 w a ep es).length_eq
def gN (w:cq) (t:gv) (i:Nat):Nat:=if w.params.followText "set-order" then 0 else match i with|0=>0|j+1=>t.place.getD j 0+1
def kB (a:ah) (slot i n ep:Nat):Obj:={ cls:=.type "set_iterator",data:=.fields #[rawInt slot,rawInt i,.ref a,rawInt n,rawInt ep] }
theorem ZJ {t:gv}{hs:List Int}(T:TOk t hs) (hb:w.params.followText "set-order" = false) {i:Nat}(hi:i<=t.place.size):sf t.place (gN w t i)=i:=by
 obtain⟨h1,h2,h3⟩:=uG (j:=gN w t i) T.rise;have mono:∀a b (ha:a<t.place.size) (hb:b<t.place.size),a<b->t.place[a]<t.place[b]:=by intro a b ha hb hab;have:=gn.mp T.rise a b (by simpa using ha) (by simpa using hb) hab;simpa using this
 unfold gN at h1 h2 h3 ⊢;rw[hb]at h1 h2 h3 ⊢;simp only[cw,if_false]at h1 h2 h3 ⊢
 cases i with
 |zero=>
  dsimp only at h1 h2 h3 ⊢;generalize sf t.place 0=r at h1 h2 h3 ⊢
  cases r with
  |zero=>rfl
  |succ r=>have:=h1 r (by omega) (by omega);omega
 |succ j=>
  dsimp only at h1 h2 h3 ⊢;have hj:j<t.place.size:=by omega
  have ej:t.place.getD j 0=t.place[j]:=by simp[jz,hj]
  rw[ej]at h1 h2 h3 ⊢;generalize sf t.place (t.place[j]+1)=r at h1 h2 h3 ⊢
  rcases Nat.lt_trichotomy r (j+1)with q|q|q
  ·have:=h2 j hj (by omega);omega
  ·exact q
  ·have:=h1 (j+1) (by omega) q;have:=mono j (j+1) hj (by omega) (by omega);omega
end
section
variable{prog:bg}{w:cq}{A:cn}{E:af->ag->Prop}{s:ag}{a it:ah}{kb:KB}{o:Obj}{es:Array (Int×af)}{ep:Nat}{t:gv}
theorem ZK {Q:Bool->ag->Prop}(P:Parts prog w s.heap a kb o es ep t) (h:Q false s):wpAny (model prog w) A (setDrawn a) Q E s:=by
 unfold setDrawn setsByText;refine aa (jk P.obj P.data P.fits ?_);dsimp only;refine aa (aa (ll (ai ?_)));have e:(!(w.params.followText "set-order")&&((!t.plain)&&decide (es.size>1)))=false:=by rw[P.tab.plain];simp
 show wpAny _ _ (pure (!(w.params.followText "set-order")&&((!t.plain)&&decide (es.size>1)))) _ _ s;rw[e];exact ai h
theorem ZL {Q:af->ag->Prop}(P:Parts prog w s.heap a kb o es ep t) (h:Q (.ref s.heap.objs.size) { s with heap:=s.heap.push (kB a 0 0 es.size ep) }):
  wpAny (model prog w) A (pyIter (.ref a)) Q E s:=by
 have hT:s.TypeIs (.ref a) "set" := ⟨o,P.obj,P.ex.1⟩;refine wpAny_pyIter_slot hT walk_slots.1 (gr walk_slots.1 hT ZG ?_ (xJ _).1);unfold mq.«frozenset.__iter__» Builtin.Frozenset.slot0;refine aa (m:=(do Builtin.Frozenset.addrOf (<-slotArgs "__iter__" 0 ⟨[.ref a],[]⟩).1:Sem ah)) (ai ?_);unfold Builtin.Frozenset.sizeOf;refine aa (aa (vh P.obj P.data P.fits (ai ?_)));refine aa (ZK P ?_);simp only[cw,if_false];refine aa (ai ?_);refine aa (wpAny_setEpoch_of P.obj P.data P.fits ?_);refine aa (fj ?_ (by size_fits));refine ai ⟨_,rfl,"set_iterator",_,⟨_,az _ rfl,rfl⟩,walk_slots.2.1.lookup,h⟩
end
section
variable{prog:bg}{w:cq}{A:cn}{E:af->ag->Prop}{s:ag}{a it:ah}{kb:KB}{o:Obj}{es:Array (Int×af)}{ep:Nat}{t:gv}
theorem LA {i:Nat}{Q:Option (af×Nat)->ag->Prop}(P:Parts prog w s.heap a kb o es ep t) (hi:i<=es.size)
  (h:Q (((iM w a ep es)[i]?).map λe=>(e.2,gN w t (i+1))) s):wpAny (model prog w) A (setNext a (gN w t i) i ep) Q E s:=by
 unfold setNext setsByText;refine aa (jk P.obj P.data P.fits ?_);dsimp only;refine aa (aa (ll (ai ?_)));have hps:t.place.size=es.size:=by have:=P.tab.size;rw[P.size];simpa using this
 show wpAny _ _ (if w.params.followText "set-order" = true then _ else _) _ _ s
 by_cases hb:w.params.followText "set-order" = true
 ·rw[if_pos hb,if_neg (by simp)];refine aa ?_;unfold setWalk setsByText;refine aa (jk P.obj P.data P.fits ?_);dsimp only;refine aa (aa (ll (ai ?_)));show wpAny _ _ (if w.params.followText "set-order" = true then _ else _) _ _ s;rw[if_pos hb];refine aa (ll (ai (ai ?_)));unfold iM gN at h;unfold gN;rw[if_pos hb]at h ⊢;rw[if_pos hb]at h;exact h
 ·have hb':w.params.followText "set-order" = false:=by simpa using hb
  rw[if_neg hb];have hl:t.led=true:=by rw[P.led,hb'];rfl
  have hd:((!t.plain)&&decide (es.size>1))=false:=by rw[P.tab.plain];rfl
  show wpAny _ _ (if((!t.plain)&&decide (es.size>1))=true then _ else _) _ _ s;rw[hd];simp only[cw,if_false];show wpAny _ _ ((if((!t.led)&&!es.isEmpty)=true then _ else _) >>= _) _ _ s;rw[hl];simp only[om,Bool.false_and,cw,if_false];refine aa (ai ?_);have hbl:=ZJ (w:=w) P.tab hb' (i:=i) (by omega);rw[hbl];unfold iM at h;rw[if_neg hb]at h;refine ai ?_
  by_cases hlt:i<es.size
  ·have e1:es[i]?=some es[i]:=fi hlt;have e2:t.place[i]?=some t.place[i]:=fi (by omega);rw[e1]at h;rw[e1,e2];have e3:gN w t (i+1)=t.place[i]+1:=by unfold gN;rw[if_neg hb];simp[jz,show i<t.place.size by omega]
   rw[e3]at h;exact h
  ·have e1:es[i]?=none:=rj (by omega);rw[e1]at h ⊢;exact h
theorem ZM {i:Nat}{x:Int×af}{Q:Option af->ag->Prop}(P:Parts prog w s.heap a kb o es ep t) (hit:s.heap.get? it=some (kB a (gN w t i) i es.size ep)) (hx:(iM w a ep es)[i]?=some x)
  (hQ:∀h',h'.get? it=some (kB a (gN w t (i+1)) (i+1) es.size ep)->ij it s.heap h'->Q (some x.2) { s with heap:=h' }):wpAny (model prog w) A (pyNext (.ref it)) Q E s:=by
 have hT:s.TypeIs (.ref it) "set_iterator" := ⟨_,hit,rfl⟩;have hlt:i<es.size:=by rw[<-xK w a ep es];exact(dh.mp hx).1
 unfold pyNext;refine aa (vp (gm (name:=iw "__next__") hT walk_slots.2.1 (gr walk_slots.2.1 hT K7 ?_ (xJ _).2.1)));unfold mq.«set_iterator.__next__»;refine aa (m:=slotArgs "__next__" 0 ⟨[.ref it],[]⟩) (ai ?_);refine aa (wpAny_fieldsOf hit rfl ?_);dsimp only;show wpAny _ _ (setEntries a >>= _) _ _ s;refine aa (vh P.obj P.data P.fits ?_);rw[if_neg (by simp)];show wpAny _ _ (setNext a ((gN w t i:Nat):Int).toNat ((i:Nat):Int).toNat ((ep:Nat):Int).toNat >>= _) _ _ s;rw[gb,gb,gb];refine aa (LA P (gy hlt) ?_);rw[hx];show wpAny _ _ (setField (.ref it) 0 (rawInt ((gN w t (i+1):Nat):Int)) >>= _) _ _ s;refine aa (jd hit (by simp) λh1 g1 b1=>?_);refine aa (jd g1 (by simp) λh2 g2 b2=>?_);refine ai ⟨_,rfl,ai (hQ h2 ?_ (b1.trans b2))⟩;rw[g2];rfl
theorem ZN {i:Nat}{Q:Option af->ag->Prop}(hh:A.handled=none) (P:Parts prog w s.heap a kb o es ep t) (hit:s.heap.get? it=some (kB a (gN w t i) i es.size ep)) (hi:i=es.size)
  (hQ:∀h',Bl it s.heap h'->Q none { s with heap:=h' }):wpAny (model prog w) A (pyNext (.ref it)) Q E s:=by
 have hT:s.TypeIs (.ref it) "set_iterator" := ⟨_,hit,rfl⟩;unfold pyNext;refine aa (vp (gm (name:=iw "__next__") hT walk_slots.2.1 (gr walk_slots.2.1 hT K7 ?_ (xJ _).2.1)));unfold mq.«set_iterator.__next__»;refine aa (m:=slotArgs "__next__" 0 ⟨[.ref it],[]⟩) (ai ?_);refine aa (wpAny_fieldsOf hit rfl ?_);dsimp only;show wpAny _ _ (setEntries a >>= _) _ _ s;refine aa (vh P.obj P.data P.fits ?_);rw[if_neg (by simp)];show wpAny _ _ (setNext a ((gN w t i:Nat):Int).toNat ((i:Nat):Int).toNat ((ep:Nat):Int).toNat >>= _) _ _ s;rw[gb,gb,gb];refine aa (LA P (mz hi) ?_);rw[rj (by rw[xK];omega)];show wpAny _ _ (setField (.ref it) 2 jn >>= _) _ _ s;refine aa (jd hit (by simp) λh1 g1 b1=>?_);show wpAny _ _ (newExc (.type "StopIteration") [] >>= _) _ _ _;refine aa ?_;simp only[newExc,newTuple];refine aa (fj ?_ (by size_fits));refine aa (m:=firstArgMember _ _) (zu (a:=jn) (by first|rfl|(simp only[firstArgMember];rfl)) ?_);refine fj ?_ (by size_fits);simp only[raiseNew];refine aa (wpAny_handled ?_);rw[show A.in1.handled=none from hh];refine aa (ai (wpAny_throw ?_));refine aa (zl (T := "StopIteration") (b:=true) ⟨_,az _ rfl,rfl⟩ isSubtype_stop ?_);exact ai (hQ _ ((b1.extBut.push _).push _))
end
section
variable{prog:bg}{w:cq}{A:cn}{E:af->ag->Prop}{s:ag}{a:ah}{kb:KB}{o:Obj}{es:Array (Int×af)}{ep:Nat}{t:gv}
theorem Parts.at' {h h':cx}(P:Parts prog w h a kb o es ep t) (k:h'.get? a=some o):Parts prog w h' a kb o es ep t:=⟨k,P.ex,P.data,P.es,P.tab,P.nd,P.nf,P.led⟩
theorem ZO (hh:A.handled=none) (I:ah) (hne:a≠I):
  Walks prog w A I [I,a] [I] es.size (λi v=>∃x,(iM w a ep es)[i]?=some x/\v=x.2) (λi h=>Parts prog w h a kb o es ep t/\h.get? I=some (kB a (gN w t i) i es.size ep)) where
 sub:=λb hb=>by rw[ey.mp hb];exact ax ..
 frame:=λi h h' ⟨p,q⟩ k=>⟨p.at' (k a (by simp) _ p.obj),k I (by simp) _ q⟩
 item:=λi s Q E hi ⟨p,q⟩ hQ=>by
  have hi':i<(iM w a ep es).size:=by rw[xK];exact hi
  have hx:(iM w a ep es)[i]?=some (iM w a ep es)[i]:=fi hi';refine ZM p q hx λh' q' sb=>hQ _ h' s.toks ⟨_,hx,rfl⟩ ⟨p.at' ((sb.2 a hne).trans p.obj),q'⟩ λb o hb e=>?_;exact(sb.2 b λz=>hb (by rw[z];exact ax ..)).trans e
 done:=λs Q E ⟨p,q⟩ hQ=>ZN hh p q rfl λh' x=>hQ h' s.toks λb o hb e=>x b o (λz=>hb (by rw[z];exact ax ..)) e
 self:=λi s Q E ⟨_,q⟩ hQ=>by have hT:s.TypeIs (.ref I) "set_iterator" := ⟨_,q,rfl⟩;refine wpAny_pyIter_slot hT walk_slots.2.2.1 (gr walk_slots.2.2.1 hT ZH ?_ (xJ _).2.2);exact ai ⟨_,rfl,"set_iterator",_,⟨_,q,rfl⟩,walk_slots.2.1.lookup,hQ⟩
theorem ZP {S:ah}{n:Nat}{Q:Unit->ag->Prop}(h:s.heap.get? S=some (seqObj "list" #[] n)) (q:∀h' c,h'.get? S=some (seqObj "list" #[] c)->(∀b o,b≠S->s.heap.get? b=some o->h'.get? b=some o)->Q () { s with heap:=h' }):
  wpAny (model prog w) A (vq (.ref S)) Q E s:=by
 unfold vq;refine aa (vv h rfl ?_);have h1:=ub h (λx=>x.push jn);refine vv h1 rfl ?_;have h2:=ub h1 (λx=>x.pop);refine q _ _ h2 λb o hb e=>?_;rw[pf _ _ _ _ hb,pf _ _ _ _ hb];exact e
theorem ZQ {Q:List af->ag->Prop}(hh:A.handled=none) (P:Parts prog w s.heap a kb o es ep t) (hn:es.size<=bp)
  (q:∀(h':cx) (tk:Nat),(∀b o,s.heap.get? b=some o->h'.get? b=some o)->s.heap.objs.size<=h'.objs.size->Q ((iM w a ep es).toList.map (·.2)) { s with heap:=h',toks:=tk }):wpAny (model prog w) A (collect (.ref a)) Q E s:=by
 have la:a<s.heap.objs.size:=av P.obj;have up1:∀b o,s.heap.get? b=some o->(s.heap.push (seqObj "list" #[] 0)).get? b=some o:=λb o e=>aj _ e;have hS1:(s.heap.push (seqObj "list" #[] 0)).get? s.heap.objs.size=some (seqObj "list" #[] 0):=az _ rfl;have P1:Parts prog w (s.heap.push (seqObj "list" #[] 0)) a kb o es ep t:=P.at' (up1 a o P.obj);have hT1:tw { s with heap:=s.heap.push (seqObj "list" #[] 0) } (.ref a) "set" := ⟨o,P1.obj,P1.ex.1⟩;unfold collect;refine aa (wpAny_runValue (qd entry_proto_collect' ?_));rw[nr F.plain_proto_collect _];refine aa (m:=newList []) (Bt (ai ⟨Code.quiet_builtin _ (by decide +kernel),qd entry_list_iadd' ?_⟩));rw[nr F.plain_list_iadd _];show wpAny _ A.in1 (uj (.ref s.heap.objs.size) (.ref a) (.ref s.heap.objs.size)) _ _ { s with heap:=s.heap.push (seqObj "list" #[] 0) };unfold uj;refine aa (qh hT1 ?_);have ne:uy (.ref s.heap.objs.size) (.ref a)=false:=by simp[uy,jw la]
 rw[if_neg (by rw[ne];decide)];refine aa (ZL P1 ?_);have sz:(s.heap.push (seqObj "list" #[] 0)).objs.size=s.heap.objs.size+1:=size_push' _ _;rw[sz];have up2:∀b o,(s.heap.push (seqObj "list" #[] 0)).get? b=some o->((s.heap.push (seqObj "list" #[] 0)).push (kB a 0 0 es.size ep)).get? b=some o:=λb o e=>aj _ e;have P2:Parts prog w ((s.heap.push (seqObj "list" #[] 0)).push (kB a 0 0 es.size ep)) a kb o es ep t:=P1.at' (up2 a o P1.obj);have hT2:tw { s with heap:=(s.heap.push (seqObj "list" #[] 0)).push (kB a 0 0 es.size ep) } (.ref a) "set" := ⟨o,P2.obj,P2.ex.1⟩;have hI2:((s.heap.push (seqObj "list" #[] 0)).push (kB a 0 0 es.size ep)).get? (s.heap.objs.size+1)=some (kB a 0 0 es.size ep):=by rw[<-sz];exact az _ rfl
 refine aa (ib ?_);unfold Builtin.List.listLengthHint;refine aa (wpAny_specialOf hT2 walk_slots.2.2.2.lookup ?_);have spl:splitId "set.__len__" = some ("set","__len__"):=by decide +kernel
 dsimp only;rw[spl];dsimp only;refine aa (zl (b:=true) hT2 sub_set_self ?_);rw[if_neg (by decide),if_pos (by decide +kernel)];refine aa (qh hT2 (ai ?_));rw[if_pos (by decide +kernel)];refine aa (qu ?_);refine aa (ZP (s:={ s with heap:=(s.heap.push (seqObj "list" #[] 0)).push (kB a 0 0 es.size ep) }) (up2 _ _ hS1) λh3 c hS3 up3=>?_);have neS:∀b o,s.heap.get? b=some o->b≠s.heap.objs.size:=λb o e=>bf (av e);have P3:Parts prog w h3 a kb o es ep t:=P2.at' (up3 a o (bf la) P2.obj);have hI3:h3.get? (s.heap.objs.size+1)=some (kB a 0 0 es.size ep):=up3 _ _ (rn _) hI2;have hz:gN w t 0=0:=by unfold gN;split <;> rfl
 have hh2:A.in1.handled=none:=by simp[hh]
 have nin:s.heap.objs.size∉[s.heap.objs.size+1,a]:=λm=>by
  rcases ay.mp m with e|m
  ·exact rn _ e.symm
  ·exact jw la (ey.mp m)
 refine ai ⟨plainId_quiet F.plain_extend_loop _,codeAny_extend_loopS (A:=A) ((ZO (kb:=kb) (o:=o) (t:=t) (ep:=ep) (es:=es) hh2 (s.heap.objs.size+1) (a:=a) (bf (jf la))).toS) hn s.heap.objs.size nin _ es.size 0 { s with heap:=h3 } #[] c rfl (jc _)
  ⟨P3,by rw[hz];exact hI3⟩ hS3 (ItemsOf.nil _) λs' acc c' mv hS' ia=>?_⟩
 have eacc:acc.toList=(iM w a ep es).toList.map (·.2):=by
  apply uz
  intro i;rw[ni,dv,ni]
  cases q:acc[i]? with
  |some v=>obtain⟨x,h1,h2⟩:=ia.2 i v q;rw[h1,h2];rfl
  |none=>have h1:acc.size<=i:=Array.getElem?_eq_none_iff.mp q;rw[rj (by rw[xK,<-ia.1];exact h1)];rfl
 obtain⟨hp,gs,dr,tk,os⟩:=s';have e1:gs=s.gens:=mv.gens;have e2:dr=s.drawn:=mv.drawn;have e3:os=s.os:=mv.os;subst e1;subst e2;subst e3;show wpAny _ A (load s.heap.objs.size >>= _) _ _ _;refine aa (wpAny_load hS' (ai ?_));rw[eacc];refine q hp tk (λb o e=>mv.heap b o (λm=>?_) (up3 b o (neS b o e) (up2 b o (up1 b o e)))) (gy (av hS'))
 rcases ay.mp m with z|m
 ·exact neS b o e z
 ·exact bf (jf (av e)) (ey.mp m)
end
open PySem.W SoM L2
section
variable{prog:bg}{w:cq}{A:cn}{E:af->ag->Prop}{s:ag}
theorem LB {fin:Bool}{Q:Bool->ag->Prop}:∀{kx ky:List Int}{vx vy:List af}(i:Nat),ItemsAre (intKind prog w) kx vx->ItemsAre (intKind prog w) ky vy->fin=decide (vx.length<vy.length)->Q (cP kx ky) s->KatLex prog w A true fin Q (vx.zip vy) i s
 |_,_,_,_,i,.nil,.nil,hf,h=>by subst hf;exact kat_nil h
 |_,_,_,_,i,.nil,.cons _ _,hf,h=>by subst hf;refine kat_nil ?_;rw[decide_eq_true (by simp)];exact h
 |_,_,_,_,i,.cons _ _,.nil,hf,h=>by subst hf;refine kat_nil ?_;rw[decide_eq_false (by simp)];exact h
 |_,_,_,_,i,.cons (k:=a) hu hx,.cons (k:=b) hv hy,hf,h=>by
  obtain⟨t,rfl⟩:=ly hu;obtain⟨t',rfl⟩:=ly hv;refine kat_cons (wpAny_eqBool_int (kat_go (λe=>?_) λe=>?_))
  ·refine kat_yes (LB (i+1) hx hy (hf.trans (by simp)) ?_);rw[cP,if_pos e]at h;exact h
  ·have h':Q (decide (a<b)) s:=by rw[cP,if_neg (by rw[e];simp)]at h;exact h
   refine kat_no ?_
   cases q:i==0 with
   |true=>exact oneLt_int h'
   |false=>exact kat_one _ _ (wo h')
theorem ZR {x y:ah}{kx ky:List Int}{Q:Bool->ag->Prop}(hx:gg (intKind prog w) s.heap kx x) (hy:gg (intKind prog w) s.heap ky y) (h:Q (cP kx ky) s):wpAny (model prog w) A (keyLt' (tuples' true) (.ref x) (.ref y)) Q E s:=by obtain⟨ox,ix,nx,e1,_,d1,i1⟩:=hx;obtain⟨oy,iy,ny,e2,_,d2,i2⟩:=hy;exact kat_lt e1 d1 e2 d2 (LB 0 i1 i2 (by simp) h)
def KeysAt (prog:bg) (w:cq) (h:cx) (n:Nat) (ad:Nat->ah) (ky:Nat->List Int):Prop:=∀i,i<n->gg (intKind prog w) h (ky i) (ad i)/\ky i≠[]
def bP (n:Nat) (ad:Nat->ah):List af:=(bo n).map λi=>.ref (ad i)
theorem lD (n:Nat) (ad:Nat->ah):(bP n ad).length=n:=by simp[bP]
theorem CH {n:Nat}{ad:Nat->ah}{i:Nat}(h:i<n):(bP n ad).getD i jn=.ref (ad i):=by simp[bP,h]
theorem LC:∀(l:List Nat) {ad:Nat->ah}{ky:Nat->List Int},(∀i∈l,gg (intKind prog w) s.heap (ky i) (ad i)/\ky i≠[])->∃fs:List af,KatTups s.heap (l.map λi=>.ref (ad i)) fs/\fs.length=l.length/\∀v∈fs,∃a t,v=.int a t
 | [],_,_,_=>⟨[],trivial,rfl,by simp⟩
 |i::l,ad,ky,h=>by
  obtain⟨fs,t,hl,hv⟩:=LC l (ad:=ad) (ky:=ky) λj hj=>h j (aq _ hj);obtain⟨⟨o,its,n,e,c,d,r⟩,ne⟩:=h i (ax ..)
  cases q:its.toList with
  |nil=>rw[q]at r;cases hk:ky i with
   |nil=>exact absurd hk ne
   |cons a b=>rw[hk]at r;cases r
  |cons v vs=>
   rw[q]at r
   cases hk:ky i with
   |nil=>exact absurd hk ne
   |cons a b=>
    rw[hk]at r
    cases r with
    |cons hu _=>
     obtain⟨tk,rfl⟩:=ly hu;refine⟨.int a tk::fs,KatTups.cons e c d (by rw[<-ni,q];rfl) t,by simp[hl],λv hv'=>?_⟩
     rcases ay.mp hv' with rfl|hv'
     ·exact⟨_,_,rfl⟩
     ·exact hv v hv'
theorem ZS {n:Nat}{ad:Nat->ah}{ky:Nat->List Int}{G:Array Nat->ag->Prop}(h2:2<=n) (hk:KeysAt prog w s.heap n ad ky)
  (h:∀p,Ent n p->gL cP (p.toList.map ky)->G p s):
  wpAny (model prog w) A (keyKind' (bP n ad).toArray) (λκ s'=>(kas_sort (bP n ad).length).kasWp (kas_ask prog w A κ (bP n ad)) G s') (λ_ _=>False) s:=by
 obtain⟨fs,t,hl,hv⟩:=LC (prog:=prog) (w:=w) (s:=s) (bo n) (ad:=ad) (ky:=ky) λi hi=>hk i (bx.mp hi);refine kat_kind (T:=.type "int") t (by rw[hl,jv];omega) (λv hv'=>?_) (by decide) ?_
 ·obtain⟨a,tk,rfl⟩:=hv v hv';exact .now
 ·rw[lD]
  let ks:=(bo n).map ky
  have mem:∀i,i<n->ky i∈ks:=λi hi=>cb.mpr ⟨i,bx.mpr hi,rfl⟩;refine J2 (n:=n) (f:=λi=>rk cP ks (ky i)) (I:=λs'=>s'=s) (λi j C s' hs hi hj hC=>?_) (kas_sort n) (λp=>Ent n p/\gL cP (p.toList.map ky)) G s s (YK (by omega) λp e inc=>⟨e, ?_⟩) rfl λp s' hp hs=>by subst hs;exact h p hp.1 hp.2
  ·subst hs;show wpAny (model prog w) A (keyLt' (tuples' true) ((bP n ad).getD i jn) ((bP n ad).getD j jn)) C (λ_ _=>False) s';rw[CH hi,CH hj];refine ZR (hk i hi).1 (hk j hj).1 ?_;have:=hC s' rfl;rwa [J7 stoL (mem i hi)]at this
  ·refine gn.mpr λi j hi hj hij=>?_;have hj':j<p.size:=by simpa using hj
   have hi':i<p.size:=by omega
   have z:=inc i j (gy hij) (by rw[<-e.1];exact hj');unfold SoM.F at z;have ei:p.getD i 0=p[i]:=by simp[jz,hi']
   have ej:p.getD j 0=p[j]:=by simp[jz,hj']
   rw[ei,ej]at z;have lt:∀k (hk:k<p.size),p[k]<n:=λk hk=>bx.mp (e.2.mem_iff.mp (by simp));have:=YM stoL (mem _ (lt j hj')) z;simpa using this
end
section
variable{prog:bg}{w:cq}{A:cn}{E:af->ag->Prop}{s:ag}
abbrev xM (h h':cx):Prop:=∀b o,h.get? b=some o->h'.get? b=some o
def Sorted (n:Nat) (ad:Nat->ah) (ky:Nat->List Int) (out:List af):Prop:=∃p:List Nat,p.Perm (bo n)/\gL cP (p.map ky)/\out=p.map λi=>.ref (ad i)
theorem Sorted.len {n:Nat}{ad:Nat->ah}{ky:Nat->List Int}{out:List af}(h:Sorted n ad ky out):out.length=n:=by obtain⟨p,pp,_,e⟩:=h;rw[e,bh,pp.length_eq,jv]
theorem KeysAt.keep {h h':cx}{n:Nat}{ad:Nat->ah}{ky:Nat->List Int}(k:KeysAt prog w h n ad ky) (g:∀i,i<n->∀o,h.get? (ad i)=some o->h'.get? (ad i)=some o):KeysAt prog w h' n ad ky:=λi hi=>⟨xI (k i hi).1 (g i hi),(k i hi).2⟩
theorem ZT {a:ah}{n c:Nat}{ad:Nat->ah}{ky:Nat->List Int}{P:Fin->ag->Prop}(ho:s.heap.get? a=some (seqObj "list" (bP n ad).toArray c)) (h64:n<64) (hk:KeysAt prog w s.heap n ad ky)
  (q:∀h' e out,Sorted n ad ky out->h'.get? a=some (seqObj "list" out.toArray e)->(∀b o,b≠a->s.heap.get? b=some o->h'.get? b=some o)->P (.done (.ret .none)) { s with heap:=h' }):
  wpAny (model prog w) A (mq.«list.sort» ⟨[.ref a],[]⟩) P E s:=by
 have la:a<s.heap.objs.size:=av ho;obtain⟨e1,g1⟩:∃e1,(s.heap.update a (oh λ_=>(#[]:Array af))).get? a=some (seqObj "list" #[] e1):=⟨_,ub ho λ_=>#[]⟩
 have k1:∀b o,b≠a->s.heap.get? b=some o->(s.heap.update a (oh λ_=>(#[]:Array af))).get? b=some o:=λb o hb e=>by rw[pf _ _ _ _ hb];exact e
 generalize hH1:s.heap.update a (oh λ_=>(#[]:Array af))=H1 at g1 k1;have k3:xM H1 ((H1.push (seqObj "tuple" (bP n ad).toArray 0)).push (seqObj "list" #[] 0)):=λb o e=>aj _ (aj _ e);have ne:∀i,i<n->ad i≠a:=λi hi e=>by obtain⟨⟨o,its,m,e1,c1,_⟩,_⟩:=hk i hi;rw[e,ho]at e1;cases e1;exact absurd (Value.type.inj c1) (by decide)
 have K3:KeysAt prog w ((H1.push (seqObj "tuple" (bP n ad).toArray 0)).push (seqObj "list" #[] 0)) n ad ky:=hk.keep λi hi o e=>k3 _ o (k1 _ o (ne i hi) e);have g3:=k3 a _ g1;have kk:∀b o,b≠a->s.heap.get? b=some o->((H1.push (seqObj "tuple" (bP n ad).toArray 0)).push (seqObj "list" #[] 0)).get? b=some o:=λb o hb e=>k3 b o (k1 b o hb e);have sl:n<=bp:=by rw[jq];omega
 have fin:∀(out:List af),Sorted n ad ky out->wpAny (model prog w) A (do
   let touched:=(<-seqEpoch a) != e1
   Builtin.List.listUpdate (.ref a) λ_=>out.toArray
   if let some e:=(none:Option af)then rule "list.sort.comparison-raised"; throw e
   if touched then rule "list.sort.modified"; raiseError "ValueError" "list modified during sort"
   ret .none) P E { s with heap:=(H1.push (seqObj "tuple" (bP n ad).toArray 0)).push (seqObj "list" #[] 0) }:=λout ho'=>by
  refine aa (seqEpoch_at g3 rfl ?_);refine aa (vv g3 rfl ?_ (jc _) (by rw[au,ho'.len];omega));simp only[bne_self_eq_false,cw,if_false];exact ai (q _ _ out ho' (ub g3 λ_=>out.toArray) λb o hb e=>by rw[pf _ _ _ _ hb];exact kk b o hb e)
 generalize hH3:(H1.push (seqObj "tuple" (bP n ad).toArray 0)).push (seqObj "list" #[] 0)=H3 at k3 K3 g3 kk fin;rw[list_sort_plain];refine aa (listItems_at ho rfl (aa (vv ho rfl ?_ (by rw[au,lD];exact sl) (jc _))));rw[hH1];refine aa (seqEpoch_at g1 rfl (aa (wpAny_newTuple (aa (Bt (ib ?_) (jc _))) (by show(bP n ad).length<=_;rw[lD];exact sl))));show wpAny (model prog w) A _ P E { s with heap:=(H1.push (seqObj "tuple" (bP n ad).toArray 0)).push (seqObj "list" #[] 0) };rw[hH3];have hz:(bP n ad).toArray.size=n:=by rw[au,lD]
 dsimp only
 by_cases h2:n<2
 ·rw[if_pos (by rw[hz];exact h2),if_pos (by rw[hz];exact h2)];refine aa (ai ?_);rw[StateT.run_pure];refine aa (ai ?_);have e:(arrOf (SortSt.mk' general' ((bP n ad).toArray.zip (bP n ad).toArray) #[] 7 none)).map (·.2)=(bP n ad).toArray:=by show(((bP n ad).toArray.zip (bP n ad).toArray)).map (·.2)=_;rw[Array.map_snd_zip (ak _)]
  dsimp only;rw[e];refine fin _ ⟨bo n,.refl _, ?_,rfl⟩;refine gn.mpr λi j hi hj hij=>?_;rw[bh,jv]at hj;omega
 ·have h2':2<=n:=by omega
  rw[if_neg (by rw[hz];exact h2),if_neg (by rw[hz];exact h2)];refine aa (ki (ZS (A:=A) (s:={ s with heap:=H3 }) (G:=λp s'=>s'={ s with heap:=H3 }/\Ent n p/\gL cP (p.toList.map ky)) h2' K3 λp e r=>⟨rfl,e,r⟩) (λκ s0 hκ=>?_) λ_ _ x=>x.elim);refine aa (ki (kat_run (ks:=bP n ad) (vs:=bP n ad) (Q:=λst' s'=>∃p:Array Nat,p.size=(bP n ad).length/\arrOf st'=p.map (kas_item ((bP n ad).toArray.zip (bP n ad).toArray))/\failedOf st'=none/\s'={ s with heap:=H3 }/\Ent n p/\gL cP (p.toList.map ky))
   rfl (by rw[lD];exact h2') (by rw[lD];exact h64) (λp st' s' z1 z2 z3 z4=>⟨p,z1,z2,z3,z4⟩) hκ) ?_ λ_ _ e=>e)
  rintro ⟨⟨⟩,st'⟩ s' ⟨p,_,z2,z3,rfl,z5,z6⟩
  dsimp only;rw[kat_snds rfl z2,z3];have e:(p.toList.map λi=>(bP n ad).getD i jn)=p.toList.map λi=>.ref (ad i):=Bu λi hi=>CH (bx.mp (z5.2.mem_iff.mp hi));rw[e];exact fin _ ⟨p.toList,z5.2,z6,rfl⟩
theorem ZU {x:af}{n:Nat}{ad:Nat->ah}{ky:Nat->List Int}{Q:af->ag->Prop}(h64:n<64) (hk:KeysAt prog w s.heap n ad ky)
  (hc:∀(Q':List af->ag->Prop) (E':af->ag->Prop),(∀h' tk,xM s.heap h'->s.heap.objs.size<=h'.objs.size->Q' (bP n ad) { s with heap:=h',toks:=tk })->wpAny (model prog w) A.in1 (collect x) Q' E' s)
  (q:∀h' tk D e out,Sorted n ad ky out->s.heap.objs.size<=D->h'.get? D=some (seqObj "list" out.toArray e)->xM s.heap h'->Q (.ref D) { s with heap:=h',toks:=tk }):
  wpAny (model prog w) A (call (.builtin "sorted") [x]) Q E s:=by
 refine Calls.call_function_entry kind_sorted plain_sorted entry_sorted (args_sorted1 _) ?_;unfold mq.«sorted»;refine aa (m:=checkCount "sorted" 1 1 _) (ai (aa (hc _ _ λh1 tk k1 sz=>aa (Bt ?_ (by rw[lD,jq];omega)))));have g:(h1.push (seqObj "list" (bP n ad).toArray 0)).get? h1.objs.size=some (seqObj "list" (bP n ad).toArray 0):=az _ rfl;have k2:xM s.heap (h1.push (seqObj "list" (bP n ad).toArray 0)):=λb o e=>aj _ (k1 b o e);refine aa (ib (gr slot_list_sort ⟨_,g,rfl⟩ entry_list_sort (ZT (s:={ s with heap:=h1.push (seqObj "list" (bP n ad).toArray 0),toks:=tk }) g h64 (hk.keep λi hi o e=>k2 _ o e) λh' e out so ho ke=>⟨_,rfl, ?_⟩) (args_list_sort _)));exact ai ⟨_,rfl,q h' tk h1.objs.size e out so sz ho λb o e=>ke b o (bf (aw (av e) sz)) (k2 b o e)⟩
end
def bare (w:cq):Obj:={ cls:=.type "set",dict:=none,data:=.set #[] 0 (.fresh 0 0 (!w.params.followText "set-order")) }
section
variable{prog:bg}{w:cq}{A:cn}{E:af->ag->Prop}{s:ag}
theorem ZV {h:cx}{a:ah}(e:h.get? a=some (bare w)):lC prog w h a []:=by
 have tok:∀led:Bool,TOk (.fresh 0 0 led) []:=λled=>⟨rfl,.nil,rfl,(λj hj=>nomatch hj),jc _,.inl rfl,(λi h j e=>nomatch e),rfl⟩
 exact⟨bare w,#[],0,_,e,⟨rfl,rfl,rfl⟩,rfl,rfl,tok _,.nil,(by show 0*5<7*3;decide),rfl⟩
theorem ZW (a:af) {Q:af->ag->Prop}(q:Q (.ref s.heap.objs.size) { s with heap:=s.heap.push (bare w) }):
  codeAny (model prog w) A (.call (.builtin "set.__new__") ⟨[.type "set",a],[]⟩) (wants Q E) s:=by
 refine uq F.plain_set_new F.entry_set_new (zu (F.newCall_set_1 a) ?_);have self:=sub_set_self;unfold mq.«set.__new__» Builtin.Frozenset.newClass;cases s
 wp_walk
 exact ll (ai (aa (wpAny_alloc (ai (ai q)))))
theorem ZX {v:af}{Q N:af->ag->Prop}(hn:codeAny (model prog w) A.in1 (.call (.builtin "set.__new__") ⟨[.type "set",v],[]⟩) (wants N E) s)
  (hi:∀x s1,N x s1->s1.TypeIs x "set"/\codeAny (model prog w) A.in1 (.call (.builtin "set.__init__") ⟨[x,v],[]⟩) (wants (λr s2=>r=.none/\Q x s2) E) s1):wpAny (model prog w) A (call (.type "set") [v]) Q E s:=by
 have f:=F.called_set;obtain⟨_,_,fm⟩:=f.mro;have fd:=f.made;have fs:=f.sub;have ft:=f.notType;have fc:=f.canCreate;have fk:=F.typeCall_set_1 v;have fl:=f.init.lookup;have q:(Code.builtin "type.__call__" ⟨[.type "set",v],[]⟩).quiet=true:=Code.quiet_builtin _ (by decide +kernel);refine Au (codeAny_of_tree (ai ⟨q,qd F.entry_type_call ?_⟩));rw[Around.under_plain (weight_type_call_type "set" [v] []) rfl]
 repeat (any_goals (first|assumption|wp_step))
 refine nu hn ?_
 rintro (e|fl1) s1 h1
 ·exact h1
 ·cases fl1 <;> try exact h1.elim
  rename_i x;obtain⟨hx,hr⟩:=hi x s1 h1;have fb:=f.init.bind x
  repeat (any_goals (first|assumption|wp_step))
  refine nu hr ?_
  rintro (e|fl2) s2 h2
  ·exact h2
  ·cases fl2 <;> try exact h2.elim
   obtain⟨rfl,h3⟩:=h2
   repeat (any_goals (first|assumption|wp_step))
theorem LD {l:ah}{T:String}{it:Obj}{n:Nat}{P:Nat->af->Prop}{St:Nat->cx->Prop}{fp wr:List ah}(ad:Nat->ah) (ky:Nat->List Int) (U:List (List Int)) {Q:af->ag->Prop}
  (hu:A.units+8<cLine) (hT:s.TypeIs (.ref l) T) (n1:isSubtype (.type T) (.type "set")=pure false) (n2:isSubtype (.type T) (.type "frozenset")=pure false) (n3:(Bn T==Bn "dict")=false)
  (hi:∀(B:cn) (Q':af->ag->Prop) (E':af->ag->Prop),Q' (.ref (s.heap.objs.size+1)) { s with heap:=(s.heap.push (bare w)).push it }->wpAny (model prog w) B (pyIter (.ref l)) Q' E' { s with heap:=s.heap.push (bare w) })
  (W:Walks prog w A.in1.in1.in1 (s.heap.objs.size+1) fp wr n P St) (hfp:s.heap.objs.size∉fp) (hwr:∀b∈wr,s.heap.objs.size<b) (h0:St 0 ((s.heap.push (bare w)).push it))
  (hval:∀i v,P i v->v=.ref (ad i)) (hU:U.length<=76) (hky:∀i,i<n->ky i∈U) (hkeys:∀j,j<n->gg (intKind prog w) s.heap (ky j) (ad j))
  (q:∀(h':cx) (tk:Nat) kb,lC prog w h' s.heap.objs.size kb->Upto ky ad n kb->(∀b o,s.heap.get? b=some o->h'.get? b=some o)->Q (.ref s.heap.objs.size) { s with heap:=h',toks:=tk }):
  wpAny (model prog w) A (call (.type "set") [.ref l]) Q E s:=by
 refine ZX (N:=λx s1=>x=.ref s.heap.objs.size/\s1={ s with heap:=s.heap.push (bare w) }) (ZW _ ⟨rfl,rfl⟩) ?_
 rintro x s1 ⟨rfl,rfl⟩
 have up:∀b o,s.heap.get? b=some o->(s.heap.push (bare w)).get? b=some o:=λb o e=>aj _ e;have hb:(s.heap.push (bare w)).get? s.heap.objs.size=some (bare w):=az _ rfl;have hS:tw { s with heap:=s.heap.push (bare w) } (.ref s.heap.objs.size) "set" := ⟨_,hb,rfl⟩;refine⟨hS,uq F.called_set.init.plain F.entry_set_init (check_set_init_1 hS ?_)⟩;obtain⟨ol,el,cl⟩:=hT;have hl1:tw { s with heap:=s.heap.push (bare w) } (.ref l) T:=⟨ol,up l ol el,cl⟩
 have lt:∀j,j<n->ad j<s.heap.objs.size:=λj hj=>let ⟨_,_,_,e,_⟩:=hkeys j hj;av e;have hb2:((s.heap.push (bare w)).push it).get? s.heap.objs.size=some (bare w):=aj _ hb;have run:∀(R:yk->ag->Prop),(∀h' tk kb,lC prog w h' s.heap.objs.size kb->Upto ky ad n kb->(∀b o,s.heap.get? b=some o->h'.get? b=some o)->R (.ok (.ret .none)) { s with heap:=h',toks:=tk })->
   codeAny (model prog w) A.in1.in1 (.builtin "set.update.loop" ⟨[.ref s.heap.objs.size,.ref (s.heap.objs.size+1)],[]⟩) R { s with heap:=(s.heap.push (bare w)).push it }:=λR hR=>by
  refine ZF W s.heap.objs.size hfp ad ky hval (by show A.units+1+1+2<cLine;omega) U hU hky (λj hj=>⟨bf (lt j hj),λm=>Nat.lt_asymm (lt j hj) (hwr _ m)⟩) n 0 _ [] rfl (jc _) h0 (ZV hb2)
   ⟨(λp hp=>nomatch hp),λj hj=>absurd hj (Nat.not_lt_zero j)⟩ (λj hj=>xI (hkeys j hj) λo e=>aj _ (up _ o e)) λh' tk kb keep S u=>hR h' tk kb S u λb o e=>?_
  have hlt:=av e;exact keep b o (λm=>(ay.mp m).elim (bf hlt) λm=>Nat.lt_asymm hlt (hwr b m)) (aj _ (up b o e))
 unfold mq.«set.__init__» noKeywords Builtin.Frozenset.updateFrom;generalize hPI:pyIter=PI;unfold bare at hb
 wp_walk
 subst hPI;refine hi _ _ _ ?_;refine aa (wpAny_runValue (run _ λh' tk kb S u keep=>?_));exact ai (ai ⟨rfl,q h' tk kb S u keep⟩)
end
end SR
namespace L2.Mr
open PySem PySem.Spec PyProof.Rows SR
def TupsAre (H:Hp):List V->List (List Int)->Prop
 | [],[]=>True
 |v::vs,k::ks=>(∃b,v=.ref b/\H b=some (.tup (k.map V.int)))/\TupsAre H vs ks
 |_,_=>False
def ZY:V->ah
 | .ref b=>b
 |_=>0
def fO (vs:List V) (i:Nat):ah:=ZY (vs.getD i .non)
section
variable{X:Cx}{pins:List (ah×Obj)}{σ:St}{H H':Hp}{s:ag}
theorem TupsAre.len:∀{vs:List V}{ks:List (List Int)},TupsAre H vs ks->vs.length=ks.length
 | [],[],_=>rfl
 | [],_::_,h=>h.elim
 |_::_,[],h=>h.elim
 |v::vs,k::ks,h=>by rw[cp,cp,TupsAre.len h.2]
theorem TupsAre.at_:∀{vs:List V}{ks:List (List Int)}{i:Nat},TupsAre H vs ks->i<ks.length->vs[i]?=some (.ref (fO vs i))/\H (fO vs i)=some (.tup ((ks.getD i []).map V.int))
 | [],[],_,_,h=>by simp at h
 | [],_::_,_,h,_=>h.elim
 |_::_,[],_,h,_=>h.elim
 |v::vs,k::ks,0,h,_=>by obtain⟨⟨b,rfl,e⟩,_⟩:=h;exact⟨rfl,e⟩
 |v::vs,k::ks,i+1,h,hi=>by
  obtain⟨e1,e2⟩:=TupsAre.at_ (i:=i) h.2 (by simpa using hi);have ea:fO (v::vs) (i+1)=fO vs i:=by simp[fO]
  exact⟨by rw[ea];simpa using e1,by rw[ea];simpa using e2⟩
theorem LF:∀{k:List Int}{its:List af}{prog:bg}{w:cq},Vals (k.map V.int) its->ItemsAre (intKind prog w) k its
 | [],_,_,_,.nil=>.nil
 |n::k,_,_,_,.cons h1 h2=>by obtain⟨t,rfl⟩:=h1;exact .cons (intKind_is _ _ _ _) (LF h2)
theorem CI (I:Inv X pins σ H s) {b:ah}{k:List Int}(e:H b=some (.tup (k.map V.int))):gg (intKind X.prog X.w) s.heap k b:=by obtain⟨_,its,r,o,e1,c,_,n,d⟩:=I.hok b _ e;exact⟨o,its.toArray,n,e1,c,d,LF r⟩
theorem LG {vs:List V}{ks:List (List Int)}{its:List af}(h:TupsAre H vs ks) (r:Vals vs its):its=bP ks.length (fO vs):=by
 have hl:=r.length;have hl2:=h.len
 apply uz
 intro i
 by_cases hi:i<ks.length
 ·obtain⟨e1,_⟩:=h.at_ hi;obtain⟨u,e2,e3⟩:=r.get e1;cases e3;rw[e2];simp[bP,hi]
 ·rw[Bd (by omega),Bd (by rw[lD];omega)]
theorem ZZ {n:Nat}{ad:Nat->ah}{ky:Nat->List Int}{out:List af}(so:Sorted n ad ky out) (hH:∀i,i<n->H (ad i)=some (.tup ((ky i).map V.int))):
  ∃(p:List Nat) (vs':List V),p.Perm (bo n)/\gL cP (p.map ky)/\Vals vs' out/\TupsAre H vs' (p.map ky):=by
 obtain⟨p,pp,r,rfl⟩:=so;refine⟨p,p.map λi=>V.ref (ad i),pp,r, ?_, ?_⟩
 ·clear pp r
  induction p with
  |nil=>exact .nil
  |cons i p ih=>exact .cons rfl ih
 ·have:∀q:List Nat,(∀i∈q,i<n)->TupsAre H (q.map λi=>V.ref (ad i)) (q.map ky):=λq=>by
   induction q with
   |nil=>intro _;trivial
   |cons i q ih=>exact λh=>⟨⟨_,rfl,hH i (h i (ax ..))⟩,ih λj hj=>h j (aq _ hj)⟩
  exact this p λi hi=>bx.mp (pp.mem_iff.mp hi)
theorem Z0 {α:Type}{p:List Nat}{n:Nat}{l:List α}{d:α}(h:p.Perm (bo n)) (hl:l.length=n):(p.map λi=>l.getD i d).Perm l:=by
 refine(h.map _).trans ?_;have:(bo n).map (λi=>l.getD i d)=l:=by
  apply List.ext_getElem (by simp[hl])
  intro i h1 h2;simp[h2]
 rw[this]
def xN (prog:bg) (w:cq) (l:ah) (o:Obj) (kb:KB):Prop:=∃es ep t,∀h:cx,h.get? l=some o->Parts prog w h l kb o es ep t
structure KbOk (H:Hp) (kb:KB) (ks:List (List Int)):Prop where
 tup:∀p∈kb,H p.2=some (.tup (p.1.map V.int))
 frm:∀p∈kb,p.1∈ks
 all:∀k∈ks,k∈kb.map ed
abbrev LH (X:Cx):List V->Hp->VK->Prop:=λxs H Q=>∃(p:ah) (vs:List V) (ks:List (List Int)),xs=[.ref p]/\H p=some (.lst vs)/\TupsAre H vs ks/\(dN cP ks).length<=76/\∀l o kb,H l=none->xN X.prog X.w l o kb->KbOk H kb ks->Q (.ref l) (aQ H l (.frz o (.own 0)))
theorem sub_list:isSubtype (.type "list") (.type "set")=pure false/\isSubtype (.type "list") (.type "frozenset")=pure false:=⟨F.sub_list_set,F.sub_list_frozenset⟩
theorem Z1 {k:Nat}(rm:Room k X.A):CallR X (.type "set") (LH X):=by
 intro pins s σ H xs us Q I rv ⟨p,vs,ks,e,hp,ht,hU,q⟩;subst e;obtain⟨u,rfl,ru⟩:=gD rv;cases ru;obtain⟨its,rits,pl,hz⟩:=I.list (SqL.of hp);have hits:=LG ht rits;have lp:=I.hok.lt hp;have hI:s.heap.IsList p (bP ks.length (fO vs)).toArray:=by rw[<-hits];exact pl.isList
 have hsz:(bP ks.length (fO vs)).toArray.size=ks.length:=by rw[au,lD]
 have hh:X.A.in1.in1.in1.handled=none:=rm.hd;have hne:p≠s.heap.objs.size+1:=bf (jf lp);have hb:(s.heap.push (bare X.w)).IsList p (bP ks.length (fO vs)).toArray:=hI.push _;have hs1:(s.heap.push (bare X.w)).objs.size=s.heap.objs.size+1:=size_push' _ _;have W:=Br (prog:=X.prog) (w:=X.w) (A:=X.A.in1.in1.in1) hh (s.heap.objs.size+1) p hne (bP ks.length (fO vs)).toArray;rw[hsz]at W;refine LD (T := "list") (it:={ cls:=.type "list_iterator",data:=.fields #[.ref p,.int 0 0] }) (fO vs) (λi=>ks.getD i []) (dN cP ks) (by have:=rm.un;omega) hI.typeIs sub_list.1 sub_list.2 (by decide) (λB Q' E' hQ=>?_) W ?_ ?_ ?_ (λi v hv=>?_) hU (λi hi=>?_) (λj hj=>?_) λh' tk kb hS hup k=>?_
 ·refine rz hb ?_;rw[<-hs1]at hQ;exact hQ
 ·intro m
  rcases ay.mp m with z|m
  ·exact rn _ z.symm
  ·exact jw lp (ey.mp m)
 ·intro b hb;rw[ey.mp hb];exact jo _
 ·refine⟨⟨{ cls:=.type "list_iterator",data:=.fields #[.ref p,.int 0 0] }, ?_,rfl,rfl⟩,hb.push _⟩;rw[<-hs1];exact az _ rfl
 ·have hi:i<ks.length:=by have:=(dh.mp hv).1;rwa [hsz]at this
  have:(bP ks.length (fO vs))[i]?=some (.ref (fO vs i)):=by simp[bP,hi]
  rw[Be,this]at hv;exact(cg hv).symm
 ·refine(nM stoL _ _).mpr ?_;show ks.getD i []∈ks;simp[hi]
 ·exact CI I (ht.at_ hj).2
 ·obtain⟨o,es,ep,t,P⟩:=hS;refine⟨.ref s.heap.objs.size,_,I.laid (t':=tk) (o:=.frz o (.own 0)) k (ak _) ⟨P.obj,o,P.obj⟩,rfl,q _ o kb (I.hok.fresh (ak _)) ⟨es,ep,t,λh e=>P.at' e⟩ ⟨λz hz=>?_,λz hz=>?_,λz hz=>?_⟩⟩
  ·obtain⟨j,hj,rfl⟩:=hup.from_ z hz;exact(ht.at_ hj).2
  ·obtain⟨j,hj,rfl⟩:=hup.from_ z hz;show ks.getD j []∈ks;simp[hj]
  ·obtain⟨j,hj,rfl⟩:=jx hz;have:=hup.all j hj;simpa[hj]using this
abbrev LI (X:Cx):List V->Hp->VK->Prop:=λxs H Q=>∃(l:ah) (o:Obj) (kb:KB) (ks:List (List Int)),xs=[.ref l]/\H l=some (.frz o (.own 0))/\xN X.prog X.w l o kb/\KbOk H kb ks/\(∀k∈ks,k≠[])/\(dN cP ks).length<64/\∀D vs',H D=none->TupsAre H vs' (dN cP ks)->Q (.ref D) (aQ H D (.lst vs'))
theorem Z2 {α β:Type}{f:α->β}:∀{l:List β}{l':List β},l.Perm l'->∀xs:List α,l'=xs.map f->∃ys:List α,ys.Perm xs/\l=ys.map f:=by
 intro l l' h
 induction h with
 |nil=>intro xs e;exact⟨xs,.refl _,e⟩
 |cons a _ ih=>
  intro xs e
  cases xs with
  |nil=>cases e
  |cons x xs=>simp only[cy,uv]at e;obtain⟨ys,p,e'⟩:=ih xs e.2;exact⟨x::ys,p.cons x,by simp[e.1,e']⟩
 |swap a b l=>
  intro xs e
  cases xs with
  |nil=>cases e
  |cons x xs=>
   cases xs with
   |nil=>simp at e
   |cons y xs=>simp only[cy,uv]at e;exact⟨y::x::xs,.swap ..,by simp[e.1,e.2.1,e.2.2]⟩
 |trans _ _ ih1 ih2=>intro xs e;obtain⟨ys,p,e'⟩:=ih2 xs e;obtain⟨zs,p',e''⟩:=ih1 ys e';exact⟨zs,p'.trans p,e''⟩
theorem Z3 {k:Nat}(rm:Room k X.A):CallR X (.builtin "sorted") (LI X):=by
 intro pins s σ H xs us Q I rv ⟨l,o,kb,ks,e,hl,⟨es,ep,t,hP⟩,kO,ne,h64,q⟩;subst e;obtain⟨u,rfl,ru⟩:=gD rv;cases ru;have P:=hP s.heap (I.hok l _ hl).1;have pe:(iM X.w l ep es).toList.Perm (gM X.prog X.w kb):=by rw[<-P.es];exact K9 _ _ _ _
 obtain⟨kc,pk,ek⟩:=Z2 pe kb rfl;have mem:∀i,i<kc.length->kc.getD i ([],0)∈kb:=λi hi=>pk.mem_iff.mp (by simp[hi]);have hn:(kb.map ed).length=(dN cP ks).length:=by refine List.Perm.length_eq ((ph P.nd (rG stoL (uE stoL ks))).mpr λz=>?_);rw[nM stoL];refine⟨λh=>?_,λh=>kO.all z h⟩;obtain⟨p,hp,rfl⟩:=cb.mp h;exact kO.frm p hp
 have hlen:kc.length<64:=by rw[pk.length_eq];rw[bh]at hn;omega
 have hes:es.size=kc.length:=by rw[P.size,pk.length_eq]
 have KA:KeysAt X.prog X.w s.heap kc.length (λi=>(kc.getD i ([],0)).2) (λi=>(kc.getD i ([],0)).1):=λi hi=>⟨CI I (kO.tup _ (mem i hi)),ne _ (kO.frm _ (mem i hi))⟩
 have er:(iM X.w l ep es).toList.map (·.2)=bP kc.length (λi=>(kc.getD i ([],0)).2):=by
  rw[ek,jl]
  apply List.ext_getElem (by simp[lD])
  intro i h1 h2;have hi:i<kc.length:=by simpa using h1
  simp[bP,hi]
 refine ZU hlen KA (λQ' E' hQ=>?_) λh' tk D e out so hD ho k=>?_
 ·refine ZQ (show X.A.in1.handled=none from rm.hd) P (by rw[hes,jq];omega) λh' tk kk sz=>?_;rw[er];exact hQ h' tk kk sz
 ·obtain⟨pp,vs',h1,h2,h3,h4⟩:=ZZ (H:=H) so λi hi=>kO.tup _ (mem i hi);have pm:(pp.map λi=>(kc.getD i ([],0)).1).Perm (kb.map ed):=by have:=((Z0 (d:=(([],0):List Int×ah)) h1 rfl).trans pk).map ed;rwa [jl]at this
  have nd:(pp.map λi=>(kc.getD i ([],0)).1).Nodup:=pm.nodup_iff.mpr P.nd;have rs:fH cP (pp.map λi=>(kc.getD i ([],0)).1):=by
   refine(h2.and nd).imp λ{a b} ⟨x,y⟩=>?_
   cases q:cP a b with
   |true=>rfl
   |false=>exact absurd (stoL.tot a b q x) y
  have e1:(pp.map λi=>(kc.getD i ([],0)).1)=dN cP ks:=YL stoL rs λz=>by rw[pm.mem_iff];refine⟨λh=>?_,λh=>kO.all z h⟩;obtain⟨p,hp,rfl⟩:=cb.mp h;exact kO.frm p hp
  rw[e1]at h4;refine⟨.ref D,_,I.laid (t':=tk) k hD (show ObjOk X.prog X.w _ _ _ (.lst vs') from⟨?_,out,e,h3,ho⟩),rfl,q D vs' (I.hok.fresh hD) h4⟩;rw[h4.len,jq];omega
end
def rJ:Dv->Option (List Int)
 | .tup xs=>bI jZ xs
 |_=>none
def xO (k:List Int):Dv:=.tup (k.map Dv.int)
section
variable{X:Cx}{G:Cfg}{E:XK}{k:Nat}{e a b:bj}{es:List bj}{ma mb:M Dv}{aS:M (List Dv)}{p p2 pos pos2:Pos}
theorem CJ {μ:Nat->ah}{n:Nat}{H:Hp}:∀{xs:List Dv}{vs:List V}{ks:List (List Int)},RelDL G μ n H xs vs->bI rJ xs=some ks->TupsAre H vs ks
 | [],_,ks,r,e=>by cases e;rw[RelDL]at r;subst r;trivial
 |x::xs,_,ks,r,e=>by
  rw[RelDL]at r;obtain⟨v,rr,rfl,r1,r2⟩:=r;unfold bI at e
  cases x with
  |tup ds=>
   dsimp only[rJ]at e
   cases q:bI jZ ds with
   |none=>rw[q]at e;cases e
   |some zs=>
    rw[q]at e;dsimp only at e
    cases q2:bI rJ xs with
    |none=>rw[q2]at e;cases e
    |some ys=>rw[q2]at e;cases e;rw[RelD]at r1;obtain⟨b,us,rfl,h1,h2⟩:=r1;rw[tY h2 q]at h1;exact⟨⟨b,rfl,h1⟩,CJ r2 q2⟩
  |_=>cases e
theorem LJ {μ:Nat->ah}{n:Nat}{H:Hp}:∀{vs:List V}{ks:List (List Int)},TupsAre H vs ks->RelDL G μ n H (ks.map xO) vs
 | [],[],_=>RelDL.nil
 | [],_::_,h=>h.elim
 |_::_,[],h=>h.elim
 |v::vs,k::ks,h=>by obtain⟨⟨b,rfl,e⟩,h2⟩:=h;refine RelDL.cons ?_ (LJ h2);unfold xO;rw[RelD];exact⟨b,_,rfl,e,tD k⟩
def xP (ks:List (List Int)):Bool:=ks.all λk=>!k.isEmpty
theorem Z4 {ks:List (List Int)}(h:xP ks=true):∀k∈ks,k≠[]:=λk hk e=>by have:=cu.mp h k hk;rw[e]at this;cases this
theorem Z5:dg "set" = some (.type "set"):=by decide +kernel
end
open PySem.SeqAt PySem.MeetsSeq PySem.MeetsSeq2 PySem.MeetsSeq3
section
variable{X:Cx}{G:Cfg}{E:XK}{k:Nat}{e a b o:bj}{es:List bj}{mo me ma mb:M Dv}{aS:M (List Dv)}{p p2 pos pos2 apos cpos np:Pos}{y:Str}
theorem Z6 {prog:bg}{w:cq}{A:cn}{Ee:af->ag->Prop}{s:ag}{t sl:ah}{items:Array af}{vl vu:af}{lo hi:Option Int}{Q:af->ag->Prop}(ht:IsTup s.heap t items) (hs:s.heap.IsSliceOf sl vl vu .none) (pl:tu vl lo) (pu:tu vu hi)
  (h0:HT.sIx items.size 0 lo=0) (h1:HT.sIx items.size items.size hi=items.size) (h:Q (.ref t) s):wpAny (model prog w) A (getItem (.ref t) (.ref sl)) Q Ee s:=by
 obtain⟨os,hos,hcs,hds⟩:=id hs;have hTs:s.TypeIs (.ref sl) "slice" := ⟨os,hos,hcs⟩;have tt:=ht.typeIs;obtain⟨ot,et,ct,_⟩:=id ht;unfold getItem
 try with_reducible refine ib ?_
 first|refine aa (ai ?_)|skip
 refine aa (wpAny_sequenceKey tt (by decide) (aa (gm (name:=iw "__getitem__") tt fy (gr fy tt PySem.F.entry_tuple_getitem ?_ (PySem.F.args_tuple_getitem_2 _ _)))));refine aa (m:=slotArgs "__getitem__" 1 ⟨[.ref t,.ref sl],[]⟩) (ai (aa (tupleItemsOf_ ht (aa (qh hTs ?_)))));rw[if_pos (by decide)];refine aa (HT.sliceApplied_gen hs pl pu ?_);rw[h0,h1];show wpAny _ _ (if(((0:Nat):Int)==0&&(1:Int)==1&&(items.size - 0)==items.size)=true then _ else _) _ _ s;rw[if_pos (by simp)];unfold Builtin.Tuple.tupleIsExact;refine aa (aa (qh tt (ai ?_)));rw[if_pos (by decide)];refine aa (qu (ai ⟨_,rfl,ai h⟩))
theorem Z7:SlR X (λx lo hi H Q=>∃a xs,x=.ref a/\SqT X.K H a xs/\HT.sIx xs.length 0 lo=0/\HT.sIx xs.length xs.length hi=xs.length/\Q (.ref a) H):=by
 intro pins s σ H x v vl vu lo hi sl Q I rx hs pl pu ⟨a,xs,ex,hx,h0,h1,q⟩;subst ex;cases rx;obtain⟨its,r,ht,hz⟩:=I.tuple hx;have hlen:its.toArray.size=xs.length:=by rw[au];exact r.length.symm
 exact⟨"tuple",_,fy.lookup,ht.typeIs,Z6 ht hs pl pu (by rw[hlen];exact h0) (by rw[hlen];exact h1) ⟨.ref a,H,I,rfl,q⟩⟩
def oZ (x:Dv) (lo hi:Option Int) (h:Hs):Rs Dv:=match x with
 | .ref j=>match getL h j with
  |some xs=>.ok (.ref h.length) (h++[.lst (jK xs lo hi)])
  |none=>.bad
 | .tup xs=>.ok (.tup (jK xs lo hi)) h
 |_=>.bad
theorem Z8 {xs:List Dv}{lo hi:Option Int}(h0:HT.sIx xs.length 0 lo=0) (h1:HT.sIx xs.length xs.length hi=xs.length):jK xs lo hi=xs:=by unfold jK;rw[h0,h1];simp
def dP (m:M Dv) (lo hi:MO):M Dv:=λρ h=>(m ρ h).bind λx h1=>(lo ρ h1).bind λl h2=>(hi ρ h2).bind λu h3=>oZ x l u h3
theorem lY {lo hi:Option bj}{ml mh:MO}(ho:aI X G E o mo) (hl:rC X G E lo ml) (hh:rC X G E hi mh):aI X G E (.Subscript o (.Slice lo hi none p2) pos) (dP mo ml mh):=λhK=>
 PE.imp (GG (SlR.or (SlR.or SY SK) Z7) (ho hK) (hl hK) (hh hK)) λσ H Q ⟨μ,ρ,h,rs,s,oo⟩=>cZ rs s oo λμ1 x h1 vx H1 x1 rs1 s1 r1 o1=>by
  refine⟨μ1,ρ,h1,rs1,s1,(o1.bind (R1:=λ_ _ _ a b=>b=a)).mono λl' H2 ⟨μ2,l,h2,x2,s2,el,o2⟩=>?_⟩;subst el;refine⟨μ2,ρ,h2,rs1.mono x2,s2,(o2.bind (R1:=λ_ _ _ a b=>b=a)).mono λu' H3 ⟨μ3,u,h3,x3,s3,eu,o3⟩=>?_⟩;subst eu;have r3:=RelD.mono (x2.trans x3) _ _ r1
  cases x with
  |ref j=>
   dsimp only[oZ]at o3
   cases q:getL h3 j with
   |none=>rw[q]at o3;exact o3.elim
   |some xs=>rw[q]at o3;obtain⟨vs,ea,ra⟩:=s3.ob j _ (dH q);obtain⟨_,rfl⟩:=r3;exact .inl (.inl ⟨_,vs,rfl,SqL.of ea,λp hp=>pQ s3 (JI ra _ _) hp o3⟩)
  |tup xs=>
   dsimp only[oZ]at o3;obtain⟨a,vs,rfl,ea,ra⟩:=r3
   by_cases hw:HT.sIx xs.length 0 l'=0/\HT.sIx xs.length xs.length u'=xs.length
   ·refine .inr ⟨a,vs,rfl,SqT.of ea,by rw[ra.length];exact hw.1,by rw[ra.length];exact hw.2,o3 μ3 _ _ Ext.refl s3 ?_⟩;rw[Z8 hw.1 hw.2];exact⟨a,vs,rfl,ea,ra⟩
   ·exact .inl (.inr ⟨a,vs,rfl,SqT.of ea,by rw[ra.length];exact hw,λp hp=>o3 μ3 _ _ (Ext.same (cL hp)) (s3.same (cL hp)) ⟨p,_,rfl,cK,RelDL.mono (Ext.same (cL hp)) _ _ (JI ra _ _)⟩⟩)
  |_=>exact o3.elim
def fP (x y:Dv) (h:Hs):Rs Dv:=match x,y with
 | .int i,.int j=>.ok (.bl (decide (i<j))) h
 | .tup xs,.tup ys=>match bI jZ xs,bI jZ ys with
  |some ns,some ms=>.ok (.bl (HT.lexLt ns ms)) h
  |_,_=>.bad
 |_,_=>.bad
theorem LK:∀x y:List Int,HT.lexLt x y=cP x y
 | [],[]=>rfl
 | [],_::_=>rfl
 |_::_,[]=>rfl
 |a::x,b::y=>by
  rw[HT.lexLt_cons,cP,LK x y]
  by_cases h:a=b <;> simp[h]
theorem LL:dZ G (λx y H Q=>(jQ λi j=>.bl (decide (i<j))) x y H Q∨GI G.K x y H Q) fP:=by
 intro E μ h H x y vx vy Q s rx ry o;unfold fP at o
 split at o
 ·rename_i i j;exact .inl (pS E μ h H (.int i) (.int j) vx vy Q s rx ry o)
 ·rename_i xs ys
  cases q1:bI jZ xs with
  |none=>rw[q1]at o;exact o.elim
  |some ns=>
   cases q2:bI jZ ys with
   |none=>rw[q1,q2]at o;exact o.elim
   |some ms=>rw[q1,q2]at o;obtain⟨a,us,rfl,ea,ra⟩:=rx;obtain⟨b,ws,rfl,eb,rb⟩:=ry;exact .inr ⟨a,b,ns,ms,rfl,rfl,SqT.of (by rw[ea,tY ra q1]),SqT.of (by rw[eb,tY rb q2]),o.val s rfl⟩
 ·exact o.elim
theorem LM (g:Good X G E k) (ha:aI X G E a ma) (hb:aI X G E b mb):aI X G E (.Compare a [.Lt] [b] pos) (m2 fP ma mb):=λhK=>vU (OpR.or FZ (GJ (by have:=g.room.un;omega))) (by rw[hK];exact LL) ha hb (nZ _) hK
theorem CK (g:Good X G E k) (ha:aI X G E a ma) (hb:aI X G E b mb):fY X G E (.Compare a [.Lt] [b] pos) (mB (m2 fP ma mb)):=λhK=>qU (OpR.or FZ (GJ (by have:=g.room.un;omega))) (by rw[hK];exact LL) ha hb (nZ _) hK
def iN (j:Int):List Int:=(bo j.toNat).map λk:Nat=>(k:Int)
theorem Z9:CallR X (.type "range") (λxs H Q=>∃j:Int,xs=[.int j]/\∀l,H l=none->Q (.ref l) (aQ H l (.rng 0 j))):=by intro pins s σ H xs us Q I rv ⟨j,e,q⟩;subst e;obtain⟨u,rfl,ru⟩:=gD rv;obtain⟨t,rfl⟩:=ru;refine call_range_1 ⟨.ref s.heap.objs.size,_,I.laid (t':=s.toks+1+1) (o:=.rng 0 j) (λb ob q=>aj _ q) (ak _) ⟨_,_,_,az _ rfl⟩,rfl,q _ (I.hok.fresh (ak _))⟩
theorem a9 (rm:Room k X.A):CallR X (.type "list") (λxs H Q=>∃(l:ah) (j:Int),xs=[.ref l]/\H l=some (.rng 0 j)/\0<=j/\j<=1000/\∀D,H D=none->Q (.ref D) (aQ H D (.lst ((iN j).map V.int)))):=by
 intro pins s σ H xs us Q I rv ⟨l,j,e,hl,h0,h1,q⟩;subst e;obtain⟨u,rfl,ru⟩:=gD rv;cases ru;obtain⟨t,u,v,hr⟩:=I.hok l _ hl;refine call_list_range (n:=j.toNat) (a:=0) (b:=j) (c:=1) rm.hd hr (small_one (by omega) (by omega) (by omega) (by omega)) ?_ (by omega) λh' tk acc c ke ho ia=>?_
 ·rw[rangeSize_one]
  split <;> omega
 ·have hv:Vals ((iN j).map V.int) acc.toList:=by
   have:∀(n:Nat) (as:List af),as.length=n->(∀(i:Nat) (v:af),as[i]?=some v->∃t,v=Value.int (0+(i:Int)*1) t)->Vals (((bo n).map λk:Nat=>(k:Int)).map V.int) as:=λn=>by
    induction n with
    |zero=>intro as hl _;rw[Ai.mp hl];exact .nil
    |succ n ih=>
     intro as hl hi;have hne:as≠[]:=λz=>by rw[z]at hl;cases hl
     have e:=List.dropLast_concat_getLast hne;rw[<-e,List.range_succ,jg,jg];have hlast:as[n]?=some (as.getLast hne):=by
      rw[List.getLast_eq_getElem,bc (by omega)]
      congr 2;omega
     obtain⟨t,ht⟩:=hi n _ hlast;refine Vals.append (ih as.dropLast (by simp[hl]) λi v hv=>hi i v ?_) ?_
     ·rw[List.getElem?_dropLast]at hv
      split at hv
      ·exact hv
      ·cases hv
     ·refine .cons ?_ .nil;show RelV (.int (n:Int)) _;rw[ht];exact⟨t,by simp⟩
   refine this j.toNat acc.toList (by simpa using ia.1) λi v hv=>?_;exact ia.2 i v (by simpa using hv)
  refine⟨.ref s.heap.objs.size,_,I.laid (t':=tk) ke (ak _) (show ObjOk X.prog X.w _ _ _ (.lst ((iN j).map V.int)) from⟨?_,acc.toList,c,hv, ?_⟩),rfl,q _ (I.hok.fresh (ak _))⟩
  ·rw[bh,iN,bh,jv,jq];omega
  ·rw[ho]
def rK:Dv->Hs->Rs Dv
 | .int j,h=>if(decide (0<=j)&&decide (j<=1000))=true then .ok (.ref h.length) (h++[.lst ((iN j).map Dv.int)])else .bad
 |_,_=>.bad
theorem c7 (g:Good X G E k) (hg:Gl X "list") (hm:X.mg "list" = none) (hg2:Gl X "range") (hm2:X.mg "range" = none) (ha:cY X G E [e] aS)
  (he:ao [e] X.env=[(false,eval e X.env)]:=by rfl) (he2:ao [Expr.Call (.Name "range" p2) [e] [] pos2] X.env=[(false,eval (.Call (.Name "range" p2) [e] [] pos2) X.env)]:=by rfl):
  aI X G E (.Call (.Name "list" p) [.Call (.Name "range" p2) [e] [] pos2] [] pos) (aD (f1 rK) aS):=λhK=>
 PE.imp (sO (a9 g.room) hg hm vZ (gE (sO Z9 hg2 hm2 Aq (ha hK) (by decide) (by decide) he rfl) iG he2) (by decide) (by decide) he2 rfl) λσ H Q ⟨μ,ρ,h,rs,s,o⟩=>by
  refine kK rs s o λμ1 ds h1 vs H1 x1 rs1 s1 r1 o1=>?_;unfold f1 at o1
  split at o1
  ·rename_i d;obtain⟨v,rfl,rv⟩:=tE r1
   cases d with
   |int j=>
    dsimp only[rK]at o1
    split at o1
    ·rename_i h0;rw[cf]at h0;have j0:0<=j:=by simpa using h0.1
     have j1:j<=1000:=by simpa using h0.2
     rw[RelD]at rv;subst rv;refine⟨j,rfl,λl hl=>?_⟩;have sm:=cL (o:=.rng 0 j) hl;refine⟨l,j,rfl,cK,j0,j1,λD hD=>?_⟩;exact pQ (E:=E) (s1.same sm) (tD _) hD (λμ' H' v x'=>o1 μ' H' v ((Ext.same sm).trans x'))
    ·exact o1.elim
   |_=>exact o1.elim
  ·exact o1.elim
end
section
variable{mo me:M Dv}{ml mh:MO}
end
section
variable{X:Cx}{G:Cfg}{E:XK}{k:Nat}{e a b o:bj}{es:List bj}{mo me ma mb:M Dv}{aS:M (List Dv)}{p p2 pos pos2 apos cpos np:Pos}{y:Str}
theorem sub_tuple:isSubtype (.type "tuple") (.type "set")=pure false/\isSubtype (.type "tuple") (.type "frozenset")=pure false:=by constructor <;> (rw[isSubtype_type];kernel_rfl)
abbrev LN (X:Cx):List V->Hp->VK->Prop:=λxs H Q=>∃(p:ah) (vs:List V) (ks:List (List Int)),xs=[.ref p]/\H p=some (.tup vs)/\TupsAre H vs ks/\(dN cP ks).length<=76/\∀l o kb,H l=none->xN X.prog X.w l o kb->KbOk H kb ks->Q (.ref l) (aQ H l (.frz o (.own 0)))
theorem c8 (rm:Room k X.A):CallR X (.type "set") (LN X):=by
 intro pins s σ H xs us Q I rv ⟨p,vs,ks,e,hp,ht,hU,q⟩;subst e;obtain⟨u,rfl,ru⟩:=gD rv;cases ru;obtain⟨its,rits,pl,hz⟩:=I.tuple (SqT.of hp);have hits:=LG ht rits;have lp:=I.hok.lt hp;have hI:s.heap.IsTuple p (bP ks.length (fO vs)).toArray:=by rw[<-hits];exact pl
 have hsz:(bP ks.length (fO vs)).toArray.size=ks.length:=by rw[au,lD]
 have hne:p≠s.heap.objs.size+1:=bf (jf lp);have hb:(s.heap.push (bare X.w)).IsTuple p (bP ks.length (fO vs)).toArray:=xc (items:=(bP ks.length (fO vs)).toArray) hI _;have hs1:(s.heap.push (bare X.w)).objs.size=s.heap.objs.size+1:=size_push' _ _;have W:=Bf (prog:=X.prog) (w:=X.w) (A:=X.A.in1.in1.in1) (show X.A.in1.in1.in1.handled=none from rm.hd) (s.heap.objs.size+1) p hne (bP ks.length (fO vs)).toArray;rw[hsz]at W;refine LD (T := "tuple") (it:={ cls:=.type "tuple_iterator",data:=.fields #[.ref p,.int 0 0] }) (fO vs) (λi=>ks.getD i []) (dN cP ks) (by have:=rm.un;omega) hI.typeIs sub_tuple.1 sub_tuple.2 (by decide) (λB Q' E' hQ=>?_) W (λm=>?_) (λb hb=>?_) ⟨⟨{ cls:=.type "tuple_iterator",data:=.fields #[.ref p,.int 0 0] }, ?_,rfl,rfl⟩,xc (items:=(bP ks.length (fO vs)).toArray) hb _⟩ (λi v hv=>?_) hU (λi hi=>?_) (λj hj=>CI I (ht.at_ hj).2) λh' tk kb hS hup k=>?_
 ·refine kj hb ?_;rw[<-hs1]at hQ;exact hQ
 ·rcases ay.mp m with z|m
  ·exact rn _ z.symm
  ·exact jw lp (ey.mp m)
 ·rw[ey.mp hb];exact jo _
 ·rw[<-hs1];exact az _ rfl
 ·have hi:i<ks.length:=by have:=(dh.mp hv).1;rwa [hsz]at this
  have:(bP ks.length (fO vs))[i]?=some (.ref (fO vs i)):=by simp[bP,hi]
  rw[Be,this]at hv;exact(cg hv).symm
 ·refine(nM stoL _ _).mpr ?_;show ks.getD i []∈ks;simp[hi]
 ·obtain⟨o,es,ep,t,P⟩:=hS;refine⟨.ref s.heap.objs.size,_,I.laid (t':=tk) (o:=.frz o (.own 0)) k (ak _) ⟨P.obj,o,P.obj⟩,rfl,q _ o kb (I.hok.fresh (ak _)) ⟨es,ep,t,λh e=>P.at' e⟩ ⟨λz hz=>?_,λz hz=>?_,λz hz=>?_⟩⟩
  ·obtain⟨j,hj,rfl⟩:=hup.from_ z hz;exact(ht.at_ hj).2
  ·obtain⟨j,hj,rfl⟩:=hup.from_ z hz;show ks.getD j []∈ks;simp[hj]
  ·obtain⟨j,hj,rfl⟩:=jx hz;have:=hup.all j hj;simpa[hj]using this
theorem c9 (rm:Room k X.A):CallR X (.type "set") (λxs H Q=>LH X xs H Q∨LN X xs H Q):=by
 intro pins s σ H xs us Q I rv h
 rcases h with h|h
 ·exact Z1 rm pins s σ H xs us Q I rv h
 ·exact c8 rm pins s σ H xs us Q I rv h
def pA (x:Dv) (h:Hs):Option (List (List Int)):=match x with
 | .ref i=>match getL h i with
  |some xs=>bI rJ xs
  |none=>none
 | .tup xs=>bI rJ xs
 |_=>none
def lZ (x:Dv) (h:Hs):Rs Dv:=match pA x h with
 |some ks=>if(xP ks&&decide ((dN cP ks).length<64))=true then .ok (.ref h.length) (h++[.lst ((dN cP ks).map xO)])else .bad
 |none=>.bad
theorem LO (g:Good X G E k) (hg:Gl X "sorted") (hm:X.mg "sorted" = none) (hg2:Gl X "set") (hm2:X.mg "set" = none) (ha:cY X G E [e] aS)
  (he:ao [e] X.env=[(false,eval e X.env)]:=by rfl) (he2:ao [Expr.Call (.Name "set" p2) [e] [] pos2] X.env=[(false,eval (.Call (.Name "set" p2) [e] [] pos2) X.env)]:=by rfl):
  aI X G E (.Call (.Name "sorted" p) [.Call (.Name "set" p2) [e] [] pos2] [] pos) (aD (f1 lZ) aS):=λhK=>
 PE.imp (sN (Z3 g.room) hg hm YC (gE (sO (c9 g.room) hg2 hm2 Z5 (ha hK) (by decide) (by decide) he rfl) iG he2) (by decide) (by decide) he2 rfl) λσ H Q ⟨μ,ρ,h,rs,s,o⟩=>by
  refine kK rs s o λμ1 ds h1 vs H1 x1 rs1 s1 r1 o1=>?_;unfold f1 at o1
  split at o1
  ·rename_i d;obtain⟨v,rfl,rv⟩:=tE r1;unfold lZ at o1
   cases q:pA d h1 with
   |none=>rw[q]at o1;exact o1.elim
   |some ks=>
    rw[q]at o1;dsimp only at o1
    split at o1
    ·rename_i h0;rw[cf]at h0;have h64:(dN cP ks).length<64:=by simpa using h0.2
     have fin:∀(l:ah) (o:Obj) (kb:KB),H1 l=none->xN X.prog X.w l o kb->KbOk H1 kb ks->LI X [.ref l] (aQ H1 l (.frz o (.own 0))) Q:=λl o kb hl so ko=>by have sm:=cL (o:=.frz o (.own 0)) hl;refine⟨l,o,kb,ks,rfl,cK,so,⟨λp hp=>sm _ _ (ko.tup p hp),ko.frm,ko.all⟩,Z4 h0.1,h64,λD vs' hD ht=>?_⟩;exact pQ (E:=E) (s1.same sm) (LJ ht) hD (λμ' H' v x'=>o1 μ' H' v ((Ext.same sm).trans x'))
     cases d with
     |ref i=>
      dsimp only[pA]at q
      cases q1:getL h1 i with
      |none=>rw[q1]at q;cases q
      |some xs=>rw[q1]at q;obtain⟨vs,e1,r2⟩:=s1.ob i _ (dH q1);obtain⟨_,rfl⟩:=rv;exact .inl ⟨_,vs,ks,rfl,e1,CJ r2 q,by omega,fin⟩
     |tup xs=>obtain⟨a,vs,rfl,e1,r2⟩:=rv;exact .inr ⟨_,vs,ks,rfl,e1,CJ r2 q,by omega,fin⟩
     |_=>cases q
    ·exact o1.elim
  ·exact o1.elim
abbrev CL (f:List Int->Int):List V->Hp->VK->Prop:=λxs H Q=>∃(p:ah) (ns:List Int),xs=[.ref p]/\H p=some (.tup (ns.map V.int))/\0<ns.length/\Q (.int (f ns)) H
theorem d3 (hc:X.calm=true):CallR X (.builtin "max") (CL lV):=by
 intro pins s σ H xs us Q I rv ⟨p,ns,e,hp,h0,q⟩;subst e;obtain⟨u,rfl,ru⟩:=gD rv;cases ru;obtain⟨its,rits,pl,hz⟩:=I.tuple (SqT.of hp);have hn:its.toArray.size=ns.length:=by have:=rits.length;simp at this ⊢;omega
 have lp:=I.hok.lt hp;have ht:s.heap.IsTuple p its.toArray:=pl;refine call_max_walk (kj ht ⟨_,_,_,_,_,_,_,rfl,Bf (A:=X.A.in1) (show X.A.in1.handled=none from I.ok.hd hc) _ p (bf lp) its.toArray,⟨⟨_,az _ rfl,rfl,rfl⟩,xc (items:=its.toArray) pl _⟩,λb hb=>?_,by rw[hn];exact h0,CmpOf.ints_gt (λi=>ns.getD i 0) (λi v ev=>wZ rits ev),λv h' tk ev k=>?_⟩)
 ·simp only[dz];simp at hb
  rcases hb with rfl|rfl
  ·exact jo _
  ·exact jf lp
 ·obtain⟨t',rfl⟩:=wZ rits ev;refine⟨.int (lV ns),H,(wL (tk:=tk) I k:Inv X pins σ H { s with heap:=h',toks:=tk }),⟨t', ?_⟩,q⟩;rw[hn,BV (λa b=>decide (a>b)) (λi=>ns.getD i 0)];rfl
theorem d4 (hc:X.calm=true):CallR X (.builtin "min") (CL lW):=by
 intro pins s σ H xs us Q I rv ⟨p,ns,e,hp,h0,q⟩;subst e;obtain⟨u,rfl,ru⟩:=gD rv;cases ru;obtain⟨its,rits,pl,hz⟩:=I.tuple (SqT.of hp);have hn:its.toArray.size=ns.length:=by have:=rits.length;simp at this ⊢;omega
 have lp:=I.hok.lt hp;have ht:s.heap.IsTuple p its.toArray:=pl;refine call_min_walk (kj ht ⟨_,_,_,_,_,_,_,rfl,Bf (A:=X.A.in1) (show X.A.in1.handled=none from I.ok.hd hc) _ p (bf lp) its.toArray,⟨⟨_,az _ rfl,rfl,rfl⟩,xc (items:=its.toArray) pl _⟩,λb hb=>?_,by rw[hn];exact h0,CmpOf.ints_lt (λi=>ns.getD i 0) (λi v ev=>wZ rits ev),λv h' tk ev k=>?_⟩)
 ·simp only[dz];simp at hb
  rcases hb with rfl|rfl
  ·exact jo _
  ·exact jf lp
 ·obtain⟨t',rfl⟩:=wZ rits ev;refine⟨.int (lW ns),H,(wL (tk:=tk) I k:Inv X pins σ H { s with heap:=h',toks:=tk }),⟨t', ?_⟩,q⟩;rw[hn,BV (λa b=>decide (a<b)) (λi=>ns.getD i 0)];rfl
def kC (f:List Int->Int) (x:Dv) (h:Hs):Rs Dv:=match x with
 | .tup xs=>match bI jZ xs with
  |some ns=>if 0<ns.length then .ok (.int (f ns)) h else .bad
  |none=>.bad
 |_=>.bad
theorem LP {f:List Int->Int}:jT G (λx H Q=>CL f [x] H Q) (kC f):=by
 intro E μ h H x vx Q s r o
 cases x with
 |tup xs=>
  dsimp only[kC]at o
  cases q2:bI jZ xs with
  |none=>rw[q2]at o;exact o.elim
  |some ns=>
   rw[q2]at o;dsimp only at o
   split at o
   ·rename_i h0;obtain⟨a,vs,rfl,e1,r1⟩:=r;exact⟨_,ns,rfl,by rw[e1,tY r1 q2],h0,o.val s rfl⟩
   ·exact o.elim
 |_=>exact o.elim
theorem d6 (hc:X.calm=true) (hg:Gl X "max") (hm:X.mg "max" = none) (ha:cY X G E [e] aS)
  (he:ao [e] X.env=[(false,eval e X.env)]:=by rfl):aI X G E (.Call (.Name "max" p) [e] [] pos) (aD (f1 (kC lV)) aS):=
 pU (CallR.imp (d3 hc) λxs H Q ⟨v,h1,h2⟩=>by rw[h1];exact h2) (mX LP) hg hm HJ ha (by decide) (by decide) he rfl
theorem d7 (hc:X.calm=true) (hg:Gl X "min") (hm:X.mg "min" = none) (ha:cY X G E [e] aS)
  (he:ao [e] X.env=[(false,eval e X.env)]:=by rfl):aI X G E (.Call (.Name "min" p) [e] [] pos) (aD (f1 (kC lW)) aS):=
 pU (CallR.imp (d4 hc) λxs H Q ⟨v,h1,h2⟩=>by rw[h1];exact h2) (mX LP) hg hm HK ha (by decide) (by decide) he rfl
end
theorem LQ {α β:Type}{f g:α->Option β}:∀l:List α,(∀x∈l,f x=g x)->l.filterMap f=l.filterMap g
 | [],_=>rfl
 |x::l,h=>by rw[cj,cj,h x (by simp),LQ l λy hy=>h y (by simp[hy])]
section
variable{X:Cx}{G:Cfg}{E:XK}{o:bj}{mo:M Dv}{ms:MO}{se:bj}{p2 pos:Pos}
end
open L2
def nQ (i j:Nat) (ma:M (List Dv)):MS:=λρ h=>(ma ρ h).thenS λds h1=>match ds with
 | [a,b]=>.nx ((ρ.set i (some a)).set j (some b)) h1
 |_=>.bad
section
variable{X:Cx}{G:Cfg}{E:XK}{pos:Pos}
theorem LR {i j:Nat}{x y:Str}{a b:bj}{ma:M (List Dv)}{px py pt:Pos}{kt k2 pt2} (hc:X.calm=true) (hN:X.N.Nodup) (hi:X.N[i]?=some x) (hj:X.N[j]?=some y) (hij:i≠j)
  (hx:X.env.scope.names.lookup x=some .local) (hy:X.env.scope.names.lookup y=some .local) (ha:cY X G E [a,b] ma)
  (hw:swappedStores [.Tuple [.Name x px,.Name y py] kt pt] (.Tuple [a,b] k2 pt2) X.env=pure (some [x,y]):=by rfl)
  (hs:swapsWithSole [.Tuple [.Name x px,.Name y py] kt pt] (.Tuple [a,b] k2 pt2) pos.line X.env=pure false:=by rfl):
  iV X G E (.Assign [.Tuple [.Name x px,.Name y py] kt pt] (.Tuple [a,b] k2 pt2) pos) (nQ i j ma):=λhK=>PS.imp (QJ hc hN hi hj hij hx hy (ha hK) hw hs) λD σ H ⟨μ,ρ,h,rs,s,o⟩=>
 ⟨μ,ρ,h,rs,s,(o.thenS (R:=RelDL G)).mono λvs H1 ⟨μ1,ds,h1,x1,s1,r1,o1⟩=>by
  match ds,r1,o1 with
  | [d1,d2],r1,o1=>obtain⟨v1,vs1,rfl,p,q⟩:=r1;obtain⟨v2,vs2,rfl,p',q'⟩:=q;rw[RelDL]at q';subst q';exact⟨_,_,rfl,o1 μ1 H1 _ Ext.refl s1 (((rs.mono x1).set i p).set j p')⟩
  | [],_,o1=>exact o1.elim
  | [_],_,o1=>exact o1.elim
  |_::_::_::_,_,o1=>exact o1.elim⟩
end
def pC:M Dv:=λ_ _=>.bad
def xQ (f:bj->M Dv):List bj->M (List Dv)
 | []=>aC
 |e::es=>aB (f e) (xQ f es)
def pD (lk:Str->Option Nat):Nat->bj->M Dv
 |0,_=>pC
 |n+1,e=>match e with
  | .Constant c _ _=>match c with
   | .int i=>mC (.int i)
   | .bool b=>mC (.bl b)
   | .none=>mC .non
   | .str x=>mC (.str x)
   |_=>pC
  | .Tuple es _ _=>cC (xQ (pD lk n) es)
  | .List es _=>aV (xQ (pD lk n) es)
  | .Dict [] [] _=>mC .edc
  | .Name x _=>match lk x with
   |some i=>aA i
   |none=>pC
  | .UnaryOp .USub a _=>m1 BP (pD lk n a)
  |_=>pC
def LU (e:bj):Prop:=∀es env,ao (e::es) env=(false,eval e env)::ao es env
section
variable{X:Cx}{G:Cfg}{E:XK}{lk:Str->Option Nat}
theorem xR {e:bj}:aI X G E e pC:=λ_ pins s σ H Q _ ⟨_,_,_,_,_,o⟩=>o.elim
theorem d8 {e:bj}{es:List bj}{ms:M (List Dv)}:cY X G E (e::es) (aB pC ms):=λ_ pos pins s σ H Q _ ⟨_,_,_,_,_,o⟩=>o.elim
theorem CM {f:bj->M Dv}(hf:∀e,aI X G E e (f e)/\(LU e∨f e=pC)):∀es,cY X G E es (xQ f es)
 | []=>aM
 |e::es=>by
  obtain⟨a,b|b⟩:=hf e
  ·exact aH a (CM hf es) (b es X.env)
  ·show cY X G E (e::es) (aB (f e) _);rw[b];exact d8
theorem xS (hv:∀x i pos,lk x=some i->aI X G E (.Name x pos) (aA i)):∀n e,aI X G E e (pD lk n e)/\(LU e∨pD lk n e=pC)
 |0,_=>⟨xR,.inr rfl⟩
 |n+1,e=>by
  unfold pD
  split
  ·split
   ·exact⟨aO,.inl λ_ _=>rfl⟩
   ·exact⟨gY,.inl λ_ _=>rfl⟩
   ·exact⟨qS,.inl λ_ _=>rfl⟩
   ·exact⟨eK,.inl λ_ _=>rfl⟩
   ·exact⟨xR,.inr rfl⟩
  ·exact⟨lL (CM (xS hv n) _),.inl λ_ _=>rfl⟩
  ·exact⟨eO (CM (xS hv n) _),.inl λ_ _=>rfl⟩
  ·exact⟨W9,.inl λ_ _=>rfl⟩
  ·rename_i x pos
   split
   ·rename_i i q;exact⟨hv x i pos q,.inl λ_ _=>rfl⟩
   ·exact⟨xR,.inr rfl⟩
  ·exact⟨XM (xS hv n _).1,.inl λ_ _=>rfl⟩
  ·exact⟨xR,.inr rfl⟩
theorem d9 (n:Nat) {e:bj}{m:M Dv}(h:pD (λ_=>none) n e=m:=by rfl):aI X G E e m:=h▸(xS (λ_ _ _ h=>by cases h) n e).1
end
structure SW (X:Cx) (G:Cfg) (E:XK) (st:ig) (m:MS):Prop where
 ok:iV X G E st m
structure SWs (X:Cx) (G:Cfg) (E:XK) (st:List ig) (m:MS):Prop where
 ok:jE X G E st m
section
variable{X:Cx}{G:Cfg}{E:XK}{st:ig}{rest:List ig}{m u:MS}{pos:Pos}
theorem uK (a:SW X G E st m) (b:SWs X G E rest u):SWs X G E (st::rest) (aJ m u):=⟨bB a.ok b.ok⟩
theorem e7 (a:SW X G E st m):SWs X G E [st] m:=⟨bJ a.ok⟩
end
section
variable{P:bg}{w:cq}{K:ar}{mg:Str->Option af}{base:cx}{G:Cfg}{N:List Str}{f:ah}{k:Nat}
end
section
variable{prog:bg}{w:cq}{A:cn}{E:af->ag->Prop}{s:ag}
end
section
variable{X:Cx}{G:Cfg}{E:XK}{k:Nat}{e:bj}{aS:M (List Dv)}{p p2 pos pos2:Pos}
end
section
variable{prog:bg}{w:cq}{A:cn}{E:af->ag->Prop}{s:ag}{z TI TO i j u v T:ah}{xs ys:List af}{st su:Nat->cx->Prop}{f1:Bool}
end
section
variable{X:Cx}{pins:List (ah×Obj)}{σ:St}{H:Hp}{s:ag}{B:cn}{z TI TO i j t u:ah}{vs ws:List V}{n:Nat}
end
section
variable{X:Cx}{pins:List (ah×Obj)}{σ:St}{B:cn}{z TI TO i j t u S:ah}{vs ws:List V}{H0:Hp}
end
section
variable{X:Cx}{G:Cfg}{E:XK}{a b:bj}{ta:TA}{ms:M (List Dv)}{p p2 pos pos2:Pos}
end
section
variable{prog:bg}{w:cq}{A:cn}{Ee:af->ag->Prop}{s:ag}
end
section
variable{X:Cx}{G:Cfg}{E:XK}{k:Nat}{e:bj}{aS:M (List Dv)}{p p2 pos pos2:Pos}
end
section
variable{prog:bg}{w:cq}{A:cn}{I S:ah}{fp wr:List ah}{n:Nat}{P:Nat->af->Prop}{St:Nat->cx->Prop}{R:yk->ag->Prop}{ky:Nat->Int}{d:af}
end
section
variable{X:Cx}{G:Cfg}{E:XK}{e:bj}{ml:M (List Dv)}{p pos kpos:Pos}
end
section
variable{X:Cx}{G:Cfg}{E:XK}{o i o' i' e:bj}{me mo mi mo' mi':M Dv}{pos spos spos' tpos:Pos}{kt:Nat}
end
section
variable{X:Cx}{G:Cfg}{E:XK}{e:bj}{aS:M (List Dv)}{p pos:Pos}
end
section
variable{X:Cx}{G:Cfg}{E:XK}{e:bj}{me:M Dv}{pos pos':Pos}{i:Nat}{x:Str}
theorem cJ (hN:X.N.Nodup) (hi:X.N[i]?=some x:=by rfl) (hx:mR X.env.scope x:=by first|exact .inl rfl|exact .inr rfl) (hf:X.fn x=true∨X.env.scope.names.lookup x=some .local:=by first|exact .inl rfl|exact .inr rfl|assumption):mZ X G (.Name x pos) (aF i):=US hN hi hx hf
theorem cB (hN:X.N.Nodup) (he:aI X G E e me) (hi:X.N[i]?=some x:=by rfl) (hx:mR X.env.scope x:=by first|exact .inl rfl|exact .inr rfl) (hs:swapsWith e (some (.Name x pos')) pos.line X.env=pure false:=by rfl) (hf:X.fn x=true∨X.env.scope.names.lookup x=some .local:=by first|exact .inl rfl|exact .inr rfl|assumption):iV X G E (.Assign [.Name x pos'] e pos) (aK me (aF i)):=HW hN hi hx he hs hf
theorem iY {sc os:gw}{oN N:List Str}{cap:List (Option Nat)}(hs:X.env.scope.names=os.names:=by rfl) (hN:X.N=oN:=by rfl) (h1:sc.kind=.function:=by rfl) (h2:∀p∈sc.names,p.2=.local->sc.names.lookup p.1=some .local:=by decide +kernel) (h3:cap.length=N.length:=by rfl)
  (h4:∀p∈sc.names,p.2=.free->os.names.lookup p.1=some .cell∨os.names.lookup p.1=some .free:=by decide +kernel) (h5:∀p∈sc.names,p.2=.free->(p.1,di)∉sc.names:=by decide +kernel) (h6:∀q∈cap.zip N,∀j∈q.1,oN[j]?=some q.2/\sc.names.lookup q.2=some .free:=by decide +kernel):CapOk X sc N cap:=XJ hs hN h1 h2 h3 h4 h5 h6
end
theorem dQ {N P:List Str}{sc:gw}(h1:sc.kind=.function:=by rfl) (h2:sc.isCoroutine=false:=by rfl) (h3:sc.isGenerator=false:=by rfl) (h4:N.Nodup:=by decide +kernel) (h5:N.take P.length=P:=by rfl) (h6:∀x∈P,sc.names.lookup x=some .local∨sc.names.lookup x=some .cell:=by decide +kernel) (h7:∀y∈sc.names,y.2≠.free:=by decide +kernel):FnScope N P sc:=⟨h1,h2,h3,h4,h5,h6,h7⟩
theorem bZ {k:Nat}{f:ah}{X:Cx}{G:Cfg}{E:XK}{F:List Dv->Hs->Rs Dv}{ps:List Str}{fd:bu}{x:Str}{p pos:Pos}{e:bj}{es:List bj}{ms:M (List Dv)}{j:Nat}(g:Good X G E k) (Fn:FnOk X.prog X.w X.K X.mg X.base (bO X.prog X.w X.base) j f fd ps (cR G F))
  (hm:X.mg x=some (.ref f)) (hk:km X.K (.ref f)=true) (hb:Binds X.K fd ps []) (ha:cY X G E (e::es) ms) (hj:j<=k:=by decide) (hg:Gl X x:=by exact rfl)
  (hdb:(x==("__debug__" : Str))=false:=by decide) (he:ao (e::es) X.env=(false,eval e X.env)::ao es X.env:=by rfl) (hpl:(backTo pos (ao es X.env)).any (·.1)=false:=by rfl):
  aI X G E (.Call (.Name x p) (e::es) [] pos) (aD F ms):=IG g Fn hj hg hm hk hb ha hdb he hpl
open PySem.W in
theorem dR {F:List (Frag->Bool)}{K:Frag}{l m:List (Option bu)}(hf:l=m) (hc:F.all (λf=>f K)=true) (f:ah) (st:ig) (n:Str) (c:ah) (ps:List Str) (i j k:Nat)
  (hb:∀(kV doc pm:af) (an:Option ah) (cdv ct:af) (us:List af),us.length=ps.length->bindArgs (fnOf n n (oD st) (jR st) (bA st) .none kV doc pm an cdv ct) ⟨us,[]⟩=pure (ps.zip us))
  (h1:l[i]?=some (cW K f):=by rfl) (h2:m[i]?=some (some (fnOf n n (oD st) (jR st) (bA st) .none .none .none .none none (.ref c) .none)):=by rfl) (h3:F[j]?=some (codeIn · (.ref c) n):=by rfl) (h4:F[k]?=some (keepIn · (.ref f)):=by rfl):
  ∃fd:bu,Fun K n n st f fd/\Binds K fd ps []/\fd.code=.ref c/\∀us:List af,us.length=ps.length->bindArgs fd ⟨us,[]⟩=pure (ps.zip us):=XI (OO hf i h1 h2) (mP hc j h3) (mP hc k h4) hb
end L2.Mr
namespace L2.Mr.Com
open PySem PySem.Spec PyProof.Rows L2 L2.Mr
def CN:MS:=(aL (cT (m1 (aU oV) (aA 0)) (m1 mV (m1 (aU kW) (aA 0)))))
def F_qy:List Dv->Hs->Rs Dv:=aZ 1 1 (CN)
def xT:MS:=(aL (cT (aD F_qy (aB (aA 0) aC)) (iS hV hV (aA 1) (aA 0) (aA 2))))
def F_qm:List Dv->Hs->Rs Dv:=aZ 3 3 (xT)
def LV:MS:=(aL (mL kQ (cD (aS oQ (aB (aA 0) (aB (dP (aA 0) (bY (mC (.int 1))) cE) aC))) [none,none] (cM 2 (bG (aF 0) (bG (aF 1) cO))) dJ (bX (m2 fP (aA 0) (aA 1))))))
def F_qv:List Dv->Hs->Rs Dv:=aZ 1 1 (LV)
def CO:MS:=(aL (aD F_qm (aB (aA 1) (aB (mC (.int 0)) (aB (m2 nF (aA 0) (mC (.int 1))) aC)))))
def F_qx:List Dv->Hs->Rs Dv:=aZ 2 2 (CO)
def xU:MS:=(aL (cT (m1 (aU fG) (aA 1)) (mL kQ (cD (bQ eF (aA 1)) [none,some 0] (aF 0) dJ (bX (aD F_qx (aB (aA 1) (aB (aA 0) aC))))))))
def F_ql:List Dv->Hs->Rs Dv:=aZ 2 2 (xU)
def rL:MS:=(aL (cT (aD F_ql (aB (aA 0) (aB (aA 1) aC))) (m2 bN (aD (f1 dE) (aB (aA 1) aC)) (mC (.int 2)))))
def F_qz:List Dv->Hs->Rs Dv:=aZ 2 2 (rL)
def CP:MS:=(aL (mL kQ (cD (bQ eF (aA 1)) [none,some 0] (aF 0) dJ (bX (aD F_qz (aB (aA 1) (aB (aA 0) aC)))))))
def F_qt:List Dv->Hs->Rs Dv:=aZ 2 2 (CP)
def LW:MS:=(aL (mL tM (cD (bQ eF (aA 0)) [none,none] (cM 2 (bG (aF 0) (bG (aF 1) cO))) dJ (bX (m2 bN (aA 0) (aA 1))))))
def F_qu:List Dv->Hs->Rs Dv:=aZ 1 1 (LW)
def LX:MS:=(aL (mL kQ (cD (bQ eF (aA 0)) [none,none,none,none,some 0] (cM 2 (bG (aF 0) (bG (aF 1) cO))) dJ (nB (bQ eF (aA 4)) (cM 2 (bG (aF 2) (bG (aF 3) cO))) (mB (m2 bN (aA 1) (aA 2))) (bX (m2 (qE false) (cC (aB (aA 0) (aB (aA 3) aC))) (aA 4)))))))
def F_qh:List Dv->Hs->Rs Dv:=aZ 1 1 (LX)
def qH:MS:=(aJ (aR (bF (bE (aT (m1 (aU fG) (aA 0)))) (mB (m2 bC (aD (f1 dE) (aB (aA 0) aC)) (mC (.int 2))))) (aL (mC (.bl false))) aX) (aJ (aK (aA 0) (cM 2 (bG (aF 1) (bG (aF 2) cO)))) (aJ (aR (bF (bE (aT (aD F_qm (aB (aA 1) (aB (mC (.int 1)) (aB (mC (.int 6)) aC)))))) (bE (aT (m1 (aU fG) (aA 2))))) (aL (mC (.bl false))) aX) (aJ (aR (bF (bE (aT (aD F_qt (aB (aA 1) (aB (aA 2) aC))))) (bE (aT (aD F_qv (aB (aA 2) aC))))) (aL (mC (.bl false))) aX) (aL (cT (m1 mV (aD F_qu (aB (aA 2) aC))) (aD F_qh (aB (aA 2) aC))))))))
def F_qw:List Dv->Hs->Rs Dv:=aZ 1 3 (qH)
def xV (scr:List Int):MS:=(aJ (aR (mB (m2 fP (aA 1) (aD (f1 (iU scr)) (aB (aA 0) aC)))) (aL (m2 (gI scr) (aA 0) (aA 1))) aX) (aL (mC (.int 0))))
def F_qe (scr:List Int):List Dv->Hs->Rs Dv:=aZ 2 2 (xV scr)
def xW (scr:List Int):MS:=(aJ (aK (aD (F_qe scr) (aB (aA 0) (aB (aA 1) aC))) (aF 2)) (aJ (aR (mB (m2 oU (aA 2) (m2 tU (mC (.int 10)) (mC (.int 18))))) (aL (aV (aB (m2 nF (aA 2) (m2 tU (mC (.int 10)) (mC (.int 18)))) (aB (mC (.bl true)) aC)))) aX) (aL (aV (aB (m2 iC (aA 2) (mC (.int 2147483647))) (aB (mC (.bl false)) aC))))))
def F_qj (scr:List Int):List Dv->Hs->Rs Dv:=aZ 2 3 (xW scr)
def CQ:MS:=(aJ (aR (aT (m2 aN (aA 0) (mC (.int 1)))) (aJ (aK (m2 iC (m2 aN (aA 0) (mC (.int 0))) (aA 1)) (aF 2)) (aJ (tP (aA 0) (mC (.int 0)) (m2 uA (m2 aN (aA 0) (mC (.int 0))) (aA 1))) (aL (aA 2)))) aX) (aJ (tP (aA 0) (mC (.int 0)) (m2 iC (m2 bD (m2 qC (m2 aN (aA 0) (mC (.int 0))) (mC (.int 48271))) (mC (.int 29))) (mC (.int 2147483647)))) (aJ (aK (m2 iC (m2 bD (m2 bD (m2 qC (m2 aN (aA 0) (mC (.int 0))) (m2 aN (aA 0) (mC (.int 0)))) (m2 qC (mC (.int 39373)) (m2 aN (aA 0) (mC (.int 0))))) (mC (.int 7))) (mC (.int 2147483629))) (aF 3)) (aJ (aK (m2 iC (m2 bD (m2 qC (aA 3) (aA 3)) (m2 qC (mC (.int 16807)) (aA 3))) (mC (.int 2147483587))) (aF 3)) (aL (m2 iC (m2 uA (aA 3) (mC (.int 8))) (aA 1)))))))
def F_qs:List Dv->Hs->Rs Dv:=aZ 2 4 (CQ)
def CS:MS:=(aJ (aK (aD (f1 iD) (aB (aA 1) aC)) (aF 2)) (aJ (aK (aV aC) (aF 3)) (aJ (iJ (mB (m2 bC (aA 2) (aV aC))) (fU (kR (aA 3) (tT (aA 2) (aD F_qs (aB (aA 0) (aB (aD (f1 dE) (aB (aA 2) aC)) aC)))))) 40) (aL (aA 3)))))
def F_qa:List Dv->Hs->Rs Dv:=aZ 2 4 (CS)
def iZ:MS:=(aJ (aK (aD (f1 lZ) (aB (aA 0) aC)) (aF 1)) (iJ (aT (mC (.bl true))) (aJ (aK (aD (f1 iD) (aB (aA 1) aC)) (aF 2)) (aJ (eS (bQ eE (aA 1)) (cM 2 (bG (aF 3) (bG (aF 4) cO))) (fU (pZ (aA 2) (cD (bQ eE (aA 1)) [none,none,some 3,some 4] (cM 2 (bG (aF 0) (bG (aF 1) cO))) (mB (m2 bN (aA 3) (aA 0))) (bX (cC (aB (aA 2) (aB (aA 1) aC)))))))) (aJ (aK (aD (f1 lZ) (aB (aA 2) aC)) (aF 2)) (aJ (aR (mB (m2 bN (aA 2) (aA 1))) (aL (aA 1)) aX) (aK (aA 2) (aF 1)))))) 40))
def F_qg:List Dv->Hs->Rs Dv:=aZ 1 5 (iZ)
def jA:MS:=(aJ (aK (m2 nF (aA 1) (m2 aN (aV (aB (mC (.int 0)) (aB (mC (.int 0)) (aB (mC (.int 1)) (aB (mC (.int 2)) (aB (mC (.int 0)) (aB (mC (.int 3)) (aB (mC (.int 1)) (aB (mC (.int 4)) aC))))))))) (aD F_qs (aB (aA 0) (aB (mC (.int 8)) aC))))) (aF 2)) (aJ (aK (aD mY (aB (mC (.int 1)) (aB (aA 2) aC))) (aF 2)) (aJ (aK (aD F_qa (aB (aA 0) (aB (aD (f1 rK) (aB (aA 2) aC)) aC))) (aF 3)) (aJ (aK (aD F_qs (aB (aA 0) (aB (mC (.int 5)) aC))) (aF 4)) (aJ (aK (aV aC) (aF 5)) (aJ (aK (dG (cD (bQ eE (aA 3)) [none,some 0] (aF 0) dJ (bX (aD F_qs (aB (aA 1) (aB (mC (.int 3)) aC)))))) (aF 6)) (aJ (eS (aS fK (aB (aA 2) aC)) (aF 7) (eS (aS pW (aB (m2 bD (aA 7) (mC (.int 1))) (aB (aA 2) aC))) (aF 8) (aJ (aK (aV (aB (m2 bN (aD F_qs (aB (aA 0) (aB (mC (.int 6)) aC))) (mC (.int 0))) (aB (m2 bN (aD F_qs (aB (aA 0) (aB (mC (.int 2)) aC))) (mC (.int 0))) (aB (m2 wX (aD F_qs (aB (aA 0) (aB (mC (.int 4)) aC))) (mC (.int 0))) aC)))) (aF 9)) (aJ (aK (m2 bD (aA 9) (aV (aB (m2 fP (m2 aN (aA 6) (aA 7)) (m2 aN (aA 6) (aA 8))) (aB (m2 bN (m2 aN (aA 6) (aA 7)) (m2 aN (aA 6) (aA 8))) aC)))) (aF 9)) (aR (aT (m2 aN (aA 9) (aA 4))) (fU (kR (aA 5) (cC (aB (m2 aN (aA 3) (aA 7)) (aB (m2 aN (aA 3) (aA 8)) aC))))) aX))))) (aJ (aR (mB (m2 bN (aA 4) (mC (.int 3)))) (aJ (aK (aV aC) (aF 5)) (eS (aS fK (aB (aA 2) aC)) (aF 7) (aK (m2 bD (aA 5) (dG (cD (aS fK (aB (aA 2) aC)) [none,some 7,some 6] (aF 0) (mB (m2 fP (m2 aN (aA 2) (aA 1)) (m2 aN (aA 2) (aA 0)))) (bX (cC (aB (aA 1) (aB (aA 0) aC))))))) (aF 5)))) aX) (aL (cC (aB (aA 2) (aB (aD (f1 iH) (aB (aD F_qg (aB (aA 5) aC)) aC)) aC))))))))))))
def F_qi:List Dv->Hs->Rs Dv:=aZ 2 10 (jA)
def xX (Fs:List Dv->Hs->Rs Dv):MS:=(aJ (aR (aT (m1 (aU tX) (aA 1))) (aJ (aR (bF (mB (m2 bC (m1 (aU fG) (aA 0)) (m1 (aU fG) (aA 1)))) (mB (m2 bC (m1 (aU tW) (aA 0)) (m1 (aU tW) (aA 1))))) (aL (mC (.bl false))) aX) (aJ (aR (mB (m2 bC (aD (f1 dE) (aB (aA 0) aC)) (aD (f1 dE) (aB (aA 1) aC)))) (aL (mC (.bl false))) aX) (aL (mL kQ (cD (aS oQ (aB (aA 0) (aB (aA 1) aC))) [none,none] (cM 2 (bG (aF 0) (bG (aF 1) cO))) dJ (bX (aD Fs (aB (aA 0) (aB (aA 1) aC))))))))) aX) (aL (cT (m2 bN (aA 0) (aA 1)) (m2 bN (m1 (aU kW) (aA 0)) (m1 (aU kW) (aA 1))))))
def F_qr:Nat->List Dv->Hs->Rs Dv
 |0=>λ_ _=>.bad
 |n+1=>aZ 2 2 (xX (F_qr n))
end L2.Mr.Com
namespace L2.Mr
open PySem PySem.Spec PyProof.Rows L2
section
variable{X:Cx}{G:Cfg}{E:XK}{a b e o:bj}{ma mb me mo:M Dv}{pos p cpos apos:Pos}
def cH:Dv->Dv->Hs->Rs Dv
 | .str x,.str y,h=>lim (x.length+y.length) (.ok (.str (x++y)) h)
 |_,_,_=>.bad
theorem h8:dZ G (λx y H Q=>∃i j,x=.str i/\y=.str j/\i.length+j.length<=bp/\Q (.str (i++j)) H) cH:=by
 intro E μ h H x y vx vy Q s rx ry o
 cases x with
 |str i=>
  cases y with
  |str j=>
   dsimp only[cH]at o;unfold lim at o
   split at o
   ·rename_i hl;exact⟨i,j,rx,ry,kL hl,o.val s rfl⟩
   ·exact o.elim
  |_=>exact o.elim
 |_=>exact o.elim
theorem jB (ha:aI X G E a ma) (hb:aI X G E b mb):aI X G E (.BinOp a .Add b pos) (m2 cH ma mb):=pR RN h8 ha hb
def bT:Dv->Dv->Hs->Rs Dv
 | .str z,.int i,h=>match fS z.cps.toList i with
  |some c=>lim z.length (.ok (.str ⟨#[c]⟩) h)
  |none=>.bad
 |_,_,_=>.bad
theorem h9:dZ G AR bT:=by
 intro E μ h H x y vx vy Q s rx ry o
 cases x with
 |str z=>
  cases y with
  |int i=>
   dsimp only[bT]at o
   cases q:fS z.cps.toList i with
   |none=>rw[q]at o;exact o.elim
   |some c=>
    rw[q]at o;dsimp only at o;unfold lim at o
    split at o
    ·rename_i hl;exact⟨z,i,c,rx,ry,kL hl,q,o.val s rfl⟩
    ·exact o.elim
  |_=>exact o.elim
 |_=>exact o.elim
theorem jL (ha:aI X G E a ma) (hb:aI X G E b mb) (hs:sP b:=by intro _ _;rfl):aI X G E (.Subscript a b pos) (m2 bT ma mb):=λhK=>PE.imp (AQ GO (ha hK) (hb hK) hs) λ_ _ _ t=>qT h9 t
def fF:Dv->Hs->Rs Dv
 | .str z,h=>lim z.length (.ok (.int z.length) h)
 |_,_=>.bad
theorem i5:jT G (λx H Q=>∃z,x=.str z/\z.length<=bp/\Q (.int z.length) H) fF:=by
 intro E μ h H d v Q s r1 o
 cases d with
 |str z=>
  dsimp only[fF]at o;unfold lim at o
  split at o
  ·rename_i hl;exact⟨z,r1,kL hl,o.val s rfl⟩
  ·exact o.elim
 |_=>exact o.elim
theorem uL {es:List bj}{aS:M (List Dv)}(hg:Gl X "len") (hm:X.mg "len" = none) (ha:cY X G E (e::es) aS)
  (he:ao (e::es) X.env=(false,eval e X.env)::ao es X.env:=by rfl) (hpl:(backTo pos (ao es X.env)).any (·.1)=false:=by rfl):aI X G E (.Call (.Name "len" p) (e::es) [] pos) (aD (f1 fF) aS):=λhK=>
 pU (CallR.imp (RS (X:=X)) λxs H Q ⟨v,h1,z,h2,h3,h4⟩=>⟨v,z.length,h1,by subst h2;exact⟨h3,rfl⟩,h4⟩) (mX i5) hg hm wz ha (by decide) (by decide) he hpl hK
def eI:Dv->Hs->Rs Dv
 | .int i,h=>if i.natAbs.log2<1920 then .ok (.str (iw (toString i))) h else .bad
 |_,_=>.bad
theorem LY:jT G (λx H Q=>∃i,x=.int i/\i.natAbs.log2<1920/\Q (.str (iw (toString i))) H) eI:=by
 intro E μ h H d v Q s r1 o
 cases d with
 |int i=>
  dsimp only[eI]at o
  split at o
  ·rename_i hl;exact⟨i,r1,hl,o.val s rfl⟩
  ·exact o.elim
 |_=>exact o.elim
theorem CT {es:List bj}{aS:M (List Dv)}(hg:Gl X "str") (hm:X.mg "str" = none) (ha:cY X G E (e::es) aS)
  (he:ao (e::es) X.env=(false,eval e X.env)::ao es X.env:=by rfl) (hpl:(backTo pos (ao es X.env)).any (·.1)=false:=by rfl):aI X G E (.Call (.Name "str" p) (e::es) [] pos) (aD (f1 eI) aS):=λhK=>
 wC (CallR.imp (RQ (X:=X)) λxs H Q ⟨v,h1,i,h2,h3,h4⟩=>⟨i,by rw[h1,h2],h3,h4⟩) (mX LY) hg hm JO ha (by decide) (by decide) he hpl hK
theorem CU {x:Str}{z:Str}{t:Tok}(hg:Gl X x) (hm:X.mg x=some (.str z t)) (hd:(x==("__debug__" : Str))=false:=by decide):aI X G E (.Name x pos) (mC (.str z)):=λ_=>PE.imp (AB (v:=.str z) hg hm ⟨t,rfl⟩ hd) λσ H Q ⟨μ,ρ,h,rs,s,o⟩=>o.val s (show RelD G μ _ H (.str z) (.str z) from rfl)
theorem CV (ha:aI X G E a ma):aI X G E (.FormattedValue a (-1) none pos) (m1 eI ma):=λhK pins s σ H Q I ⟨μ,ρ,h,rs,sm,o⟩=>by refine FormattedValue_plain (aW (ha hK pins s σ H _ I (cZ rs sm o λμ1 d h1 v H1 x1 rs1 s1 r1 o1=>(LY E μ1 h1 H1 d v Q s1 r1 o1:∃i,v=.int i/\_/\_))) λu s1 ⟨v,H1,I1,r1,i,hv,hl,q⟩=>?_);subst hv;obtain⟨t,rfl⟩:=r1;exact formatField_int_small hl ⟨.str _,H1,I1.tok _,⟨_,rfl⟩,q⟩
def jM:List (M Dv)->Str->M Dv
 | [],acc=>λρ h=>lim acc.length (.ok (.str acc) h)
 |m::ms,acc=>λρ h=>(m ρ h).bind λd h1=>match d with
  | .str z=>if acc.length+z.length<=1000000 then jM ms (acc++z) ρ h1 else .bad
  |_=>.bad
def PJ (X:Cx) (es:List bj) (acc:Str) (t:TE):Prop:=∀(pins:List (ah×Obj)) (s:ag) (σ:St) (H:Hp) (Q:VK),Inv X pins σ H s->t σ H Q->wpAny (model X.prog X.w) X.A (joinParts acc (evalEach es X.env)) (EP X pins σ Q) X.xe s
def xY (X:Cx) (G:Cfg) (E:XK) (es:List bj) (ms:List (M Dv)):Prop:=X.K=G.K->∀acc,PJ X es acc (gH G E (jM ms acc))
theorem LZ:xY X G E [] []:=λhK acc pins s σ H Q I ⟨μ,ρ,h,rs,sm,o⟩=>by
 unfold jM lim at o
 split at o
 ·rename_i hl;exact joinParts_nilE (joinParts_nil ⟨.str acc,H,I.tok _,⟨_,rfl⟩,o.val sm rfl⟩ (kL hl))
 ·exact o.elim
theorem rM {es:List bj}{ms:List (M Dv)}(ha:aI X G E a ma) (hs:xY X G E es ms) (he:evalEach (a::es) X.env=eval a X.env::evalEach es X.env:=by rfl):xY X G E (a::es) (ma::ms):=λhK acc pins s σ H Q I ⟨μ,ρ,h,rs,sm,o⟩=>by
 rw[he,joinParts.eq_2];refine aa (aW (ha hK pins s σ H (λv H1=>∃z,v=.str z/\acc.length+z.length<=bp/\gH G E (jM ms (acc++z)) σ H1 Q) I (cZ rs sm o λμ1 d h1 v H1 x1 rs1 s1 r1 o1=>?_)) λu s1 ⟨v,H1,I1,r1,z,hv,hl,q⟩=>?_)
 ·cases d with
  |str z=>
   dsimp only at o1
   split at o1
   ·rename_i hl;exact⟨z,r1,kL hl,μ1,ρ,h1,rs1,s1,o1⟩
   ·exact o1.elim
  |_=>exact o1.elim
 ·subst hv;obtain⟨t,rfl⟩:=r1;refine aa (show wpAny _ _ (pure (some z)) _ _ _ from ai ?_);have hn:¬ (acc.length+z.length>bp):=by omega
  simp only[hn,if_false];exact hs hK (acc++z) pins s1 σ H1 Q I1 q
theorem L0 {b:bj}{es:List bj}{ms:List (M Dv)}(h:xY X G E (a::b::es) ms) (he:evalEach (a::b::es) X.env=eval a X.env::eval b X.env::evalEach es X.env:=by rfl):aI X G E (.JoinedStr (a::b::es) pos) (jM ms oi):=λhK pins s σ H Q I t=>by have z:=h hK oi pins s σ H Q I t;rw[he]at z;exact JoinedStr_many z
theorem CW {id:String}{name:Str}{r:V->List V->Hp->VK->Prop}{to:TE}{t:TA}(slot:Slot "str" name id) (hty:typeOf (.builtin id)=pure (.type "method_descriptor")) (hm:sQ X id r) (ho:PE X o to) (ha:PA X [e] t)
  (hbase:attributeBase o name X.env (eval o X.env)=eval o X.env)
  (hfew:((backTo cpos (ao [e] X.env)).all (λx=>!x.1)&&(backToKw cpos (keywordEach [] X.env)).all (λx=>x.1.isSome)
   && decide ([e].length+([]:List Keyword).length+(if([]:List Keyword).isEmpty then 0 else 1)<30))=true)
  (hline:(apos.endLine==cpos.line)=true) (hs:ao [e] X.env=[(false,eval e X.env)]):
  PE X (.Call (.Attribute o name apos) [e] [] cpos) (λσ H Q=>to σ H λx H1=>(∃z,x=.str z)/\t σ H1 λxs H2=>r x xs H2 Q):=by
 intro pins s σ H Q I h;refine wpAny_Call_method_late hbase hfew hline rfl (aW (ho pins s σ H _ I h) λv s1 ⟨x,H1,I1,r1,⟨z,ex⟩,q1⟩=>?_);subst ex;obtain⟨tk,rfl⟩:=r1;refine⟨"str",id,PySem.F.plainAttrs_str,slot,hty,Aw s1 z tk,(λb eb=>by cases eb), ?_⟩;have hA:=ha cpos pins s1 σ H1 _ I1 q1;rw[hs]at hA ⊢;exact Ah (by rfl) (tj (aW hA λus s2 ⟨vs,H2,I2,r2,q2⟩=>hm pins s2 σ H2 (.str z) vs (.str z tk) us Q I2 ⟨tk,rfl⟩ r2 q2))
theorem i7:sQ X "str.find" (λx xs H Q=>∃z y,x=.str z/\xs=[.str y]/\Q (.int (vj z y)) H):=by intro pins s σ H x xs v us Q I rx rv ⟨z,y,e1,e2,q⟩;subst e1;subst e2;obtain⟨t,rfl⟩:=rx;obtain⟨u,rfl,ru⟩:=gD rv;obtain⟨t',rfl⟩:=ru;exact PySem.W.KXw.find rfl λt'' k=>⟨.int _,H,I.tok _,⟨_,rfl⟩,q⟩
theorem L6:∀{ys:List Str}{us:List af},Vals (ys.map V.str) us->StrsAre us ys
 | [],_,h=>by cases h;exact .nil
 |y::ys,_,h=>by
  cases h with
  |cons r rs=>obtain⟨t,rfl⟩:=r;exact .cons y t (L6 rs)
theorem j3:sQ X "str.join" (λx xs H Q=>∃z a ys,x=.str z/\xs=[.ref a]/\H a=some (.lst (ys.map V.str))/\(ys.map λx=>x.length).sum+ys.length*z.length<=16777216/\Q (.str (vk z ys)) H):=by intro pins s σ H x xs v us Q I rx rv ⟨z,a,ys,e1,e2,ha,hl,q⟩;subst e1;subst e2;obtain⟨t,rfl⟩:=rx;obtain⟨u,rfl,ru⟩:=gD rv;cases ru;obtain⟨its,r,pl,hz⟩:=I.list (SqL.of ha);exact join_list pl.isList (by simpa using L6 r) hl λt'' k=>⟨.str _,H,I.tok _,⟨_,rfl⟩,q⟩
def pE:Dv->Option Str
 | .str z=>some z
 |_=>none
def j4 (x:Dv):Bool:=match x with
 | .str _=>true
 |_=>false
def iE (x y:Dv) (h:Hs):Rs Dv:=match x,y with
 | .str z,.str w=>.ok (.int (vj z w)) h
 |_,_=>.bad
def iF (x y:Dv) (h:Hs):Rs Dv:=match x,y with
 | .str z,.ref i=>match getL h i with
  |some ds=>match bI pE ds with
   |some ys=>if(ys.map λx=>x.length).sum+ys.length*z.length<=16777216 then .ok (.str (vk z ys)) h else .bad
   |none=>.bad
  |none=>.bad
 |_,_=>.bad
def cI (f:Dv->Dv->Hs->Rs Dv) (mo me:M Dv):M Dv:=λρ h=>(mo ρ h).bind λx h1=>if j4 x=true then(me ρ h1).bind λd h2=>f x d h2 else .bad
theorem L7 {μ:Nat->ah}{n:Nat}{H:Hp}:∀{ds:List Dv}{vs:List V}{ys:List Str},RelDL G μ n H ds vs->bI pE ds=some ys->vs=ys.map V.str
 | [],_,ys,h,q=>by rw[RelDL]at h;subst h;cases q;rfl
 |d::ds,_,ys,h,q=>by
  rw[RelDL]at h;obtain⟨v,r,rfl,h1,h2⟩:=h
  cases d with
  |str z=>
   simp only[bI,pE]at q
   cases q2:bI pE ds with
   |none=>rw[q2]at q;cases q
   |some zs=>rw[q2]at q;cases q;rw[RelD]at h1;subst h1;rw[L7 h2 q2];rfl
  |_=>simp[bI,pE]at q
theorem CY (ho:aI X G E o mo) (he:aI X G E e me) (hb:attributeBase o "find" X.env (eval o X.env)=eval o X.env:=by rfl) (hs:ao [e] X.env=[(false,eval e X.env)]:=by rfl) (hl:(apos.endLine==cpos.line)=true:=by rfl):aI X G E (.Call (.Attribute o "find" apos) [e] [] cpos) (cI iE mo me):=λhK=>
 PE.imp (CW PySem.F.slot_str_find PySem.F.type_str_find i7 (ho hK) (gE (he hK) iG hs) hb (by rw[hs];rfl) hl hs) λσ H Q ⟨μ,ρ,h,rs,s,oo⟩=>cZ rs s oo λμ1 x h1 vx H1 x1 rs1 s1 r1 o1=>by
  split at o1
  ·rename_i hl
   cases x with
   |str z=>
    rw[RelD]at r1;subst r1;refine⟨⟨z,rfl⟩,cZ rs1 s1 o1 λμ2 d h2 vd H2 x2 rs2 s2 r2 o2=>?_⟩
    cases d with
    |str w=>rw[RelD]at r2;subst r2;exact⟨z,w,rfl,rfl,o2.val s2 rfl⟩
    |_=>exact o2.elim
   |_=>cases hl
  ·exact o1.elim
theorem uM (ho:aI X G E o mo) (he:aI X G E e me) (hb:attributeBase o "join" X.env (eval o X.env)=eval o X.env:=by rfl) (hs:ao [e] X.env=[(false,eval e X.env)]:=by rfl) (hl:(apos.endLine==cpos.line)=true:=by rfl):aI X G E (.Call (.Attribute o "join" apos) [e] [] cpos) (cI iF mo me):=λhK=>
 PE.imp (CW PySem.F.slot_str_join PySem.F.type_str_join j3 (ho hK) (gE (he hK) iG hs) hb (by rw[hs];rfl) hl hs) λσ H Q ⟨μ,ρ,h,rs,s,oo⟩=>cZ rs s oo λμ1 x h1 vx H1 x1 rs1 s1 r1 o1=>by
  split at o1
  ·rename_i hl
   cases x with
   |str z=>
    rw[RelD]at r1;subst r1;refine⟨⟨z,rfl⟩,cZ rs1 s1 o1 λμ2 d h2 vd H2 x2 rs2 s2 r2 o2=>?_⟩
    cases d with
    |ref i=>
     dsimp only[iF]at o2
     cases g:getL h2 i with
     |none=>rw[g]at o2;exact o2.elim
     |some ds=>
      rw[g]at o2;dsimp only at o2
      cases q:bI pE ds with
      |none=>rw[q]at o2;exact o2.elim
      |some ys=>
       rw[q]at o2;dsimp only at o2
       split at o2
       ·rename_i hl2;obtain⟨vs,e1,r3⟩:=s2.ob i _ (dH g);obtain⟨_,rfl⟩:=r2;rw[L7 r3 q]at e1;exact⟨z,_,ys,rfl,rfl,e1,hl2,o2.val s2 rfl⟩
       ·exact o2.elim
    |_=>exact o2.elim
   |_=>cases hl
  ·exact o1.elim
end
section
variable{X:Cx}{G:Cfg}{E:XK}{a b c e o:bj}{ma mb me mo:M Dv}{mt:M Bool}{pos p2:Pos}
theorem L8 {vl:af}{lo:Option Int}(h:tu vl lo):∃l:Option (Int×Tok),vl=partValue l/\lo=l.map (·.1):=by
 cases h with
 |none=>exact⟨none,rfl,rfl⟩
 |int i t=>exact⟨some (i,t),rfl,rfl⟩
theorem j5:SlR X (λx lo hi H Q=>∃z,x=.str z/\(kz z lo hi).length<=bp/\Q (.str (kz z lo hi)) H):=by
 intro pins s σ H x v vl vu lo hi sl Q I rx hs pl pu ⟨z,e,hl,q⟩;subst e;obtain⟨t,rfl⟩:=rx;obtain⟨l,rfl,rfl⟩:=L8 pl;obtain⟨u,rfl,rfl⟩:=L8 pu;refine⟨"str",_,slot_str_getitem.lookup,Aw s z t,wpAny_getItem_str_slice (l:=l) (u:=u) (st:=none) hs rfl ?_⟩
 by_cases hc:(1==1&&(Builtin.Str.strSliceIndices (l.map (·.1)) (u.map (·.1)) 1 z.length).length==z.length)=true
 ·have e1:sliceMade z t l u none=Made.val (Value.str z t):=if_pos hc;have e2:kz z (l.map (·.1)) (u.map (·.1))=z:=if_pos hc;rw[e1];rw[e2]at q;exact⟨.str z,H,I,⟨t,rfl⟩,q⟩
 ·have e1:sliceMade z t l u none=Made.str (kz z (l.map (·.1)) (u.map (·.1))):=by have e2:kz z (l.map (·.1)) (u.map (·.1))=_:=if_neg hc;rw[e2];exact if_neg hc
  rw[e1];exact⟨hl,.str _,H,I.tok _,⟨_,rfl⟩,q⟩
def CZ (x:Dv) (l u:Option Int) (h:Hs):Rs Dv:=match x with
 | .str z=>lim (kz z l u).length (.ok (.str (kz z l u)) h)
 |_=>.bad
def fW (m:M Dv) (lo hi:MO):M Dv:=λρ h=>(m ρ h).bind λx h1=>(lo ρ h1).bind λl h2=>(hi ρ h2).bind λu h3=>CZ x l u h3
theorem pF {lo hi:Option bj}{ml mh:MO}(ho:aI X G E o mo) (hl:rC X G E lo ml) (hh:rC X G E hi mh):aI X G E (.Subscript o (.Slice lo hi none p2) pos) (fW mo ml mh):=λhK=>
 PE.imp (GG j5 (ho hK) (hl hK) (hh hK)) λσ H Q ⟨μ,ρ,h,rs,s,oo⟩=>cZ rs s oo λμ1 x h1 vx H1 x1 rs1 s1 r1 o1=>by
  refine⟨μ1,ρ,h1,rs1,s1,(o1.bind (R1:=λ_ _ _ a b=>b=a)).mono λl' H2 ⟨μ2,l,h2,x2,s2,el,o2⟩=>?_⟩;subst el;refine⟨μ2,ρ,h2,rs1.mono x2,s2,(o2.bind (R1:=λ_ _ _ a b=>b=a)).mono λu' H3 ⟨μ3,u,h3,x3,s3,eu,o3⟩=>?_⟩;subst eu
  cases x with
  |str z=>
   rw[RelD]at r1;subst r1;unfold CZ lim at o3;dsimp only at o3
   split at o3
   ·rename_i hl;exact⟨z,rfl,kL hl,o3.val s3 rfl⟩
   ·exact o3.elim
  |_=>exact o3.elim
def qI (t:M Bool) (ma mb:M Dv):M Dv:=λρ h=>(t ρ h).bind λc h1=>if c=true then ma ρ h1 else mb ρ h1
theorem j6 (hc:fY X G E c mt) (ha:aI X G E a ma) (hb:aI X G E b mb):aI X G E (.IfExp c a b pos) (qI mt ma mb):=λhK=>
 PE.imp (PR (hc hK) (ha hK) (hb hK)) λσ H Q ⟨μ,ρ,h,rs,s,oo⟩=>A4 rs s oo λμ1 k h1 H1 x1 rs1 s1 o1=>by
  cases k with
  |true=>exact⟨μ1,ρ,h1,rs1,s1,o1⟩
  |false=>exact⟨μ1,ρ,h1,rs1,s1,o1⟩
def mD (neg:Bool) (x y:Dv) (h:Hs):Rs Dv:=match x,y with
 | .str i,.str j=>.ok (.bl (if neg then !(!(jr j i 0 j.length 1).isEmpty)else !(jr j i 0 j.length 1).isEmpty)) h
 |_,_=>.bad
theorem j7:dZ G (λx y H Q=>∃i j,x=.str i/\y=.str j/\Q (.bl (!(!(jr j i 0 j.length 1).isEmpty))) H) (mD true):=by
 intro E μ h H x y vx vy Q s rx ry o
 cases x with
 |str i=>
  cases y with
  |str j=>exact⟨i,j,rx,ry,o.val s rfl⟩
  |_=>exact o.elim
 |_=>exact o.elim
theorem DC (ha:aI X G E a ma) (hb:aI X G E b mb) (hm:behindInMarks .NotIn b=false:=by rfl):fY X G E (.Compare a [.NotIn] [b] pos) (mB (m2 (mD true) ma mb)):=qU RE j7 ha hb hm
end
section
variable{X:Cx}{G:Cfg}{E:XK}{e o:bj}{me mo:M Dv}{cpos apos:Pos}
def DD (h:cx) (L:ah):List (ah×Obj):=(bo h.objs.size).filterMap λb=>if b=L then none else(h.get? b).map λo=>(b,o)
theorem j8 {h:cx}{L b:ah}{o:Obj}(hb:b≠L) (e:h.get? b=some o):(b,o)∈DD h L:=gz.mpr ⟨b,bx.mpr (av e),by rw[if_neg hb,e];rfl⟩
theorem L9 {h:cx}{L:ah}{p:ah×Obj}(hp:p∈DD h L):h.get? p.1=some p.2/\p.1≠L:=by
 obtain⟨b,_,q⟩:=gz.mp hp
 by_cases c:b=L
 ·rw[if_pos c]at q;cases q
 ·rw[if_neg c]at q
  cases g:h.get? b with
  |none=>rw[g]at q;cases q
  |some o=>rw[g]at q;cases q;exact⟨g,c⟩
theorem MA:∀(l:List (Str×Tok)),Vals ((l.map (·.1)).map V.str) (strValues l)
 | []=>.nil
 |p::l=>.cons ⟨p.2,rfl⟩ (MA l)
theorem j9 {pins:List (ah×Obj)}{σ:St}{H:Hp}{s:ag}{h':cx}{a:ah}{ob:HO}{t':Nat}(I:Inv X pins σ H s) (k:∀b u,b≠X.env.locals->s.heap.get? b=some u->h'.get? b=some u)
  (ns:∀m,s.heap.Ns X.env.locals m->h'.Ns X.env.locals m) (hp:s.heap.objs.size<=a) (new:ObjOk X.prog X.w (aQ H a ob) h' a ob):Inv X pins σ (aQ H a ob) { s with heap:=h',toks:=t' }:=by
 have hn:=I.hok.fresh hp;have ht:∃o',h'.get? X.env.locals=some o':=by obtain⟨m,hm,_⟩:=I.loc;obtain⟨o,_,_,e,_⟩:=ns m hm;exact⟨o,e⟩
 have nl:∀b u,H b=some u->b≠X.env.locals:=λb u e z=>by rw[z,I.free]at e;cases e
 refine I.step (g':=s.gens) (d':=s.drawn) (ch:=[]) (λ_ z=>nomatch z) (λb o hL _ _ e _=>k b o hL e) (λb o hL _ _ e _=>⟨o.slots,k b o hL e⟩)
  (λb o _ e n=>by rw[bK (bf (aw (av e) hp))];exact n)
  (λb o _ e=>by
   by_cases c:b=X.env.locals
   ·rw[c];exact ht
   ·exact⟨o,k b o c e⟩)
  (λb xs q=>by rw[bK (dX q hn)];exact q) (λb o u q=>by rw[bK (dX q hn)];exact q) (λb ps q=>⟨#[],by rw[bK (dX q hn),q];simp⟩) ns (λb u e=>?_) I.bare
 by_cases hb:b=a
 ·subst hb;rw[cK]at e;cases e;exact new
 ·rw[bK hb]at e;refine(I.hok b u e).stay (λc v hc q=>k c v ?_ q) (λc q=>by rw[bK (dX q hn)];exact q) λc xs q=>by rw[bK (dX q hn)];exact q
  rcases hc with z|z
  ·rw[z];exact nl b u e
  ·exact nl c _ z
theorem k6:sQ X "str.split" (λx xs H Q=>∃z y,x=.str z/\xs=[.str y]/\(y.length==0)=false/\z.length+2<=bp/\(lx z y).length<=bp/\∀p,H p=none->Q (.ref p) (aQ H p (.lst ((lx z y).map V.str)))):=by
 intro pins s σ H x xs v us Q I rx rv ⟨z,y,e1,e2,hy,hz,hl,q⟩;subst e1;subst e2;obtain⟨t,rfl⟩:=rx;obtain⟨u,rfl,ru⟩:=gD rv;obtain⟨t',rfl⟩:=ru;obtain⟨m,hm,_⟩:=id I.loc;have fr:PyProof.Rows.Fr {} X.env.locals s.heap m:=⟨hm,λb o e=>by simp[Heap.get?]at e,jc _⟩
 have nw:PyProof.Rows.News {} X.env.locals s.heap (DD s.heap X.env.locals):=λp hp=>⟨(L9 hp).1,(L9 hp).2,by simp[Heap.get?]⟩
 refine PyProof.Rows.splitN1A fr nw hy (λl h' k hs _ _ _ fr' nw'=>?_) hz;have keep:∀b o,b≠X.env.locals->s.heap.get? b=some o->h'.get? b=some o:=λb o hb e=>(nw' (b,o) (aq _ (j8 hb e))).1;have ns:∀m',s.heap.Ns X.env.locals m'->h'.Ns X.env.locals m':=λm' hm'=>by
  have:m'=m:=by
   obtain⟨o1,es1,ep1,g1,d1,_,f1⟩:=hm;obtain⟨o2,es2,ep2,g2,d2,_,f2⟩:=hm';rw[g1]at g2;cases g2;rw[d1]at d2;cases d2
   funext n
   rw[<-f1 n,<-f2 n]
  rw[this];exact fr'.ns
 have new:h'.get? s.heap.objs.size=some { cls:=.type "list",data:=.seq (strValues l).toArray }:=(nw' _ (ax ..)).1;have hv:=MA l;rw[hs]at hv;exact⟨.ref s.heap.objs.size,_,j9 (ob:=.lst ((lx z y).map V.str)) I (t':=k) keep ns (ak _) ⟨by rw[bh];exact hl,strValues l,_,hv,new⟩,rfl,q _ (I.hok.fresh (ak _))⟩
def lE (x y:Dv) (h:Hs):Rs Dv:=match x,y with
 | .str z,.str w=>if(w.length==0)=false/\z.length<=1000000/\(lx z w).length<=1000000 then .ok (.ref h.length) (h++[.lst ((lx z w).map Dv.str)])else .bad
 |_,_=>.bad
theorem MB {μ:Nat->ah}{n:Nat}{H:Hp}:∀(ys:List Str),RelDL G μ n H (ys.map Dv.str) (ys.map V.str)
 | []=>RelDL.nil
 |y::ys=>RelDL.cons rfl (MB ys)
theorem MD (ho:aI X G E o mo) (he:aI X G E e me) (hb:attributeBase o "split" X.env (eval o X.env)=eval o X.env:=by rfl) (hs:ao [e] X.env=[(false,eval e X.env)]:=by rfl) (hl:(apos.endLine==cpos.line)=true:=by rfl):aI X G E (.Call (.Attribute o "split" apos) [e] [] cpos) (cI lE mo me):=λhK=>
 PE.imp (CW PySem.F.slot_str_split PySem.F.type_str_split k6 (ho hK) (gE (he hK) iG hs) hb (by rw[hs];rfl) hl hs) λσ H Q ⟨μ,ρ,h,rs,s,oo⟩=>cZ rs s oo λμ1 x h1 vx H1 x1 rs1 s1 r1 o1=>by
  split at o1
  ·rename_i hl
   cases x with
   |str z=>
    rw[RelD]at r1;subst r1;refine⟨⟨z,rfl⟩,cZ rs1 s1 o1 λμ2 d h2 vd H2 x2 rs2 s2 r2 o2=>?_⟩
    cases d with
    |str w=>
     rw[RelD]at r2;subst r2;dsimp only[lE]at o2
     split at o2
     ·rename_i hc;have hz:bp=16777216:=rfl;exact⟨z,w,rfl,rfl,hc.1,by omega,by omega,λp hp=>pQ s2 (MB _) hp o2⟩
     ·exact o2.elim
    |_=>exact o2.elim
   |_=>cases hl
  ·exact o1.elim
end
section
variable{X:Cx}{G:Cfg}{E:XK}{e:bj}{es:List bj}{aS:M (List Dv)}{p pos:Pos}
theorem k7:CallR X (.type "int") (λxs H Q=>∃z i,xs=[.str z]/\intText? z=some i/\z.length<=640/\Q (.int i) H):=by intro pins s σ H xs us Q I r ⟨z,i,e,hi,hl,q⟩;subst e;obtain⟨u,rfl,t,rfl⟩:=gD r;exact PySem.W.KIN.call_text hi hl ⟨.int i,H,I.tok _,⟨_,rfl⟩,q⟩
def gO:Dv->Hs->Rs Dv
 | .str z,h=>match intText? z with
  |some i=>if z.length<=640 then .ok (.int i) h else .bad
  |none=>.bad
 |_,_=>.bad
theorem k8:jT G (λx H Q=>∃z i,x=.str z/\intText? z=some i/\z.length<=640/\Q (.int i) H) gO:=by
 intro E μ h H d v Q s r1 o
 cases d with
 |str z=>
  dsimp only[gO]at o
  cases q:intText? z with
  |none=>rw[q]at o;exact o.elim
  |some i=>
   rw[q]at o;dsimp only at o
   split at o
   ·rename_i hl;exact⟨z,i,r1,q,hl,o.val s rfl⟩
   ·exact o.elim
 |_=>exact o.elim
theorem DE (hg:Gl X "int") (hm:X.mg "int" = none) (ha:cY X G E (e::es) aS)
  (he:ao (e::es) X.env=(false,eval e X.env)::ao es X.env:=by rfl) (hpl:(backTo pos (ao es X.env)).any (·.1)=false:=by rfl):aI X G E (.Call (.Name "int" p) (e::es) [] pos) (aD (f1 gO) aS):=λhK=>
 wC (CallR.imp (k7 (X:=X)) λxs H Q ⟨v,h1,z,i,h2,h3,h4,h5⟩=>⟨z,i,by rw[h1,h2],h3,h4,h5⟩) (mX k8) hg hm JN ha (by decide) (by decide) he hpl hK
end
end L2.Mr
namespace L2.Mr.K91
open PySem PySem.Spec PyProof.Rows L2 L2.Mr L2.Mr.Com
def tblV:List (Nat×Bool):=[(0,true),(8,true)]
def tbl0:List (Nat×Bool):=[(0,true),(8,false)]
def tbl1:List (Nat×Bool):=[(0,false),(8,false)]
def tbl2:List (Nat×Bool):=[(0,false),(8,false)]
def tbl3:List (Nat×Bool):=[(0,false),(8,false)]
def tbl4:List (Nat×Bool):=[(0,false),(8,false)]
def tbl5:List (Nat×Bool):=[(0,false),(8,false)]
def tbl6:List (Nat×Bool):=[(0,false),(8,false)]
def tbl7:List (Nat×Bool):=[(0,false),(8,false)]
def tbl8:List (Nat×Bool):=[(0,false),(8,true)]
def tbl9:List (Nat×Bool):=[(0,false),(8,false)]
def tbl10:List (Nat×Bool):=[(0,false),(8,false)]
def xZ:MS:=(aR (bE (aT (aD F_qw (aB (aA 0) aC)))) (jG 0 (aB (mC (.str "this is no order")) aC)) aX)
def F_qn:List Dv->Hs->Rs Dv:=aZ 1 1 (xZ)
def DF:MS:=(aJ (fU (aD F_qn (aB (aA 0) aC))) (aJ (aK (aA 0) (cM 2 (bG (aF 1) (bG (aF 2) cO)))) (aL (m2 cH (jM [(m1 eI (aA 1)),(mC (.str ":"))] oi) (cI iF (mC (.str "")) (dG (cD (bQ eF (aA 2)) [none,none] (cM 2 (bG (aF 0) (bG (aF 1) cO))) dJ (bX (jM [(mC (.str " ")),(m1 eI (aA 0)),(mC (.str "<")),(m1 eI (aA 1))] oi)))))))))
def F_qo:List Dv->Hs->Rs Dv:=aZ 1 3 (DF)
def yA:MS:=(aL (mL tO (cD (aS rD (aB (mC (.int 2)) (aB (aD (f1 fF) (aB (aA 0) aC)) (aB (mC (.int 4)) aC)))) [none,some 0] (aF 0) dJ (bX (cC (aB (cI iE (mC (.str "0123456789")) (m2 bT (aA 1) (m2 bD (aA 0) (mC (.int 1))))) (aB (cI iE (mC (.str "0123456789")) (m2 bT (aA 1) (m2 bD (aA 0) (mC (.int 3))))) aC)))))))
def F_qd:List Dv->Hs->Rs Dv:=aZ 1 1 (yA)
def rN:MS:=(aJ (aR (bF (bE (aT (m1 (aU lT) (aA 0)))) (mB (m2 bC (m2 iC (aD (f1 fF) (aB (aA 0) aC)) (mC (.int 4))) (mC (.int 2))))) (jG 8 (aB (mC (.str "this is no text of an order")) aC)) aX) (aJ (aK (cC (aB (cI iE (mC (.str "0123456789")) (m2 bT (aA 0) (mC (.int 0)))) (aB (aD F_qd (aB (aA 0) aC)) aC))) (aF 1)) (aJ (aR (bF (bE (aT (aD F_qw (aB (aA 1) aC)))) (mB (m2 bC (aD F_qo (aB (aA 1) aC)) (aA 0)))) (jG 8 (aB (mC (.str "this text writes no order")) aC)) aX) (aL (aA 1)))))
def F_qp:List Dv->Hs->Rs Dv:=aZ 1 2 (rN)
def mb_qk:MS:=(aL (cT (m1 (aU oV) (aA 0)) (m1 mV (m1 (aU kW) (aA 0)))))
def F_qk:List Dv->Hs->Rs Dv:=aZ 1 1 (mb_qk)
def mb_qb:MS:=(aJ (aR (bF (bE (aT (m1 (aU fG) (aA 0)))) (bF (mB (m2 bC (aD (f1 dE) (aB (aA 0) aC)) (mC (.int 2)))) (bF (bE (aT (aD F_qk (aB (m2 aN (aA 0) (mC (.int 0))) aC)))) (bE (mB (iS hV hV (mC (.int 1)) (m2 aN (aA 0) (mC (.int 0))) (mC (.int 6)))))))) (aL (mC (.bl false))) aX) (aJ (aR (bE (aT (m1 (aU fG) (m2 aN (aA 0) (mC (.int 1)))))) (aL (mC (.bl false))) aX) (aJ (eS (bQ eF (m2 aN (aA 0) (mC (.int 1)))) (aF 1) (aJ (aR (bF (bE (aT (m1 (aU fG) (aA 1)))) (bF (mB (m2 bC (aD (f1 dE) (aB (aA 1) aC)) (mC (.int 2)))) (bF (bE (aT (aD F_qk (aB (m2 aN (aA 1) (mC (.int 0))) aC)))) (bE (aT (aD F_qk (aB (m2 aN (aA 1) (mC (.int 1))) aC))))))) (aL (mC (.bl false))) aX) (aR (bF (mB (m2 bN (m2 aN (aA 1) (mC (.int 0))) (m2 aN (aA 1) (mC (.int 1))))) (bF (mB (m2 fP (aD (f1 (kC lW)) (aB (aA 1) aC)) (mC (.int 0)))) (mB (m2 oU (aD (f1 (kC lV)) (aB (aA 1) aC)) (m2 aN (aA 0) (mC (.int 0))))))) (aL (mC (.bl false))) aX))) (aJ (aK (aD F_qg (aB (m2 aN (aA 0) (mC (.int 1))) aC)) (aF 2)) (aL (cT (m2 bN (aA 2) (aD (f1 iD) (aB (m2 aN (aA 0) (mC (.int 1))) aC))) (m2 bN (dG (cD (bQ eE (aA 2)) [none,none] (cM 2 (bG (aF 0) (bG (aF 1) cO))) (mB (m2 bN (aA 0) (aA 1))) (bX (mC (.int 1))))) (aV aC))))))))
def F_qb:List Dv->Hs->Rs Dv:=aZ 1 3 (mb_qb)
def kD:MS:=(aJ (aK (aV (aB (m1 (aU (eG none tbl0)) (aA 1)) (aB (m1 (aU (eG none tbl1)) (aA 1)) (aB (m1 (aU (eG none tbl2)) (aA 1)) aC)))) (aF 3)) (aJ (aK (m2 bD (aA 3) (aV (aB (m1 (aU (eG none tbl3)) (aA 1)) (aB (m1 (aU (eG none tbl4)) (aA 1)) (aB (m1 (aU (eG none tbl5)) (aA 1)) aC))))) (aF 3)) (aJ (aK (m2 bD (aA 3) (aV (aB (m1 (aU (eG none tbl6)) (aA 1)) (aB (m1 (aU (eG none tbl7)) (aA 1)) (aB (m1 (aU (eG none tbl8)) (aA 1)) aC))))) (aF 3)) (aJ (aK (m2 bD (aA 3) (aV (aB (m1 (aU (eG none tbl9)) (aA 1)) (aB (m1 (aU (eG none tbl10)) (aA 1)) aC)))) (aF 3)) (aJ (aR (bE (aT (m1 (aU (eG none tblV)) (aA 1)))) (aL (mC .non)) aX) (aL (dG (cD (aS fK (aB (mC (.int 11)) aC)) [none,some 3] (aF 0) (aT (m2 aN (aA 1) (aA 0))) (bX (aA 0))))))))))
def DG:MS:=(aJ (aK (cI lE (aA 0) (mC (.str " "))) (aF 1)) (aJ (aR (bF (mB (m2 bC (aD (f1 fF) (aB (m2 aN (aA 1) (mC (.int 0))) aC)) (mC (.int 2)))) (bF (mB (m2 (mD true) (m2 bT (m2 aN (aA 1) (mC (.int 0))) (mC (.int 0))) (mC (.str "123456")))) (mB (m2 bC (m2 bT (m2 aN (aA 1) (mC (.int 0))) (mC (.int 1))) (mC (.str ":")))))) (aL (mC .non)) aX) (aJ (aK (aV aC) (aF 2)) (aJ (eS (bQ eE (dP (aA 1) (bY (mC (.int 1))) cE)) (aF 3) (aJ (aR (bF (mB (m2 bC (aD (f1 fF) (aB (aA 3) aC)) (mC (.int 3)))) (bF (mB (m2 (mD true) (m2 bT (aA 3) (mC (.int 0))) (mC (.str "012345")))) (bF (mB (m2 bC (m2 bT (aA 3) (mC (.int 1))) (mC (.str "<")))) (mB (m2 (mD true) (m2 bT (aA 3) (mC (.int 2))) (mC (.str "012345"))))))) (aL (mC .non)) aX) (fU (kR (aA 2) (cC (aB (aD (f1 gO) (aB (m2 bT (aA 3) (mC (.int 0))) aC)) (aB (aD (f1 gO) (aB (m2 bT (aA 3) (mC (.int 2))) aC)) aC))))))) (aJ (aK (cC (aB (aD (f1 gO) (aB (m2 bT (m2 aN (aA 1) (mC (.int 0))) (mC (.int 0))) aC)) (aB (aD (f1 iH) (aB (aA 2) aC)) aC))) (aF 4)) (aL (qI (aT (aD F_qb (aB (aA 4) aC))) (aA 4) (mC .non))))))))
def F_qc:List Dv->Hs->Rs Dv:=aZ 1 5 (DG)
def DH:MS:=(aJ (aK (aD F_qs (aB (aA 0) (aB (m2 bD (aD (f1 fF) (aB (aA 1) aC)) (mC (.int 1))) aC))) (aF 2)) (aJ (aK (mC (.str " !\"#$&'()*+,-./0123456789:;<=>?@ABCDEFGHIJKLMNOPQRSTUVWXYZ[\\]^_`abcdefghijklmnopqrstuvwxyz{|}~")) (aF 3)) (aJ (aK (m2 aN (aV (aB (m2 bT (aA 3) (aD F_qs (aB (aA 0) (aB (mC (.int 94)) aC)))) (aB (m2 bT (mC (.str "0123456 :<")) (aD F_qs (aB (aA 0) (aB (mC (.int 10)) aC)))) aC))) (aD F_qs (aB (aA 0) (aB (mC (.int 2)) aC)))) (aF 4)) (aJ (nQ 5 6 (aB (fW (aA 1) cE (bY (aA 2))) (aB (fW (aA 1) (bY (aA 2)) cE) aC))) (aJ (aK (cI lE (aA 1) (mC (.str " "))) (aF 7)) (aJ (nQ 8 9 (aB (aD F_qs (aB (aA 0) (aB (aD (f1 dE) (aB (aA 7) aC)) aC))) (aB (aD F_qs (aB (aA 0) (aB (aD (f1 dE) (aB (aA 7) aC)) aC))) aC))) (aJ (aK (m2 aN (aA 7) (aA 8)) (aF 10)) (aJ (aK (aV (aB (m2 cH (aA 5) (fW (aA 6) (bY (mC (.int 1))) cE)) (aB (m2 cH (m2 cH (aA 5) (aA 4)) (aA 6)) (aB (m2 cH (m2 cH (aA 5) (aA 4)) (fW (aA 6) (bY (mC (.int 1))) cE)) (aB (m2 cH (m2 cH (m2 cH (aA 5) (fW (aA 6) (bY (mC (.int 1))) (bY (mC (.int 2))))) (fW (aA 6) cE (bY (mC (.int 1))))) (fW (aA 6) (bY (mC (.int 2))) cE)) aC))))) (aF 11)) (aJ (aK (m2 bD (aA 11) (aV (aB (cI iF (mC (.str " ")) (m2 bD (dP (aA 7) cE (bY (aA 8))) (dP (aA 7) (bY (m2 bD (aA 8) (mC (.int 1)))) cE))) (aB (cI iF (mC (.str " ")) (m2 bD (m2 bD (dP (aA 7) cE (bY (aA 8))) (aV (aB (aA 10) aC))) (dP (aA 7) (bY (aA 8)) cE))) aC)))) (aF 11)) (aJ (aK (m2 bD (dP (aA 7) cE (bY (aA 8))) (dP (aA 7) (bY (m2 bD (aA 8) (mC (.int 1)))) cE)) (aF 12)) (aJ (aK (m2 bD (aA 11) (aV (aB (cI iF (mC (.str " ")) (m2 bD (m2 bD (dP (aA 12) cE (bY (aA 9))) (aV (aB (aA 10) aC))) (dP (aA 12) (bY (aA 9)) cE))) (aB (aA 1) (aB (m2 cH (mC (.str " ")) (aA 1)) (aB (m2 cH (aA 1) (mC (.str " "))) aC)))))) (aF 11)) (aL (m2 aN (aA 11) (aD F_qs (aB (aA 0) (aB (mC (.int 10)) aC))))))))))))))))
def F_qq:List Dv->Hs->Rs Dv:=aZ 2 13 (DH)
def yB:M Dv:=(aD F_qp (aB (aA 0) aC))
def yC:M Dv:=(aD F_qp (aB (aA 0) aC))
def yD (scr:List Int):MS:=(aJ (aK (aD (F_qj scr) (aB (aA 0) (aB (aA 1) aC))) (aF 2)) (aJ (aK (aD F_qi (aB (aA 2) (aB (mC (.int 6)) aC))) (aF 3)) (aJ (aK (cI iF (mC (.str " ")) (m2 bD (aV (aB (m2 cH (aD (f1 eI) (aB (m2 aN (aA 3) (mC (.int 0))) aC)) (mC (.str ":"))) aC)) (dG (cD (bQ eF (m2 aN (aA 3) (mC (.int 1)))) [none,none] (cM 2 (bG (aF 0) (bG (aF 1) cO))) dJ (bX (m2 cH (m2 cH (aD (f1 eI) (aB (aA 0) aC)) (mC (.str "<"))) (aD (f1 eI) (aB (aA 1) aC)))))))) (aF 4)) (aJ (eS (aS fK (aB (mC (.int 4)) aC)) (aF 5) (aJ (aK (aD F_qc (aB (aA 4) aC)) (aF 6)) (aJ (aR (mB (m2 (qB false) (aA 6) (mC .non))) (aR (mB (m2 bC (lR [4] 4 11 kD yB) (aV (aB (mC (.int 8)) aC)))) (aL (mC (.bl false))) aX) (aR (bE (aT (aD (F_qr 6) (aB (aD F_qp (aB (aA 4) aC)) (aB (aA 6) aC))))) (aL (mC (.bl false))) aX)) (aK (fW (aD F_qq (aB (aA 2) (aB (aA 4) aC))) cE (bY (mC (.int 80)))) (aF 4))))) (aJ (aK (m2 aN (aV (aB (mC .non) (aB (mC (.int 7)) (aB (cC (aB (mC (.str "1:")) aC)) (aB (aV (aB (mC (.str "1:")) aC)) (aB (mC (.bl true)) (aB (mC .edc) (aB (cC (aB (mC (.int 1)) (aB (cC aC) aC))) aC)))))))) (aD F_qs (aB (aA 2) (aB (mC (.int 7)) aC)))) (aF 7)) (aR (mB (m2 bC (lR [7] 4 11 kD yC) (aV (aB (mC (.int 8)) aC)))) (aL (mC (.bl false))) aX))))))
def ME (scr:List Int):MS:=(eS (aS fK (aB (aD mY (aB (mC (.int 1)) (aB (aD qW (aB (aD (f1 (iU scr)) (aB (aA 0) aC)) (aB (mC (.int 8)) aC))) aC))) aC)) (aF 1) (yD scr))
def k9:MS:=(aL (mC (.bl true)))
def yE (scr:List Int):MS:=(aJ (ME scr) k9)
def F_q0 (scr:List Int):List Dv->Hs->Rs Dv:=aZ 1 8 (yE scr)
end L2.Mr.K91
namespace L2.Mr
open PySem PySem.Spec PyProof.Rows L2 L2.Mr
section
variable{X:Cx}{G:Cfg}{E:XK}{pos:Pos}
theorem l7 (n:Nat) {i:Nat}{x:Str}{pos' p3:Pos}{e b:bj}{me mb:M Dv}(hN:X.N.Nodup) (hb:aI X G E b mb) (hi:X.N[i]?=some x:=by rfl) (hx:mR X.env.scope x:=by first|exact Or.inl rfl|exact Or.inr rfl) (h:pD (λ_=>none) n e=me:=by rfl) (hp:sP b:=by intro _ _;rfl) (hs:swapsWith (.Subscript e b p3) (some (.Name x pos')) pos.line X.env=pure false:=by rfl) (hf:X.fn x=true∨X.env.scope.names.lookup x=some .local:=by first|exact .inl rfl|exact .inr rfl|assumption):
  SW X G E (.Assign [.Name x pos'] (.Subscript e b p3) pos) (aK (m2 aN me mb) (aF i)):=⟨HW hN hi hx (cG (d9 n h) hb hp) hs hf⟩
end
end L2.Mr
namespace L2.Mr.K91
open PySem PySem.Spec PyProof.Rows L2 L2.Mr L2.Mr.Com
def dS (i:Nat):ig:=ae.main.body.getD i (.Pass ⟨0,0,0,0⟩)
abbrev DI:ig:=dS 14
abbrev DJ:ig:=dS 15
abbrev yF:ig:=dS 16
abbrev DK:ig:=dS 19
abbrev yG:ig:=dS 20
abbrev DL:ig:=dS 21
abbrev yH:ig:=dS 22
abbrev yI:ig:=dS 23
abbrev yJ:ig:=dS 24
abbrev DM:ig:=dS 25
abbrev DN:ig:=dS 26
abbrev yK:ig:=dS 29
abbrev yL:ig:=dS 30
abbrev DO:ig:=dS 31
abbrev DP:ig:=dS 33
abbrev DQ:ig:=dS 34
abbrev DR:ig:=dS 35
abbrev DS:ig:=dS 36
abbrev yM:ig:=dS 37
abbrev uN:ig:=dS 38
abbrev DT:ig:=dS 39
abbrev yN:ig:=dS 40
abbrev yO:ig:=dS 41
abbrev qJ:ig:=dS 42
abbrev DU:ig:=dS 43
abbrev DV:ig:=dS 44
abbrev rO:ig:=dS 45
structure Ad where
 f_qy:ah
 fd_qy:bu
 f_qm:ah
 fd_qm:bu
 f_qv:ah
 fd_qv:bu
 f_qx:ah
 fd_qx:bu
 f_ql:ah
 fd_ql:bu
 f_qz:ah
 fd_qz:bu
 f_qt:ah
 fd_qt:bu
 f_qu:ah
 fd_qu:bu
 f_qh:ah
 fd_qh:bu
 f_qw:ah
 fd_qw:bu
 f_qn:ah
 fd_qn:bu
 f_qo:ah
 fd_qo:bu
 f_qd:ah
 fd_qd:bu
 f_qp:ah
 fd_qp:bu
 f_qe:ah
 fd_qe:bu
 f_qj:ah
 fd_qj:bu
 f_qs:ah
 fd_qs:bu
 f_qa:ah
 fd_qa:bu
 f_qg:ah
 fd_qg:bu
 f_qi:ah
 fd_qi:bu
 f_qk:ah
 fd_qk:bu
 f_qb:ah
 fd_qb:bu
 f_qr:ah
 fd_qr:bu
 f_qf:ah
 fd_qf:bu
 f_qc:ah
 fd_qc:bu
 f_qq:ah
 fd_qq:bu
 f_q0:ah
 fd_q0:bu
 c_NoOrder:ah
 c_NoNumber:ah
 c_NoPairs:ah
 c_Round:ah
 c_NoThing:ah
 c_NoRow:ah
 c_TooMany:ah
 c_TooFew:ah
 c_NoText:ah
 c_NoLine:ah
 c_NoDeed:ah
 t_MOST_THINGS:Tok
 t_FIGURES:Tok
 NE:ah
 cc:ah
 P:ah
structure Tx (K:ar) (mg:Str->Option af) (G:Cfg) (A:Ad):Prop where
 hK:K=G.K
 F_qy:Fun K "is_whole" "is_whole" DI A.f_qy A.fd_qy
 B_qy:Binds K A.fd_qy ["thing"] []
 m_qy:mg "is_whole" = some (.ref A.f_qy)
 F_qm:Fun K "is_between" "is_between" DJ A.f_qm A.fd_qm
 B_qm:Binds K A.fd_qm ["thing","low","high"] []
 m_qm:mg "is_between" = some (.ref A.f_qm)
 F_qv:Fun K "is_rising" "is_rising" yF A.f_qv A.fd_qv
 B_qv:Binds K A.fd_qv ["parts"] []
 m_qv:mg "is_rising" = some (.ref A.f_qv)
 F_qx:Fun K "is_thing" "is_thing" DK A.f_qx A.fd_qx
 B_qx:Binds K A.fd_qx ["many","thing"] []
 m_qx:mg "is_thing" = some (.ref A.f_qx)
 F_ql:Fun K "are_things" "are_things" yG A.f_ql A.fd_ql
 B_ql:Binds K A.fd_ql ["many","thing"] []
 m_ql:mg "are_things" = some (.ref A.f_ql)
 F_qz:Fun K "is_pair" "is_pair" DL A.f_qz A.fd_qz
 B_qz:Binds K A.fd_qz ["many","thing"] []
 m_qz:mg "is_pair" = some (.ref A.f_qz)
 F_qt:Fun K "are_pairs" "are_pairs" yH A.f_qt A.fd_qt
 B_qt:Binds K A.fd_qt ["many","things"] []
 m_qt:mg "are_pairs" = some (.ref A.f_qt)
 F_qu:Fun K "has_alike" "has_alike" yI A.f_qu A.fd_qu
 B_qu:Binds K A.fd_qu ["pairs"] []
 m_qu:mg "has_alike" = some (.ref A.f_qu)
 F_qh:Fun K "is_complete" "is_complete" yJ A.f_qh A.fd_qh
 B_qh:Binds K A.fd_qh ["pairs"] []
 m_qh:mg "is_complete" = some (.ref A.f_qh)
 F_qw:Fun K "is_order" "is_order" DM A.f_qw A.fd_qw
 B_qw:Binds K A.fd_qw ["thing"] []
 m_qw:mg "is_order" = some (.ref A.f_qw)
 F_qn:Fun K "need_order" "need_order" DN A.f_qn A.fd_qn
 B_qn:Binds K A.fd_qn ["order"] []
 m_qn:mg "need_order" = some (.ref A.f_qn)
 F_qo:Fun K "order_text" "order_text" yK A.f_qo A.fd_qo
 B_qo:Binds K A.fd_qo ["order"] []
 m_qo:mg "order_text" = some (.ref A.f_qo)
 F_qd:Fun K "written_pairs" "written_pairs" yL A.f_qd A.fd_qd
 B_qd:Binds K A.fd_qd ["text"] []
 m_qd:mg "written_pairs" = some (.ref A.f_qd)
 F_qp:Fun K "read_order" "read_order" DO A.f_qp A.fd_qp
 B_qp:Binds K A.fd_qp ["text"] []
 m_qp:mg "read_order" = some (.ref A.f_qp)
 F_qe:Fun K "_law_cell_at" "_law_cell_at" DP A.f_qe A.fd_qe
 B_qe:Binds K A.fd_qe ["_law_script","_law_k"] []
 m_qe:mg "_law_cell_at" = some (.ref A.f_qe)
 F_qj:Fun K "_law_state" "_law_state" DQ A.f_qj A.fd_qj
 B_qj:Binds K A.fd_qj ["_law_script","_law_k"] []
 m_qj:mg "_law_state" = some (.ref A.f_qj)
 F_qs:Fun K "_law_take" "_law_take" DR A.f_qs A.fd_qs
 B_qs:Binds K A.fd_qs ["_law_state_here","_law_many"] []
 m_qs:mg "_law_take" = some (.ref A.f_qs)
 F_qa:Fun K "_law_mixed_row" "_law_mixed_row" DS A.f_qa A.fd_qa
 B_qa:Binds K A.fd_qa ["_law_state_here","_law_things"] []
 m_qa:mg "_law_mixed_row" = some (.ref A.f_qa)
 F_qg:Fun K "_law_closed" "_law_closed" yM A.f_qg A.fd_qg
 B_qg:Binds K A.fd_qg ["_law_pairs"] []
 m_qg:mg "_law_closed" = some (.ref A.f_qg)
 F_qi:Fun K "_law_order" "_law_order" uN A.f_qi A.fd_qi
 B_qi:Binds K A.fd_qi ["_law_state_here","_law_most"] []
 m_qi:mg "_law_order" = some (.ref A.f_qi)
 F_qk:Fun K "_law_whole" "_law_whole" DT A.f_qk A.fd_qk
 B_qk:Binds K A.fd_qk ["_law_thing"] []
 m_qk:mg "_law_whole" = some (.ref A.f_qk)
 F_qb:Fun K "_law_is_order" "_law_is_order" yN A.f_qb A.fd_qb
 B_qb:Binds K A.fd_qb ["_law_thing"] []
 m_qb:mg "_law_is_order" = some (.ref A.f_qb)
 F_qr:Fun K "_law_same" "_law_same" yO A.f_qr A.fd_qr
 B_qr:Binds K A.fd_qr ["_law_found","_law_due"] []
 m_qr:mg "_law_same" = some (.ref A.f_qr)
 F_qf:Fun K "_law_refused" "_law_refused" qJ A.f_qf A.fd_qf
 B_qf:Binds K A.fd_qf ["_law_call"] []
 m_qf:mg "_law_refused" = some (.ref A.f_qf)
 F_qc:Fun K "_law_order_in" "_law_order_in" DU A.f_qc A.fd_qc
 B_qc:Binds K A.fd_qc ["_law_text"] []
 m_qc:mg "_law_order_in" = some (.ref A.f_qc)
 F_qq:Fun K "_law_bent" "_law_bent" DV A.f_qq A.fd_qq
 B_qq:Binds K A.fd_qq ["_law_state_here","_law_text"] []
 m_qq:mg "_law_bent" = some (.ref A.f_qq)
 F_q0:Fun K "law" "law" rO A.f_q0 A.fd_q0
 B_q0:Binds K A.fd_q0 ["_law_script"] []
 m_q0:mg "law" = some (.ref A.f_q0)
 z_ValueError:mg "ValueError" = none
 z_all:mg "all" = none
 z_any:mg "any" = none
 z_bool:mg "bool" = none
 z_int:mg "int" = none
 z_isinstance:mg "isinstance" = none
 z_len:mg "len" = none
 z_list:mg "list" = none
 z_max:mg "max" = none
 z_min:mg "min" = none
 z_range:mg "range" = none
 z_set:mg "set" = none
 z_sorted:mg "sorted" = none
 z_str:mg "str" = none
 z_tuple:mg "tuple" = none
 z_zip:mg "zip" = none
 c_MOST_THINGS:mg "MOST_THINGS" = some (.int 6 A.t_MOST_THINGS)
 c_FIGURES:mg "FIGURES" = some (.str "0123456789" A.t_FIGURES)
 n_NoOrder:mg "NoOrder" = some (.ref A.c_NoOrder)
 n_NoNumber:mg "NoNumber" = some (.ref A.c_NoNumber)
 n_NoPairs:mg "NoPairs" = some (.ref A.c_NoPairs)
 n_Round:mg "Round" = some (.ref A.c_Round)
 n_NoThing:mg "NoThing" = some (.ref A.c_NoThing)
 n_NoRow:mg "NoRow" = some (.ref A.c_NoRow)
 n_TooMany:mg "TooMany" = some (.ref A.c_TooMany)
 n_TooFew:mg "TooFew" = some (.ref A.c_TooFew)
 n_NoText:mg "NoText" = some (.ref A.c_NoText)
 n_NoLine:mg "NoLine" = some (.ref A.c_NoLine)
 n_NoDeed:mg "NoDeed" = some (.ref A.c_NoDeed)
 ns_NoOrder:ug K df "NoOrder" = some (some (.ref A.c_NoOrder))
 x_NoOrder:tm K A.c_NoOrder wK "ValueError.__new__" = true
 ce_NoOrder:A.c_NoOrder=G.cl 0
 ns_NoText:ug K df "NoText" = some (some (.ref A.c_NoText))
 x_NoText:tm K A.c_NoText wK "ValueError.__new__" = true
 ce_NoText:A.c_NoText=G.cl 8
 ktV:∀c b,tblV.lookup c=some b->cz G.K (.ref (G.cl c)) (.type "ValueError")=some b/\ExK G.K (G.cl c)
 kt0:∀c b,tbl0.lookup c=some b->cz G.K (.ref (G.cl c)) (.ref A.c_NoOrder)=some b/\ExK G.K (G.cl c)
 kt1:∀c b,tbl1.lookup c=some b->cz G.K (.ref (G.cl c)) (.ref A.c_NoNumber)=some b/\ExK G.K (G.cl c)
 kt2:∀c b,tbl2.lookup c=some b->cz G.K (.ref (G.cl c)) (.ref A.c_NoPairs)=some b/\ExK G.K (G.cl c)
 kt3:∀c b,tbl3.lookup c=some b->cz G.K (.ref (G.cl c)) (.ref A.c_Round)=some b/\ExK G.K (G.cl c)
 kt4:∀c b,tbl4.lookup c=some b->cz G.K (.ref (G.cl c)) (.ref A.c_NoThing)=some b/\ExK G.K (G.cl c)
 kt5:∀c b,tbl5.lookup c=some b->cz G.K (.ref (G.cl c)) (.ref A.c_NoRow)=some b/\ExK G.K (G.cl c)
 kt6:∀c b,tbl6.lookup c=some b->cz G.K (.ref (G.cl c)) (.ref A.c_TooMany)=some b/\ExK G.K (G.cl c)
 kt7:∀c b,tbl7.lookup c=some b->cz G.K (.ref (G.cl c)) (.ref A.c_TooFew)=some b/\ExK G.K (G.cl c)
 kt8:∀c b,tbl8.lookup c=some b->cz G.K (.ref (G.cl c)) (.ref A.c_NoText)=some b/\ExK G.K (G.cl c)
 kt9:∀c b,tbl9.lookup c=some b->cz G.K (.ref (G.cl c)) (.ref A.c_NoLine)=some b/\ExK G.K (G.cl c)
 kt10:∀c b,tbl10.lookup c=some b->cz G.K (.ref (G.cl c)) (.ref A.c_NoDeed)=some b/\ExK G.K (G.cl c)
 n_NearError:mg "NearError" = some (.ref A.NE)
 e1:jt K (.ref A.NE) (.type "BaseException")=some true
 e2:jt K (.type "type") (.type "tuple")=some false
 e3:wd K (.ref A.NE) (.ref A.NE)=some true
 e4:∀c,c<11->jt K (.ref (G.cl c)) (.ref A.NE)=some true
 lq:(("law" : Str) ++ ".<locals>.") ++ "<lambda>" = G.lq
 tab:G.tab=some A.P
 code:A.fd_q0.code=.ref A.cc
theorem MF:(["one","other"]:List Str).Nodup:=by decide +kernel
theorem l8:(["part","many"]:List Str).Nodup:=by decide +kernel
theorem l9:(["thing","many"]:List Str).Nodup:=by decide +kernel
theorem yP:(["a","b"]:List Str).Nodup:=by decide +kernel
theorem yQ:(["a","b","middle","c","pairs"]:List Str).Nodup:=by decide +kernel
theorem MG:(["thing","many","pairs"]:List Str).Nodup:=by decide +kernel
theorem MH:(["order","many","pairs"]:List Str).Nodup:=by decide +kernel
theorem m3:(["at","text"]:List Str).Nodup:=by decide +kernel
theorem m4:(["text","order"]:List Str).Nodup:=by decide +kernel
theorem m5:(["_law_script","_law_k","_law_cell"]:List Str).Nodup:=by decide +kernel
theorem DW:(["_law_state_here","_law_many","_law_found","_law_stirred"]:List Str).Nodup:=by decide +kernel
theorem MI:(["_law_state_here","_law_things","_law_left","_law_found"]:List Str).Nodup:=by decide +kernel
theorem rP:(["_law_pairs","_law_found","_law_later","_law_a","_law_b"]:List Str).Nodup:=by decide +kernel
theorem MJ:(["_law_c","_law_d","_law_a","_law_b"]:List Str).Nodup:=by decide +kernel
theorem jN:(["_law_state_here","_law_most","_law_many","_law_row","_law_way","_law_pairs","_law_marks","_law_i","_law_j","_law_near"]:List Str).Nodup:=by decide +kernel
theorem m6:(["_law_thing","_law_state_here"]:List Str).Nodup:=by decide +kernel
theorem m7:(["_law_j","_law_i","_law_marks"]:List Str).Nodup:=by decide +kernel
theorem MK:(["_law_thing","_law_pair","_law_found"]:List Str).Nodup:=by decide +kernel
theorem yR:(["_law_a","_law_b"]:List Str).Nodup:=by decide +kernel
theorem ML:(["_law_one","_law_other"]:List Str).Nodup:=by decide +kernel
theorem yS:(["_law_call","_law_error","e","_law_marks"]:List Str).Nodup:=by decide +kernel
theorem m8:(["_law_k","_law_marks"]:List Str).Nodup:=by decide +kernel
theorem yT:(["_law_text","_law_words","_law_pairs","_law_word","_law_found"]:List Str).Nodup:=by decide +kernel
theorem lF:(["_law_state_here","_law_text","_law_at","_law_signs","_law_sign","_law_left","_law_right","_law_words","_law_one","_law_other","_law_word","_law_some","_law_rest"]:List Str).Nodup:=by decide +kernel
theorem pG:(["_law_script","_law_k","_law_state_here","_law_order_here","_law_text","_law_turn","_law_due","_law_odd"]:List Str).Nodup:=by decide +kernel
section
variable{P:bg}{w:cq}{K:ar}{mg:Str->Option af}{base:cx}{G:Cfg}{A:Ad}
theorem m9:FnScope ["thing"] ["thing"] (bA DI):=dQ
theorem n9 (T:Tx K mg G A):FnOk P w K mg base (bO P w base) 1 A.f_qy A.fd_qy ["thing"] (cR G F_qy):=eU (k:=0) T.F_qy m9 T.hK λ_ _ _ _ _ _ _ g=>(bJ (cA (oF (JP rfl T.z_isinstance rfl T.z_int (aE 0)) (oE (A5 (wY rfl T.z_isinstance rfl T.z_bool (aE 0)))))))
theorem o7:FnScope ["thing","low","high"] ["thing","low","high"] (bA DJ):=dQ
theorem MM (T:Tx K mg G A):FnOk P w K mg base (bO P w base) 2 A.f_qm A.fd_qm ["thing","low","high"] (cR G F_qm):=eU (k:=1) T.F_qm o7 T.hK λ_ _ _ _ _ _ _ g=>(bJ (cA (oF (bZ g (n9 T) T.m_qy T.F_qy.kp T.B_qy (aH (aE 0) aM)) (oE (XO (aE 1) (aE 0) (aE 2))))))
theorem p0:FnScope ["parts"] ["parts"] (bA yF):=dQ
theorem p6 (T:Tx K mg G A):FnOk P w K mg base (bO P w base) 1 A.f_qv A.fd_qv ["parts"] (cR G F_qv):=eU (k:=0) T.F_qv p0 T.hK λ_ _ _ _ _ _ _ g=>(bJ (cA (tN g.calm rfl T.z_all (jF g.calm (iY (N:=["one","other"]) (cap:=[none,none]) (os:=(bA yF)) (oN:=["parts"])) (IT rfl T.z_zip (aH (aE 0) (aH (lY (aE 0) (gA aO) hO) aM))) (λ_ _ _=>(jX (fV g).calm (eV (cJ (i:=0) MF) (eV (cJ (i:=1) MF) jW)))) (λ_ _ _=>lQ) (λ_ _ _=>(LM (fV g) (aE 0) (aE 1)))))))
theorem p7:FnScope ["many","thing"] ["many","thing"] (bA DK):=dQ
theorem p8 (T:Tx K mg G A):FnOk P w K mg base (bO P w base) 3 A.f_qx A.fd_qx ["many","thing"] (cR G F_qx):=eU (k:=2) T.F_qx p7 T.hK λ_ _ _ _ _ _ _ g=>(bJ (cA (bZ g (MM T) T.m_qm T.F_qm.kp T.B_qm (aH (aE 1) (aH aO (aH (BR (aE 0) aO) aM))))))
theorem p9:FnScope ["many","thing"] ["many","thing"] (bA yG):=dQ
theorem t7 (T:Tx K mg G A):FnOk P w K mg base (bO P w base) 4 A.f_ql A.fd_ql ["many","thing"] (cR G F_ql):=eU (k:=3) T.F_ql p9 T.hK λ_ _ _ _ _ _ _ g=>(bJ (cA (oF (oW rfl T.z_isinstance rfl T.z_tuple (aE 1)) (oE (tN g.calm rfl T.z_all (jF g.calm (iY (N:=["part","many"]) (cap:=[none,some 0]) (os:=(bA yG)) (oN:=["many","thing"])) (oI (aE 1)) (λ_ _ _=>(cJ (i:=0) l8)) (λ_ _ _=>lQ) (λ_ _ _=>(bZ (fV g) (p8 T) T.m_qx T.F_qx.kp T.B_qx (aH (aE 1) (aH (aE 0) aM))))))))))
theorem u0:FnScope ["many","thing"] ["many","thing"] (bA DL):=dQ
theorem u5 (T:Tx K mg G A):FnOk P w K mg base (bO P w base) 5 A.f_qz A.fd_qz ["many","thing"] (cR G F_qz):=eU (k:=4) T.F_qz u0 T.hK λ_ _ _ _ _ _ _ g=>(bJ (cA (oF (bZ g (t7 T) T.m_ql T.F_ql.kp T.B_ql (aH (aE 0) (aH (aE 1) aM))) (oE (nG g (nI rfl T.z_len (aH (aE 1) aM)) aO)))))
theorem u6:FnScope ["many","things"] ["many","things"] (bA yH):=dQ
theorem u7 (T:Tx K mg G A):FnOk P w K mg base (bO P w base) 6 A.f_qt A.fd_qt ["many","things"] (cR G F_qt):=eU (k:=5) T.F_qt u6 T.hK λ_ _ _ _ _ _ _ g=>(bJ (cA (tN g.calm rfl T.z_all (jF g.calm (iY (N:=["thing","many"]) (cap:=[none,some 0]) (os:=(bA yH)) (oN:=["many","things"])) (oI (aE 1)) (λ_ _ _=>(cJ (i:=0) l9)) (λ_ _ _=>lQ) (λ_ _ _=>(bZ (fV g) (u5 T) T.m_qz T.F_qz.kp T.B_qz (aH (aE 1) (aH (aE 0) aM))))))))
theorem u9:FnScope ["pairs"] ["pairs"] (bA yI):=dQ
theorem v7 (T:Tx K mg G A):FnOk P w K mg base (bO P w base) 1 A.f_qu A.fd_qu ["pairs"] (cR G F_qu):=eU (k:=0) T.F_qu u9 T.hK λ_ _ _ _ _ _ _ g=>(bJ (cA (V3 g.calm rfl T.z_any (jF g.calm (iY (N:=["a","b"]) (cap:=[none,none]) (os:=(bA yI)) (oN:=["pairs"])) (oI (aE 0)) (λ_ _ _=>(jX (fV g).calm (eV (cJ (i:=0) yP) (eV (cJ (i:=1) yP) jW)))) (λ_ _ _=>lQ) (λ_ _ _=>(nG (fV g) (aE 0) (aE 1)))))))
theorem v8:FnScope ["pairs"] ["pairs"] (bA yJ):=dQ
theorem v9 (T:Tx K mg G A):FnOk P w K mg base (bO P w base) 1 A.f_qh A.fd_qh ["pairs"] (cR G F_qh):=eU (k:=0) T.F_qh v8 T.hK λ_ _ _ _ _ _ _ g=>(bJ (cA (tN g.calm rfl T.z_all (VA g.calm (iY (N:=["a","b","middle","c","pairs"]) (cap:=[none,none,none,none,some 0]) (os:=(bA yJ)) (oN:=["pairs"])) (oI (aE 0)) (λ_ _ _=>(jX (fV g).calm (eV (cJ (i:=0) yQ) (eV (cJ (i:=1) yQ) jW)))) (λ_ _ _=>lQ) (λ_ _ _=>(oI (aE 4))) (λ_ _ _=>(jX (fV g).calm (eV (cJ (i:=2) yQ) (eV (cJ (i:=3) yQ) jW)))) (λ_ _ _=>(tK (rE (fV g) (aE 1) (aE 2)))) (λ_ _ _=>(YG (fV g) (lL (aH (aE 0) (aH (aE 3) aM))) (aE 4)))))))
theorem y8:FnScope ["thing","many","pairs"] ["thing"] (bA DM):=dQ
theorem MN (T:Tx K mg G A):FnOk P w K mg base (bO P w base) 7 A.f_qw A.fd_qw ["thing"] (cR G F_qw):=eU (k:=6) T.F_qw y8 T.hK λ_ _ _ _ _ _ _ g=>(bB (eC (SndW.t (fZ (gZ (fJ (oW rfl T.z_isinstance rfl T.z_tuple (aE 0)))) (kM (iL g (nI rfl T.z_len (aH (aE 0) aM)) aO)))) (bJ (cA gY)) eQ) (bB (HV (aE 0) (jX g.calm (eV (cJ (i:=1) MG) (eV (cJ (i:=2) MG) jW)))) (bB (eC (SndW.t (fZ (gZ (fJ (bZ g (MM T) T.m_qm T.F_qm.kp T.B_qm (aH (aE 1) (aH aO (aH (XA rfl T.c_MOST_THINGS) aM)))))) (kM (gZ (fJ (oW rfl T.z_isinstance rfl T.z_tuple (aE 2))))))) (bJ (cA gY)) eQ) (bB (eC (SndW.t (fZ (gZ (fJ (bZ g (u7 T) T.m_qt T.F_qt.kp T.B_qt (aH (aE 1) (aH (aE 2) aM))))) (kM (gZ (fJ (bZ g (p6 T) T.m_qv T.F_qv.kp T.B_qv (aH (aE 2) aM))))))) (bJ (cA gY)) eQ) (bJ (cA (oF (A5 (bZ g (v7 T) T.m_qu T.F_qu.kp T.B_qu (aH (aE 2) aM))) (oE (bZ g (v9 T) T.m_qh T.F_qh.kp T.B_qh (aH (aE 2) aM))))))))))
theorem y9:FnScope ["order"] ["order"] (bA DN):=dQ
theorem z9 (T:Tx K mg G A):FnOk P w K mg base (bO P w base) 8 A.f_qn A.fd_qn ["order"] (cR G F_qn):=eU (k:=7) T.F_qn y9 T.hK λ_ _ _ _ _ _ _ g=>(bJ (eC (gZ (fJ (bZ g (MN T) T.m_qw T.F_qw.kp T.B_qw (aH (aE 0) aM)))) (bJ (BG g rfl T.n_NoOrder T.ns_NoOrder T.x_NoOrder T.ce_NoOrder (aH eK aM))) eQ))
theorem z00:FnScope ["order","many","pairs"] ["order"] (bA yK):=dQ
theorem z01 (T:Tx K mg G A):FnOk P w K mg base (bO P w base) 9 A.f_qo A.fd_qo ["order"] (cR G F_qo):=eU (k:=8) T.F_qo z00 T.hK λ_ _ _ _ _ _ _ g=>(bB (tF (bZ g (z9 T) T.m_qn T.F_qn.kp T.B_qn (aH (aE 0) aM))) (bB (HV (aE 0) (jX g.calm (eV (cJ (i:=1) MH) (eV (cJ (i:=2) MH) jW)))) (bJ (cA (jB (L0 (rM (CV (aE 1)) (rM eK LZ))) (uM eK (qZ (jF g.calm (iY (N:=["a","b"]) (cap:=[none,none]) (os:=(bA yK)) (oN:=["order","many","pairs"])) (oI (aE 2)) (λ_ _ _=>(jX (fV g).calm (eV (cJ (i:=0) yP) (eV (cJ (i:=1) yP) jW)))) (λ_ _ _=>lQ) (λ_ _ _=>(L0 (rM eK (rM (CV (aE 0)) (rM eK (rM (CV (aE 1)) LZ))))))))))))))
theorem z02:FnScope ["text"] ["text"] (bA yL):=dQ
theorem z03 (T:Tx K mg G A):FnOk P w K mg base (bO P w base) 1 A.f_qd A.fd_qd ["text"] (cR G F_qd):=eU (k:=0) T.F_qd z02 T.hK λ_ _ _ _ _ _ _ g=>(bJ (cA (V4 rfl T.z_tuple (jF g.calm (iY (N:=["at","text"]) (cap:=[none,some 0]) (os:=(bA yL)) (oN:=["text"])) (XE rfl T.z_range (aH aO (aH (uL rfl T.z_len (aH (aE 0) aM)) (aH aO aM)))) (λ_ _ _=>(cJ (i:=0) m3)) (λ_ _ _=>lQ) (λ_ _ _=>(lL (aH (CY (CU rfl T.c_FIGURES) (jL (aE 1) (eZ (aE 0) aO))) (aH (CY (CU rfl T.c_FIGURES) (jL (aE 1) (eZ (aE 0) aO))) aM))))))))
theorem z04:FnScope ["text","order"] ["text"] (bA DO):=dQ
theorem DX (T:Tx K mg G A):FnOk P w K mg base (bO P w base) 10 A.f_qp A.fd_qp ["text"] (cR G F_qp):=eU (k:=9) T.F_qp z04 T.hK λ_ _ _ _ _ _ _ g=>(bB (eC (SndW.t (fZ (gZ (fJ (X0 rfl T.z_isinstance rfl T.z_str (aE 0)))) (kM (iL g (qD (uL rfl T.z_len (aH (aE 0) aM)) aO) aO)))) (bJ (BG g rfl T.n_NoText T.ns_NoText T.x_NoText T.ce_NoText (aH eK aM))) eQ) (bB (cB (i:=1) m4 (lL (aH (CY (CU rfl T.c_FIGURES) (jL (aE 0) aO)) (aH (bZ g (z03 T) T.m_qd T.F_qd.kp T.B_qd (aH (aE 0) aM)) aM)))) (bB (eC (SndW.t (fZ (gZ (fJ (bZ g (MN T) T.m_qw T.F_qw.kp T.B_qw (aH (aE 1) aM)))) (kM (iL g (bZ g (z01 T) T.m_qo T.F_qo.kp T.B_qo (aH (aE 1) aM)) (aE 0))))) (bJ (BG g rfl T.n_NoText T.ns_NoText T.x_NoText T.ce_NoText (aH eK aM))) eQ) (bJ (cA (aE 1))))))
theorem z05:FnScope ["_law_script","_law_k"] ["_law_script","_law_k"] (bA DP):=dQ
theorem z06 (T:Tx K mg G A):FnOk P w K mg base (bO P w base) 1 A.f_qe A.fd_qe ["_law_script","_law_k"] (cR G (F_qe G.scr)):=eU (k:=0) (N:=["_law_script","_law_k"]) (mb:=(xV G.scr)) T.F_qe z05 T.hK λ_ _ _ _ _ _ _ g=>(bB (eC (CK g (aE 1) (HP rfl T.z_len (aH (aE 0) aM))) (bJ (cA (UL (aE 0) (aE 1)))) eQ) (bJ (cA aO)))
theorem z07:FnScope ["_law_script","_law_k","_law_cell"] ["_law_script","_law_k"] (bA DQ):=dQ
theorem z08 (T:Tx K mg G A):FnOk P w K mg base (bO P w base) 2 A.f_qj A.fd_qj ["_law_script","_law_k"] (cR G (F_qj G.scr)):=eU (k:=1) (N:=["_law_script","_law_k","_law_cell"]) (mb:=(xW G.scr)) T.F_qj z07 T.hK λ_ _ _ _ _ _ _ g=>(bB (cB (i:=2) m5 (bZ g (z06 T) T.m_qe T.F_qe.kp T.B_qe (aH (aE 0) (aH (aE 1) aM)))) (bB (eC (JM (aE 2) (JL aO aO)) (bJ (cA (eO (aH (BR (aE 2) (JL aO aO)) (aH gY aM))))) eQ) (bJ (cA (eO (aH (qD (aE 2) aO) (aH gY aM)))))))
theorem z09:FnScope ["_law_state_here","_law_many","_law_found","_law_stirred"] ["_law_state_here","_law_many"] (bA DR):=dQ
theorem iO (T:Tx K mg G A):FnOk P w K mg base (bO P w base) 1 A.f_qs A.fd_qs ["_law_state_here","_law_many"] (cR G F_qs):=eU (k:=0) T.F_qs z09 T.hK λ_ _ _ _ _ _ _ g=>(bB (eC (fJ (cG (aE 0) aO)) (bB (cB (i:=2) DW (qD (cG (aE 0) aO) (aE 1))) (bB (IQ (aE 0) aO (JS (cG (aE 0) aO) (aE 1))) (bJ (cA (aE 2))))) eQ) (bB (IQ (aE 0) aO (qD (eZ (tV (cG (aE 0) aO) aO) aO) aO)) (bB (cB (i:=3) DW (qD (eZ (eZ (tV (cG (aE 0) aO) (cG (aE 0) aO)) (tV aO (cG (aE 0) aO))) aO) aO)) (bB (cB (i:=3) DW (qD (eZ (tV (aE 3) (aE 3)) (tV aO (aE 3))) aO)) (bJ (cA (qD (JS (aE 3) aO) (aE 1))))))))
theorem z0a:FnScope ["_law_state_here","_law_things","_law_left","_law_found"] ["_law_state_here","_law_things"] (bA DS):=dQ
theorem z0b (T:Tx K mg G A):FnOk P w K mg base (bO P w base) 2 A.f_qa A.fd_qa ["_law_state_here","_law_things"] (cR G F_qa):=eU (k:=1) T.F_qa z0a T.hK λ_ _ _ _ _ _ _ g=>(bB (cB (i:=2) MI (BU rfl T.z_list (aH (aE 1) aM))) (bB (cB (i:=3) MI (eO aM)) (bB (JG 40 g.own (iL g (aE 2) (eO aM)) (bJ (tF (BK (aE 3) (W7 (aE 2) (bZ g (iO T) T.m_qs T.F_qs.kp T.B_qs (aH (aE 0) (aH (nI rfl T.z_len (aH (aE 2) aM)) aM)))))))) (bJ (cA (aE 3))))))
theorem z0c:FnScope ["_law_pairs","_law_found","_law_later","_law_a","_law_b"] ["_law_pairs"] (bA yM):=dQ
theorem MP (T:Tx K mg G A):FnOk P w K mg base (bO P w base) 1 A.f_qg A.fd_qg ["_law_pairs"] (cR G F_qg):=eU (k:=0) T.F_qg z0c T.hK λ_ _ _ _ _ _ _ g=>(bB (cB (i:=1) rP (LO g rfl T.z_sorted rfl T.z_set (aH (aE 0) aM))) (bJ (JG 40 g.own (fJ gY) (bB (cB (i:=2) rP (BU rfl T.z_list (aH (aE 1) aM))) (bB (oJ g.own g.calm (tH (aE 1)) (jX g.calm (eV (cJ (i:=3) rP) (eV (cJ (i:=4) rP) jW))) (bJ (tF (V6 (aE 2) (jF g.calm (iY (N:=["_law_c","_law_d","_law_a","_law_b"]) (cap:=[none,none,some 3,some 4]) (os:=(bA yM)) (oN:=["_law_pairs","_law_found","_law_later","_law_a","_law_b"])) (tH (aE 1)) (λ_ _ _=>(jX (fV g).calm (eV (cJ (i:=0) MJ) (eV (cJ (i:=1) MJ) jW)))) (λ_ _ _=>(tK (rE (fV g) (aE 3) (aE 0)))) (λ_ _ _=>(lL (aH (aE 2) (aH (aE 1) aM))))))))) (bB (cB (i:=2) rP (LO g rfl T.z_sorted rfl T.z_set (aH (aE 2) aM))) (bB (eC (rE g (aE 2) (aE 1)) (bJ (cA (aE 1))) eQ) (bJ (cB (i:=1) rP (aE 2))))))))))
theorem z0d:FnScope ["_law_state_here","_law_most","_law_many","_law_row","_law_way","_law_pairs","_law_marks","_law_i","_law_j","_law_near"] ["_law_state_here","_law_most"] (bA uN):=dQ
theorem z0e (T:Tx K mg G A):FnOk P w K mg base (bO P w base) 3 A.f_qi A.fd_qi ["_law_state_here","_law_most"] (cR G F_qi):=eU (k:=2) T.F_qi z0d T.hK λ_ _ _ _ _ _ _ g=>(bB (cB (i:=2) jN (BR (aE 1) (cG (eO (aH aO (aH aO (aH aO (aH aO (aH aO (aH aO (aH aO (aH aO aM))))))))) (bZ g (iO T) T.m_qs T.F_qs.kp T.B_qs (aH (aE 0) (aH aO aM)))))) (bB (cB (i:=2) jN (HS g.calm rfl T.z_max (aH aO (aH (aE 2) aM)))) (bB (cB (i:=3) jN (bZ g (z0b T) T.m_qa T.F_qa.kp T.B_qa (aH (aE 0) (aH (c7 g rfl T.z_list rfl T.z_range (aH (aE 2) aM)) aM)))) (bB (cB (i:=4) jN (bZ g (iO T) T.m_qs T.F_qs.kp T.B_qs (aH (aE 0) (aH aO aM)))) (bB (cB (i:=5) jN (eO aM)) (bB (cB (i:=6) jN (qZ (jF g.calm (iY (N:=["_law_thing","_law_state_here"]) (cap:=[none,some 0]) (os:=(bA uN)) (oN:=["_law_state_here","_law_most","_law_many","_law_row","_law_way","_law_pairs","_law_marks","_law_i","_law_j","_law_near"])) (tH (aE 3)) (λ_ _ _=>(cJ (i:=0) m6)) (λ_ _ _=>lQ) (λ_ _ _=>(bZ (fV g) (iO T) T.m_qs T.F_qs.kp T.B_qs (aH (aE 1) (aH aO aM))))))) (bB (oJ g.own g.calm (qY rfl T.z_range (aH (aE 2) aM)) (cJ (i:=7) jN) (bJ (oJ g.own g.calm (UW rfl T.z_range (aH (eZ (aE 7) aO) (aH (aE 2) aM))) (cJ (i:=8) jN) (bB (cB (i:=9) jN (eO (aH (nG g (bZ g (iO T) T.m_qs T.F_qs.kp T.B_qs (aH (aE 0) (aH aO aM))) aO) (aH (nG g (bZ g (iO T) T.m_qs T.F_qs.kp T.B_qs (aH (aE 0) (aH aO aM))) aO) (aH (XN (bZ g (iO T) T.m_qs T.F_qs.kp T.B_qs (aH (aE 0) (aH aO aM))) aO) aM))))) (bB (cB (i:=9) jN (eZ (aE 9) (eO (aH (LM g (cG (aE 6) (aE 7)) (cG (aE 6) (aE 8))) (aH (nG g (cG (aE 6) (aE 7)) (cG (aE 6) (aE 8))) aM))))) (bJ (eC (fJ (cG (aE 9) (aE 4))) (bJ (tF (BK (aE 5) (lL (aH (cG (aE 3) (aE 7)) (aH (cG (aE 3) (aE 8)) aM)))))) eQ))))))) (bB (eC (rE g (aE 4) aO) (bB (cB (i:=5) jN (eO aM)) (bJ (oJ g.own g.calm (qY rfl T.z_range (aH (aE 2) aM)) (cJ (i:=7) jN) (bJ (cB (i:=5) jN (eZ (aE 5) (qZ (jF g.calm (iY (N:=["_law_j","_law_i","_law_marks"]) (cap:=[none,some 7,some 6]) (os:=(bA uN)) (oN:=["_law_state_here","_law_most","_law_many","_law_row","_law_way","_law_pairs","_law_marks","_law_i","_law_j","_law_near"])) (qY rfl T.z_range (aH (aE 2) aM)) (λ_ _ _=>(cJ (i:=0) m7)) (λ_ _ _=>(tK (CK (fV g) (cG (aE 2) (aE 1)) (cG (aE 2) (aE 0))))) (λ_ _ _=>(lL (aH (aE 1) (aH (aE 0) aM)))))))))))) eQ) (bJ (cA (lL (aH (aE 2) (aH (HR rfl T.z_tuple (aH (bZ g (MP T) T.m_qg T.F_qg.kp T.B_qg (aH (aE 5) aM)) aM)) aM)))))))))))))
theorem z0f:FnScope ["_law_thing"] ["_law_thing"] (bA DT):=dQ
theorem DY (T:Tx K mg G A):FnOk P w K mg base (bO P w base) 1 A.f_qk A.fd_qk ["_law_thing"] (cR G F_qk):=eU (k:=0) T.F_qk z0f T.hK λ_ _ _ _ _ _ _ g=>(bJ (cA (oF (JP rfl T.z_isinstance rfl T.z_int (aE 0)) (oE (A5 (wY rfl T.z_isinstance rfl T.z_bool (aE 0)))))))
theorem z0g:FnScope ["_law_thing","_law_pair","_law_found"] ["_law_thing"] (bA yN):=dQ
theorem z0h (T:Tx K mg G A):FnOk P w K mg base (bO P w base) 2 A.f_qb A.fd_qb ["_law_thing"] (cR G F_qb):=eU (k:=1) T.F_qb z0g T.hK λ_ _ _ _ _ _ _ g=>(bB (eC (SndW.t (fZ (gZ (fJ (oW rfl T.z_isinstance rfl T.z_tuple (aE 0)))) (fZ (iL g (nI rfl T.z_len (aH (aE 0) aM)) aO) (fZ (gZ (fJ (bZ g (DY T) T.m_qk T.F_qk.kp T.B_qk (aH (cG (aE 0) aO) aM)))) (kM (gZ (XQ aO (cG (aE 0) aO) aO))))))) (bJ (cA gY)) eQ) (bB (eC (gZ (fJ (oW rfl T.z_isinstance rfl T.z_tuple (cG (aE 0) aO)))) (bJ (cA gY)) eQ) (bB (oJ g.own g.calm (oI (cG (aE 0) aO)) (cJ (i:=1) MK) (bB (eC (SndW.t (fZ (gZ (fJ (oW rfl T.z_isinstance rfl T.z_tuple (aE 1)))) (fZ (iL g (nI rfl T.z_len (aH (aE 1) aM)) aO) (fZ (gZ (fJ (bZ g (DY T) T.m_qk T.F_qk.kp T.B_qk (aH (cG (aE 1) aO) aM)))) (kM (gZ (fJ (bZ g (DY T) T.m_qk T.F_qk.kp T.B_qk (aH (cG (aE 1) aO) aM))))))))) (bJ (cA gY)) eQ) (bJ (eC (SndW.t (fZ (rE g (cG (aE 1) aO) (cG (aE 1) aO)) (fZ (CK g (d7 g.calm rfl T.z_min (aH (aE 1) aM)) aO) (kM (JM (d6 g.calm rfl T.z_max (aH (aE 1) aM)) (cG (aE 0) aO)))))) (bJ (cA gY)) eQ)))) (bB (cB (i:=2) MK (bZ g (MP T) T.m_qg T.F_qg.kp T.B_qg (aH (cG (aE 0) aO) aM))) (bJ (cA (oF (nG g (aE 2) (BU rfl T.z_list (aH (cG (aE 0) aO) aM))) (oE (nG g (qZ (jF g.calm (iY (N:=["_law_a","_law_b"]) (cap:=[none,none]) (os:=(bA yN)) (oN:=["_law_thing","_law_pair","_law_found"])) (tH (aE 2)) (λ_ _ _=>(jX (fV g).calm (eV (cJ (i:=0) yR) (eV (cJ (i:=1) yR) jW)))) (λ_ _ _=>(tK (rE (fV g) (aE 0) (aE 1)))) (λ_ _ _=>aO))) (eO aM))))))))))
theorem z0i:FnScope ["_law_found","_law_due"] ["_law_found","_law_due"] (bA yO):=dQ
theorem MQ (T:Tx K mg G A):∀n,FnOk P w K mg base (bO P w base) n A.f_qr A.fd_qr ["_law_found","_law_due"] (cR G (F_qr n))
 |0=>X5
 |n+1=>by have okS:=MQ T n;exact eU (N:=["_law_found","_law_due"]) (mb:=xX (F_qr n)) T.F_qr z0i T.hK λ_ _ _ _ _ _ _ g=>(bB (eC (fJ (X2 rfl T.z_isinstance rfl T.z_tuple rfl T.z_list (aE 1))) (bB (eC (SndW.t (fZ (iL g (oW rfl T.z_isinstance rfl T.z_tuple (aE 0)) (oW rfl T.z_isinstance rfl T.z_tuple (aE 1))) (kM (iL g (JQ rfl T.z_isinstance rfl T.z_list (aE 0)) (JQ rfl T.z_isinstance rfl T.z_list (aE 1)))))) (bJ (cA gY)) eQ) (bB (eC (iL g (nI rfl T.z_len (aH (aE 0) aM)) (nI rfl T.z_len (aH (aE 1) aM))) (bJ (cA gY)) eQ) (bJ (cA (tN g.calm rfl T.z_all (jF g.calm (iY (N:=["_law_one","_law_other"]) (cap:=[none,none]) (os:=(bA yO)) (oN:=["_law_found","_law_due"])) (IT rfl T.z_zip (aH (aE 0) (aH (aE 1) aM))) (λ_ _ _=>(jX (fV g).calm (eV (cJ (i:=0) ML) (eV (cJ (i:=1) ML) jW)))) (λ_ _ _=>lQ) (λ_ _ _=>(IG (fV g) okS (ak _) rfl T.m_qr T.F_qr.kp T.B_qr (aH (aE 0) (aH (aE 1) aM)))))))))) eQ) (bJ (cA (oF (nG g (aE 0) (aE 1)) (oE (nG g (wY rfl T.z_isinstance rfl T.z_bool (aE 0)) (wY rfl T.z_isinstance rfl T.z_bool (aE 1))))))))
theorem z0j:FnScope ["_law_call","_law_error","e","_law_marks"] ["_law_call"] (bA qJ):=dQ
theorem z0k {k:Nat}(T:Tx K mg G A) (cdv:af) (Ar:cn) (outer:List Env) (s:ag) (H:Hp) (E₀ E:XK) (g:Good (gX (bO P w base) P w K mg base ["_law_call","_law_error","e","_law_marks"] "_law_refused" (bA qJ) A.f_qf cdv Ar outer s H E₀) G E k):jE (gX (bO P w base) P w K mg base ["_law_call","_law_error","e","_law_marks"] "_law_refused" (bA qJ) A.f_qf cdv Ar outer s H E₀) G E ((jR qJ).drop 2) kD:=(bB (cB (i:=3) yS (eO (aH (kX rfl T.z_isinstance rfl T.n_NoOrder (aE 1) (λ_ h=>by cases h) T.kt0) (aH (kX rfl T.z_isinstance rfl T.n_NoNumber (aE 1) (λ_ h=>by cases h) T.kt1) (aH (kX rfl T.z_isinstance rfl T.n_NoPairs (aE 1) (λ_ h=>by cases h) T.kt2) aM))))) (bB (cB (i:=3) yS (eZ (aE 3) (eO (aH (kX rfl T.z_isinstance rfl T.n_Round (aE 1) (λ_ h=>by cases h) T.kt3) (aH (kX rfl T.z_isinstance rfl T.n_NoThing (aE 1) (λ_ h=>by cases h) T.kt4) (aH (kX rfl T.z_isinstance rfl T.n_NoRow (aE 1) (λ_ h=>by cases h) T.kt5) aM)))))) (bB (cB (i:=3) yS (eZ (aE 3) (eO (aH (kX rfl T.z_isinstance rfl T.n_TooMany (aE 1) (λ_ h=>by cases h) T.kt6) (aH (kX rfl T.z_isinstance rfl T.n_TooFew (aE 1) (λ_ h=>by cases h) T.kt7) (aH (kX rfl T.z_isinstance rfl T.n_NoText (aE 1) (λ_ h=>by cases h) T.kt8) aM)))))) (bB (cB (i:=3) yS (eZ (aE 3) (eO (aH (kX rfl T.z_isinstance rfl T.n_NoLine (aE 1) (λ_ h=>by cases h) T.kt9) (aH (kX rfl T.z_isinstance rfl T.n_NoDeed (aE 1) (λ_ h=>by cases h) T.kt10) aM))))) (bB (eC (gZ (fJ (X3 rfl T.z_isinstance rfl T.z_ValueError (aE 1) (λ_ h=>by cases h) T.ktV))) (bJ (cA qS)) eQ) (bJ (cA (qZ (jF g.calm (iY (N:=["_law_k","_law_marks"]) (cap:=[none,some 3]) (os:=(bA qJ)) (oN:=["_law_call","_law_error","e","_law_marks"])) (qY rfl T.z_range (aH aO aM)) (λ_ _ _=>(cJ (i:=0) m8)) (λ_ _ _=>(tK (fJ (cG (aE 1) (aE 0))))) (λ_ _ _=>(aE 0)))))))))))
theorem MR {k:Nat}{Nl:List Str}{params:ku}{body:bj}{scope:gw}{me:M Dv}(T:Tx K mg G A) (LS:LamScope Nl scope) (hb:∀(cl:List (Str×ah)) (pm cdv ct:af),bindArgs (pd "<lambda>" G.lq params body scope cl pm cdv ct) ⟨[],[]⟩=pure [])
  (hbody:∀(f:ah) (cdv:af) (cl:List (Str×ah)) (A:cn) (outer:List Env) (s:ag) (H:Hp) (E₀ E:XK),Good (jI P w K mg base Nl G.lq scope f cdv cl A outer s H E₀) G E k->aI (jI P w K mg base Nl G.lq scope f cdv cl A outer s H E₀) G E body me):
  FnOk P w K mg base (bO P w base) (k+2) A.f_qf A.fd_qf ["_law_call"] (wR G base Nl params body scope me 4 11 kD):=
 WT T.F_qf z0j T.hK rfl rfl rfl rfl rfl rfl rfl (by decide) (by decide) (by decide) (by decide) (by decide) (λ_ _=>rfl) (λ_ _=>rfl) (λ_ _=>rfl) rfl T.n_NearError T.e1 T.e2 T.e3 T.e4 LS hb hbody (z0k T)
theorem z0l:FnScope ["_law_text","_law_words","_law_pairs","_law_word","_law_found"] ["_law_text"] (bA DU):=dQ
theorem z0m (T:Tx K mg G A):FnOk P w K mg base (bO P w base) 3 A.f_qc A.fd_qc ["_law_text"] (cR G F_qc):=eU (k:=2) T.F_qc z0l T.hK λ_ _ _ _ _ _ _ g=>(bB (cB (i:=1) yT (MD (aE 0) eK)) (bB (eC (SndW.t (fZ (iL g (uL rfl T.z_len (aH (cG (aE 1) aO) aM)) aO) (fZ (DC (jL (cG (aE 1) aO) aO) eK) (kM (iL g (jL (cG (aE 1) aO) aO) eK))))) (bJ (cA qS)) eQ) (bB (cB (i:=2) yT (eO aM)) (bB (oJ g.own g.calm (tH (lY (aE 1) (gA aO) hO)) (cJ (i:=3) yT) (bB (eC (SndW.t (fZ (iL g (uL rfl T.z_len (aH (aE 3) aM)) aO) (fZ (DC (jL (aE 3) aO) eK) (fZ (iL g (jL (aE 3) aO) eK) (kM (DC (jL (aE 3) aO) eK)))))) (bJ (cA qS)) eQ) (bJ (tF (BK (aE 2) (lL (aH (DE rfl T.z_int (aH (jL (aE 3) aO) aM)) (aH (DE rfl T.z_int (aH (jL (aE 3) aO) aM)) aM)))))))) (bB (cB (i:=4) yT (lL (aH (DE rfl T.z_int (aH (jL (cG (aE 1) aO) aO) aM)) (aH (HR rfl T.z_tuple (aH (aE 2) aM)) aM)))) (bJ (cA (j6 (fJ (bZ g (z0h T) T.m_qb T.F_qb.kp T.B_qb (aH (aE 4) aM))) (aE 4) qS))))))))
theorem z0n:FnScope ["_law_state_here","_law_text","_law_at","_law_signs","_law_sign","_law_left","_law_right","_law_words","_law_one","_law_other","_law_word","_law_some","_law_rest"] ["_law_state_here","_law_text"] (bA DV):=dQ
theorem z0o (T:Tx K mg G A):FnOk P w K mg base (bO P w base) 2 A.f_qq A.fd_qq ["_law_state_here","_law_text"] (cR G F_qq):=eU (k:=1) T.F_qq z0n T.hK λ_ _ _ _ _ _ _ g=>(bB (cB (i:=2) lF (bZ g (iO T) T.m_qs T.F_qs.kp T.B_qs (aH (aE 0) (aH (eZ (uL rfl T.z_len (aH (aE 1) aM)) aO) aM)))) (bB (cB (i:=3) lF eK) (bB (cB (i:=4) lF (cG (eO (aH (jL (aE 3) (bZ g (iO T) T.m_qs T.F_qs.kp T.B_qs (aH (aE 0) (aH aO aM)))) (aH (jL eK (bZ g (iO T) T.m_qs T.F_qs.kp T.B_qs (aH (aE 0) (aH aO aM)))) aM))) (bZ g (iO T) T.m_qs T.F_qs.kp T.B_qs (aH (aE 0) (aH aO aM))))) (bB (LR (i:=5) (j:=6) g.calm lF rfl rfl (by decide) rfl rfl (aH (pF (aE 1) hO (gA (aE 2))) (aH (pF (aE 1) (gA (aE 2)) hO) aM))) (bB (cB (i:=7) lF (MD (aE 1) eK)) (bB (LR (i:=8) (j:=9) g.calm lF rfl rfl (by decide) rfl rfl (aH (bZ g (iO T) T.m_qs T.F_qs.kp T.B_qs (aH (aE 0) (aH (nI rfl T.z_len (aH (aE 7) aM)) aM))) (aH (bZ g (iO T) T.m_qs T.F_qs.kp T.B_qs (aH (aE 0) (aH (nI rfl T.z_len (aH (aE 7) aM)) aM))) aM))) (bB (cB (i:=10) lF (cG (aE 7) (aE 8))) (bB (cB (i:=11) lF (eO (aH (jB (aE 5) (pF (aE 6) (gA aO) hO)) (aH (jB (jB (aE 5) (aE 4)) (aE 6)) (aH (jB (jB (aE 5) (aE 4)) (pF (aE 6) (gA aO) hO)) (aH (jB (jB (jB (aE 5) (pF (aE 6) (gA aO) (gA aO))) (pF (aE 6) hO (gA aO))) (pF (aE 6) (gA aO) hO)) aM)))))) (bB (cB (i:=11) lF (eZ (aE 11) (eO (aH (uM eK (eZ (lY (aE 7) hO (gA (aE 8))) (lY (aE 7) (gA (eZ (aE 8) aO)) hO))) (aH (uM eK (eZ (eZ (lY (aE 7) hO (gA (aE 8))) (eO (aH (aE 10) aM))) (lY (aE 7) (gA (aE 8)) hO))) aM))))) (bB (cB (i:=12) lF (eZ (lY (aE 7) hO (gA (aE 8))) (lY (aE 7) (gA (eZ (aE 8) aO)) hO))) (bB (cB (i:=11) lF (eZ (aE 11) (eO (aH (uM eK (eZ (eZ (lY (aE 12) hO (gA (aE 9))) (eO (aH (aE 10) aM))) (lY (aE 12) (gA (aE 9)) hO))) (aH (aE 1) (aH (jB eK (aE 1)) (aH (jB (aE 1) eK) aM))))))) (bJ (cA (cG (aE 11) (bZ g (iO T) T.m_qs T.F_qs.kp T.B_qs (aH (aE 0) (aH aO aM)))))))))))))))))
theorem z0p:FnScope ["_law_script","_law_k","_law_state_here","_law_order_here","_law_text","_law_turn","_law_due","_law_odd"] ["_law_script"] (bA rO):=dQ
theorem z0q (T:Tx K mg G A) (hC:kq base A.cc A.P) (hB:nE mg base):FnOk P w K mg base (bO P w base) 14 A.f_q0 A.fd_q0 ["_law_script"] (cR G (F_q0 G.scr)):=X4 (k:=13) (N:=["_law_script","_law_k","_law_state_here","_law_order_here","_law_text","_law_turn","_law_due","_law_odd"]) (mb:=yE G.scr) T.F_q0 z0p T.hK λcdv Ar outer s H E₀ E hcd g=>(bB (oJ g.own g.calm (qY rfl T.z_range (aH (HS g.calm rfl T.z_max (aH aO (aH (UR g.calm rfl T.z_min (aH (HP rfl T.z_len (aH (aE 0) aM)) (aH aO aM))) aM))) aM)) (cJ (i:=1) pG) (SWs.ok (uK (SW.mk (cB (i:=2) pG (bZ g (z08 T) T.m_qj T.F_qj.kp T.B_qj (aH (aE 0) (aH (aE 1) aM))))) (uK (SW.mk (cB (i:=3) pG (bZ g (z0e T) T.m_qi T.F_qi.kp T.B_qi (aH (aE 2) (aH aO aM))))) (uK (SW.mk (cB (i:=4) pG (uM eK (eZ (eO (aH (jB (CT rfl T.z_str (aH (cG (aE 3) aO) aM)) eK) aM)) (qZ (jF g.calm (iY (N:=["_law_a","_law_b"]) (cap:=[none,none]) (os:=(bA rO)) (oN:=["_law_script","_law_k","_law_state_here","_law_order_here","_law_text","_law_turn","_law_due","_law_odd"])) (oI (cG (aE 3) aO)) (λ_ _ _=>(jX (fV g).calm (eV (cJ (i:=0) yR) (eV (cJ (i:=1) yR) jW)))) (λ_ _ _=>lQ) (λ_ _ _=>(jB (jB (CT rfl T.z_str (aH (aE 0) aM)) eK) (CT rfl T.z_str (aH (aE 1) aM)))))))))) (uK (SW.mk (oJ g.own g.calm (qY rfl T.z_range (aH aO aM)) (cJ (i:=5) pG) (bB (cB (i:=6) pG (bZ g (z0m T) T.m_qc T.F_qc.kp T.B_qc (aH (aE 4) aM))) (bB (eC (YH (aE 6) qS) (bJ (eC (iL g (JR (Nl:=["_law_text"]) (caps:=[4]) (me:=yB) (os:=bA rO) (oN:=["_law_script","_law_k","_law_state_here","_law_order_here","_law_text","_law_turn","_law_due","_law_odd"]) g (j:=10+2) (by decide) (λ_=>rfl) (λbase _ _=>MR (k:=10) T ⟨rfl,rfl,rfl,by decide +kernel,by decide +kernel,by decide +kernel⟩ (λ_ _ _ _=>rfl) (λ_ _ _ _ _ _ _ _ _ g=>(bZ g (DX T) T.m_qp T.F_qp.kp T.B_qp (aH (aE 0) aM)))) rfl T.m_qf T.F_qf.kp T.B_qf rfl T.lq T.tab (hcd.symm.trans T.code) hC hB ⟨rfl,rfl,rfl,by decide +kernel,by decide +kernel,by decide +kernel⟩ rfl rfl (by decide +kernel) rfl (by decide +kernel)) (eO (aH aO aM))) (bJ (cA gY)) eQ)) (bJ (eC (gZ (fJ (bZ g (MQ T 6) T.m_qr T.F_qr.kp T.B_qr (aH (bZ g (DX T) T.m_qp T.F_qp.kp T.B_qp (aH (aE 4) aM)) (aH (aE 6) aM))))) (bJ (cA gY)) eQ))) (bJ (cB (i:=4) pG (pF (bZ g (z0o T) T.m_qq T.F_qq.kp T.B_qq (aH (aE 2) (aH (aE 4) aM))) hO (gA aO)))))))) (uK (l7 4 (i:=7) pG (bZ g (iO T) T.m_qs T.F_qs.kp T.B_qs (aH (aE 2) (aH aO aM)))) (e7 (SW.mk (eC (iL g (JR (Nl:=["_law_odd"]) (caps:=[7]) (me:=yC) (os:=bA rO) (oN:=["_law_script","_law_k","_law_state_here","_law_order_here","_law_text","_law_turn","_law_due","_law_odd"]) g (j:=10+2) (by decide) (λ_=>rfl) (λbase _ _=>MR (k:=10) T ⟨rfl,rfl,rfl,by decide +kernel,by decide +kernel,by decide +kernel⟩ (λ_ _ _ _=>rfl) (λ_ _ _ _ _ _ _ _ _ g=>(bZ g (DX T) T.m_qp T.F_qp.kp T.B_qp (aH (aE 0) aM)))) rfl T.m_qf T.F_qf.kp T.B_qf rfl T.lq T.tab (hcd.symm.trans T.code) hC hB ⟨rfl,rfl,rfl,by decide +kernel,by decide +kernel,by decide +kernel⟩ rfl rfl (by decide +kernel) rfl (by decide +kernel)) (eO (aH aO aM))) (bJ (cA gY)) eQ)))))))))) (bJ (cA gY)))
end
end L2.Mr.K91
namespace L2.Mr
open PySem PySem.Spec PyProof.Rows L2
section
variable{H:Hs}{j:Nat}{up up1:List Int}{b v:Int}{ρ:Ev}{x:Nat}
end
section
variable{d:Dv}{r:Int}{i j:Nat}{fs:List Int}
end
section
variable{d:Dv}{n r:Int}{ps qs:List (Int×Int)}{Fl:List Dv->Hs->Rs Dv}
end
theorem yU {α:Type}{src:Src}{sg:cU}{t:M Bool}{m:MC}(xs:List α) (out:α->List Dv) (S:Ev->Hs->Prop)
  (fin:∀ρ h,S ρ h->src.fin h=true)
  (step:∀k (hk:k<xs.length) ρ h,S ρ h->∃d ρ1,src.get k h=some d/\sg d ρ=some ρ1 /\
   ((∃h2,t ρ1 h=.ok false h2/\out xs[k]=[]/\S ρ1 h2)∨∃h2,t ρ1 h=.ok true h2/\∀acc:List Dv,acc.length+(out xs[k]).length<=900000->∃ρ3 h3,m ρ1 h2 acc=.ok (ρ3,acc++out xs[k]) h3/\S ρ3 h3)):
  ∀(f k:Nat) (ρ:Ev) (h:Hs) (acc:List Dv),f+k=xs.length->S ρ h->acc.length+((xs.drop k).flatMap out).length<=900000->∃ρ' h',gJ src sg t m f k ρ h acc=.ok (ρ',acc++(xs.drop k).flatMap out) h'/\S ρ' h'
 |0,k,ρ,h,acc,e,s,hl=>by have:xs.drop k=[]:=List.drop_eq_nil_of_le (by omega);exact⟨ρ,h,by simp[gJ,fin ρ h s,this],s⟩
 |f+1,k,ρ,h,acc,e,s,hl=>by
  have hk:k<xs.length:=by omega
  obtain⟨d,ρ1,e1,e2,e3⟩:=step k hk ρ h s;rw[qf hk,fz]at hl ⊢;rw[br]at hl
  rcases e3 with⟨h2,e3,e4,s2⟩|⟨h2,e3,e4⟩
  ·obtain⟨ρ',h',e5,s5⟩:=yU xs out S fin step f (k+1) ρ1 h2 acc (by omega) s2 (by omega);exact⟨ρ',h',by simp[gJ,e1,e2,e3,e4,e5],s5⟩
  ·obtain⟨ρ3,h3,e6,s3⟩:=e4 acc (by omega);obtain⟨ρ',h',e5,s5⟩:=yU xs out S fin step f (k+1) ρ3 h3 (acc++out xs[k]) (by omega) s3 (by rw[br];omega);exact⟨ρ',h',by simp[gJ,e1,e2,e3,e6,e5],s5⟩
theorem MT {α:Type}{mi:M Src}{cap:List (Option Nat)}{src:Src}{sg:cU}{t:M Bool}{m:MC}{ρ:Ev}{H H1:Hs}(xs:List α) (out:α->List Dv) (S:Ev->Hs->Prop)
  (hi:mi ρ H=.ok src H1) (hn:src.n=xs.length) (s0:S (lO cap ρ) H1) (fin:∀ρ h,S ρ h->src.fin h=true)
  (step:∀k (hk:k<xs.length) ρ h,S ρ h->∃d ρ1,src.get k h=some d/\sg d ρ=some ρ1 /\
   ((∃h2,t ρ1 h=.ok false h2/\out xs[k]=[]/\S ρ1 h2)∨∃h2,t ρ1 h=.ok true h2/\∀acc:List Dv,acc.length+(out xs[k]).length<=900000->∃ρ3 h3,m ρ1 h2 acc=.ok (ρ3,acc++out xs[k]) h3/\S ρ3 h3))
  (hl:(xs.flatMap out).length<=900000):∃ρ' H',cD mi cap sg t m ρ H=.ok (xs.flatMap out) H'/\S ρ' H':=by
 obtain⟨ρ',h',e,s⟩:=yU xs out S fin step xs.length 0 (lO cap ρ) H1 [] (by omega) s0 (by simpa using hl);refine⟨ρ',h', ?_,s⟩;unfold cD;rw[hi,Rs.bind_ok,hn,e];simp
theorem MU {e:M Dv}{ρ:Ev}{h h1:Hs}{d:Dv}{acc:List Dv}(he:e ρ h=.ok d h1) (hl:acc.length+[d].length<=900000):bX e ρ h acc=.ok (ρ,acc++[d]) h1:=by
 have:acc.length<1000000:=by simp at hl;omega
 simp[bX,he,this]
theorem iP {α:Type}{mi:M Src}{cap:List (Option Nat)}{src:Src}{sg:cU}{t:M Bool}{e:M Dv}{ρ:Ev}{H H1:Hs}(xs:List α) (g:α->Option Dv) (S:Ev->Prop)
  (hi:mi ρ H=.ok src H1) (hn:src.n=xs.length) (s0:S (lO cap ρ)) (fin:src.fin H1=true)
  (step:∀k (hk:k<xs.length) ρ,S ρ->∃d ρ1,src.get k H1=some d/\sg d ρ=some ρ1/\S ρ1/\match g xs[k]with
   |none=>t ρ1 H1=.ok false H1
   |some v=>t ρ1 H1=.ok true H1/\e ρ1 H1=.ok v H1)
  (hl:xs.length<=900000):cD mi cap sg t (bX e) ρ H=.ok (xs.filterMap g) H1:=by
 have fm:∀l:List α,l.flatMap (λx=>(g x).toList)=l.filterMap g:=λl=>by
  induction l with
  |nil=>rfl
  |cons x l ih=>rw[fz,ih,cj];cases g x <;> rfl
 have len:(xs.filterMap g).length<=xs.length:=lb g xs;obtain⟨ρ',H',h,_,rfl⟩:=MT (mi:=mi) (cap:=cap) (src:=src) (sg:=sg) (t:=t) (m:=bX e) (ρ:=ρ) (H:=H) (H1:=H1) xs (λx=>(g x).toList) (λρ h=>S ρ/\h=H1) hi hn ⟨s0,rfl⟩ (λρ h s=>by rw[s.2];exact fin)
  (λk hk ρ h ⟨s,e1⟩=>by
   subst e1;obtain⟨d,ρ1,e1,e2,s1,e3⟩:=step k hk ρ s;refine⟨d,ρ1,e1,e2, ?_⟩
   cases q:g xs[k]with
   |none=>rw[q]at e3;exact .inl ⟨h,e3,rfl,s1,rfl⟩
   |some v=>rw[q]at e3;exact .inr ⟨h,e3.1,λacc hl=>⟨ρ1,h,MU e3.2 hl,s1,rfl⟩⟩) (by rw[fm];omega)
 rw[h,fm]
theorem z0r {α β:Type}{mi mj:M Src}{cap:List (Option Nat)}{src:Src}{sg sg2:cU}{t2:M Bool}{e:M Dv}{ρ:Ev}{H H1:Hs}(xs:List α) (ys:α->List β) (g:α->β->Option Dv) (S:Ev->Prop)
  (hi:mi ρ H=.ok src H1) (hn:src.n=xs.length) (s0:S (lO cap ρ)) (fin:src.fin H1=true)
  (step:∀k (hk:k<xs.length) ρ,S ρ->∃(d:Dv) (ρ1:Ev) (src2:Src) (S2:Ev->Prop),src.get k H1=some d/\sg d ρ=some ρ1/\S2 ρ1/\(∀ρ,S2 ρ->S ρ)/\mj ρ1 H1=.ok src2 H1/\src2.n=(ys xs[k]).length/\src2.fin H1=true /\
   ∀j (hj:j<(ys xs[k]).length) ρ,S2 ρ->∃d ρ2,src2.get j H1=some d/\sg2 d ρ=some ρ2/\S2 ρ2/\match g xs[k] (ys xs[k])[j]with
    |none=>t2 ρ2 H1=.ok false H1
    |some v=>t2 ρ2 H1=.ok true H1/\e ρ2 H1=.ok v H1)
  (hl:(xs.flatMap λx=>(ys x).filterMap (g x)).length<=900000):cD mi cap sg dJ (nB mj sg2 t2 (bX e)) ρ H=.ok (xs.flatMap λx=>(ys x).filterMap (g x)) H1:=by
 have fm:∀(x:α) (l:List β),l.flatMap (λy=>(g x y).toList)=l.filterMap (g x):=λx l=>by
  induction l with
  |nil=>rfl
  |cons y l ih=>rw[fz,ih,cj];cases g x y <;> rfl
 obtain⟨ρ',H',h,_,rfl⟩:=MT (mi:=mi) (cap:=cap) (src:=src) (sg:=sg) (t:=dJ) (m:=nB mj sg2 t2 (bX e)) (ρ:=ρ) (H:=H) (H1:=H1) xs (λx=>(ys x).filterMap (g x)) (λρ h=>S ρ/\h=H1) hi hn ⟨s0,rfl⟩ (λρ h s=>by rw[s.2];exact fin)
  (λk hk ρ h ⟨s,e1⟩=>by
   subst e1;obtain⟨d,ρ1,src2,S2,e1,e2,s1,sS,e3,e4,e5,e6⟩:=step k hk ρ s;refine⟨d,ρ1,e1,e2,.inr ⟨h,rfl,λacc hl=>?_⟩⟩;obtain⟨ρ3,h3,r,s3,rfl⟩:=yU (src:=src2) (sg:=sg2) (t:=t2) (m:=bX e) (ys xs[k]) (λy=>(g xs[k] y).toList) (λρ hh=>S2 ρ/\hh=h) (λρ hh s=>by rw[s.2];exact e5)
    (λj hj ρ hh ⟨s,e1⟩=>by
     subst e1;obtain⟨d,ρ2,z1,z2,z3,z4⟩:=e6 j hj ρ s;refine⟨d,ρ2,z1,z2, ?_⟩
     cases q:g xs[k] (ys xs[k])[j]with
     |none=>rw[q]at z4;exact .inl ⟨hh,z4,rfl,z3,rfl⟩
     |some v=>rw[q]at z4;exact .inr ⟨hh,z4.1,λacc hl=>⟨ρ2,hh,MU z4.2 hl,z3,rfl⟩⟩) (ys xs[k]).length 0 ρ1 h acc (by omega) ⟨s1,rfl⟩ (by rw[pq,fm];exact hl)
   refine⟨ρ3,h3, ?_,sS ρ3 s3,rfl⟩;unfold nB;rw[e3];dsimp only;rw[e4,r,pq,fm]) hl
 exact h
theorem z0s {c:M Bool}{b:MS}{f:Nat}{ρ:Ev}{h h1:Hs}(e:c ρ h=.ok false h1):iJ c b (f+1) ρ h=.nx ρ h1:=by show(c ρ h).thenS _=_;rw[e];rfl
theorem MV {c:M Bool}{b:MS}{f:Nat}{ρ ρ2:Ev}{h h1 h2:Hs}(e:c ρ h=.ok true h1) (q:b ρ h1=.nx ρ2 h2):iJ c b (f+1) ρ h=iJ c b f ρ2 h2:=by show(c ρ h).thenS _=_;rw[e];simp[Rs.thenS,q]
theorem z0t {c:M Bool}{b:MS}{f:Nat}{ρ:Ev}{d:Dv}{h h1 h2:Hs}(e:c ρ h=.ok true h1) (q:b ρ h1=.rt d h2):iJ c b (f+1) ρ h=.rt d h2:=by show(c ρ h).thenS _=_;rw[e];simp[Rs.thenS,q]
theorem yV:∀bs:List Bool,bI oO (bs.map Dv.bl)=some bs
 | []=>rfl
 |b::bs=>by rw[cy,bI,yV bs];rfl
end L2.Mr
namespace L2.Mr.Com
open PySem PySem.Spec PyProof.Rows L2 L2.Mr
def bS (n:Nat) (ps:List (Int×Int)):Dv:=.tup [.int n,.tup (ps.map aG)]
theorem rQ {α:Type}{ml:M (List Dv)}{ρ:Ev}{H H1:Hs}{xs:List α}{f:α->Bool}(h:ml ρ H=.ok (xs.filterMap λx=>some (.bl (f x))) H1):mL kQ ml ρ H=.ok (.bl (xs.all f)) H1:=by
 have e:(xs.filterMap λx=>some (Dv.bl (f x)))=(xs.map f).map Dv.bl:=by simp
 unfold mL;rw[h,Rs.bind_ok,e];unfold kQ;rw[yV];simp[List.all_map]
theorem z0u {α:Type}{ml:M (List Dv)}{ρ:Ev}{H H1:Hs}{xs:List α}{f:α->Bool}(h:ml ρ H=.ok (xs.filterMap λx=>some (.bl (f x))) H1):mL tM ml ρ H=.ok (.bl (xs.any f)) H1:=by
 have e:(xs.filterMap λx=>some (Dv.bl (f x)))=(xs.map f).map Dv.bl:=by simp
 unfold mL;rw[h,Rs.bind_ok,e];unfold tM;rw[yV];simp[List.any_map]
section
variable{H:Hs}{n x:Int}{ps:List (Int×Int)}
theorem MW:F_qy [.int x] H=.ok (.bl true) H:=by simp[F_qy,CN,aZ,bU,aL,cT,m1,aA,aU,iA,oV,kW,mV,bL]
theorem DZ {lo hi:Int}:F_qm [.int x,.int lo,.int hi] H=.ok (.bl (decide (lo<=x)&&decide (x<=hi))) H:=by
 by_cases h:lo<=x
 ·simp[F_qm,xT,aZ,bU,aL,cT,aD,aB,aA,aC,MW,iS,hV,hZ,h,bL]
 ·simp[F_qm,xT,aZ,bU,aL,cT,aD,aB,aA,aC,MW,iS,hV,hZ,h,bL]
def isT (n x:Int):Bool:=decide (0<=x)&&decide (x<=n - 1)
theorem z0v:F_qx [.int n,.int x] H=.ok (.bl (isT n x)) H:=by simp[F_qx,CO,aZ,bU,aL,aD,aB,aA,aC,mC,m2,nF,hZ,DZ,bL,isT]
theorem z0w {xs:List Int}(hl:xs.length<=1000):F_ql [.int n,.tup (xs.map Dv.int)] H=.ok (.bl (xs.all (isT n))) H:=by have h:cD (bQ eF (aA 1)) [none,some 0] (aF 0) dJ (bX (aD F_qx (aB (aA 1) (aB (aA 0) aC)))) [some (.int n),some (.tup (xs.map Dv.int))] H=.ok (xs.filterMap λx=>some (.bl (isT n x))) H:=iP xs (λx=>some (.bl (isT n x))) (λρ=>∃a,ρ=[a,some (.int n)]) rfl (by simp[cQ]) ⟨_,rfl⟩ rfl (λk hk ρ ⟨a,e⟩=>by subst e;exact⟨.int xs[k],_,by simp[cQ,hk],rfl,⟨_,rfl⟩,rfl,by simp[aD,aB,aA,aC,z0v]⟩) (by omega);simp[F_ql,xU,aZ,bU,aL,cT,m1,aU,aA,iA,fG,rQ h,bL]
def iQ (n:Int) (p:Int×Int):Bool:=isT n p.1&&isT n p.2
theorem z0x (p:Int×Int):F_qz [.int n,aG p] H=.ok (.bl (iQ n p)) H:=by
 have h:F_ql [.int n,aG p] H=.ok (.bl (iQ n p)) H:=by have:=z0w (H:=H) (n:=n) (xs:=[p.1,p.2]) (by simp);simpa[aG,iQ]using this
 have hlen:f1 dE [aG p] H=.ok (.int 2) H:=rfl
 cases q:iQ n p with
 |false=>simp[F_qz,rL,aZ,bU,aL,cT,aD,aB,aA,aC,h,q,bL]
 |true=>simp[F_qz,rL,aZ,bU,aL,cT,aD,aB,aA,aC,h,q,bL,m2,hlen,mC,bN,bR,bM,bH]
theorem z0y (hl:ps.length<=1000):F_qt [.int n,.tup (ps.map aG)] H=.ok (.bl (ps.all (iQ n))) H:=by have h:cD (bQ eF (aA 1)) [none,some 0] (aF 0) dJ (bX (aD F_qz (aB (aA 1) (aB (aA 0) aC)))) [some (.int n),some (.tup (ps.map aG))] H=.ok (ps.filterMap λp=>some (.bl (iQ n p))) H:=iP ps (λp=>some (.bl (iQ n p))) (λρ=>∃a,ρ=[a,some (.int n)]) rfl (by simp[cQ]) ⟨_,rfl⟩ rfl (λk hk ρ ⟨a,e⟩=>by subst e;exact⟨aG ps[k],_,by simp[cQ,hk],rfl,⟨_,rfl⟩,rfl,by simp[aD,aB,aA,aC,z0x]⟩) (by omega);simp[F_qt,CP,aZ,bU,aL,rQ h,bL]
theorem z0z (hl:ps.length<=1000):F_qu [.tup (ps.map aG)] H=.ok (.bl (ps.any λp=>decide (p.1=p.2))) H:=by have h:cD (bQ eF (aA 0)) [none,none] (cM 2 (bG (aF 0) (bG (aF 1) cO))) dJ (bX (m2 bN (aA 0) (aA 1))) [some (.tup (ps.map aG))] H=.ok (ps.filterMap λp=>some (.bl (decide (p.1=p.2)))) H:=iP ps (λp=>some (.bl (decide (p.1=p.2)))) (λρ=>∃a b,ρ=[a,b]) rfl (by simp[cQ]) ⟨_,_,rfl⟩ rfl (λk hk ρ ⟨a,b,e⟩=>by subst e;refine⟨aG ps[k],[some (.int ps[k].1),some (.int ps[k].2)],by simp[cQ,hk],rfl,⟨_,_,rfl⟩,rfl, ?_⟩;simp[m2,aA,bN,bR,bM,bH];rw[dw];simp) (by omega);simp[F_qu,LW,aZ,bU,aL,z0u h,bL]
theorem z11 (p q:Int×Int):fP (aG p) (aG q) H=.ok (.bl (dO p q)) H:=by simp only[fP,aG,bI,jZ,LK];rw[<-uF];rfl
def mE (ps:List (Int×Int)):Bool:=(ps.zip (ps.drop 1)).all λq=>dO q.1 q.2
theorem rising_of:∀{ps:List (Int×Int)},mE ps=true↔fH dO ps
 | []=>by simp[mE,fH]
 | [p]=>by simp[mE,fH]
 |p::q::r=>by
  have ih:=rising_of (ps:=q::r);have e:mE (p::q::r)=(dO p q&&mE (q::r)):=by simp[mE]
  rw[e,cf,ih];constructor
  ·rintro ⟨h1,h2⟩
   refine fq.mpr ⟨λz hz=>?_,h2⟩
   rcases ay.mp hz with rfl|hz
   ·exact h1
   ·exact stoP.tr _ _ _ h1 ((fq.mp h2).1 z hz)
  ·intro h;have:=fq.mp h;exact⟨this.1 q (by simp),this.2⟩
theorem z12 (ds:List Dv):jK ds (some 1) none=ds.drop 1:=by
 unfold jK;rw[show HT.sIx ds.length 0 (some 1)=min 1 ds.length from HT.sIx_nat ds.length 0 1,HT.sIx_none]
 cases ds with
 |nil=>rfl
 |cons a r=>simp
theorem z13 (hl:ps.length<=1000):F_qv [.tup (ps.map aG)] H=.ok (.bl (mE ps)) H:=by
 have hi:aS oQ (aB (aA 0) (aB (dP (aA 0) (bY (mC (.int 1))) cE) aC)) [some (.tup (ps.map aG))] H=.ok (oP (ps.map aG) ((ps.drop 1).map aG)) H:=by simp[aS,aB,aA,dP,bY,mC,JJ,cE,oZ,aC,oQ,z12,qt]
 have hz:((ps.map aG).zip ((ps.drop 1).map aG)).map (λq=>Dv.tup [q.1,q.2])=(ps.zip (ps.drop 1)).map λq=>Dv.tup [aG q.1,aG q.2]:=by rw[List.zip_map,jl];rfl
 have h:cD (aS oQ (aB (aA 0) (aB (dP (aA 0) (bY (mC (.int 1))) cE) aC))) [none,none] (cM 2 (bG (aF 0) (bG (aF 1) cO))) dJ (bX (m2 fP (aA 0) (aA 1))) [some (.tup (ps.map aG))] H=.ok ((ps.zip (ps.drop 1)).filterMap λq=>some (.bl (dO q.1 q.2))) H:=
  iP (ps.zip (ps.drop 1)) (λq=>some (.bl (dO q.1 q.2))) (λρ=>∃a b,ρ=[a,b]) hi (by simp[oP,cQ]) ⟨_,_,rfl⟩ rfl (λk hk ρ ⟨a,b,e⟩=>by
   subst e;refine⟨.tup [aG (ps.zip (ps.drop 1))[k].1,aG (ps.zip (ps.drop 1))[k].2],[some (aG (ps.zip (ps.drop 1))[k].1),some (aG (ps.zip (ps.drop 1))[k].2)], ?_,rfl,⟨_,_,rfl⟩,rfl, ?_⟩
   ·show(((ps.map aG).zip ((ps.drop 1).map aG)).map (λq=>Dv.tup [q.1,q.2]))[k]?=_;rw[hz,dv,bc hk];rfl
   ·simp only[m2,aA];exact z11 _ _) (by rw[List.length_zip];omega)
 simp[F_qv,LV,aZ,bU,aL,rQ h,bL,mE]
def qK (ps:List (Int×Int)):Bool:=ps.all λp=>ps.all λq=>!decide (p.2=q.1)||decide ((p.1,q.2)∈ps)
theorem z14 (hl:ps.length<=900):F_qh [.tup (ps.map aG)] H=.ok (.bl (qK ps)) H:=by
 let g:Int×Int->Int×Int->Option Dv:=λp q=>if p.2=q.1 then some (.bl (decide ((p.1,q.2)∈ps)))else none
 have h:cD (bQ eF (aA 0)) [none,none,none,none,some 0] (cM 2 (bG (aF 0) (bG (aF 1) cO))) dJ (nB (bQ eF (aA 4)) (cM 2 (bG (aF 2) (bG (aF 3) cO))) (mB (m2 bN (aA 1) (aA 2))) (bX (m2 (qE false) (cC (aB (aA 0) (aB (aA 3) aC))) (aA 4)))) [some (.tup (ps.map aG))] H=.ok (ps.flatMap λp=>ps.filterMap (g p)) H:=
  z0r ps (λ_=>ps) g (λρ=>∃a b c d,ρ=[a,b,c,d,some (.tup (ps.map aG))]) rfl (by simp[cQ]) ⟨_,_,_,_,rfl⟩ rfl (λk hk ρ ⟨a,b,c,d,e⟩=>by
   subst e;refine⟨aG ps[k],[some (.int ps[k].1),some (.int ps[k].2),c,d,some (.tup (ps.map aG))],cQ (ps.map aG),λρ=>∃c d,ρ=[some (.int ps[k].1),some (.int ps[k].2),c,d,some (.tup (ps.map aG))],by simp[cQ,hk],rfl,⟨_,_,rfl⟩,λρ ⟨c,d,e⟩=>⟨_,_,_,_,e⟩,rfl,by simp[cQ],rfl,λj hj ρ ⟨c,d,e⟩=>?_⟩;subst e;refine⟨aG ps[j],[some (.int ps[k].1),some (.int ps[k].2),some (.int ps[j].1),some (.int ps[j].2),some (.tup (ps.map aG))],by simp[cQ,hj],rfl,⟨_,_,rfl⟩, ?_⟩;have te:mB (m2 bN (aA 1) (aA 2)) [some (.int ps[k].1),some (.int ps[k].2),some (.int ps[j].1),some (.int ps[j].2),some (.tup (ps.map aG))] H=.ok (decide (ps[k].2=ps[j].1)) H:=by simp[mB,m2,aA,bN,bR,bM,bH,dI];rw[dw];simp
   by_cases c1:ps[k].2=ps[j].1
   ·rw[decide_eq_true c1]at te;have hg:g ps[k] ps[j]=some (.bl (decide ((ps[k].1,ps[j].2)∈ps))):=if_pos c1;rw[hg];refine⟨te, ?_⟩;have hx:cC (aB (aA 0) (aB (aA 3) aC)) [some (.int ps[k].1),some (.int ps[k].2),some (.int ps[j].1),some (.int ps[j].2),some (.tup (ps.map aG))] H=.ok (aG (ps[k].1,ps[j].2)) H:=rfl;unfold m2;rw[hx,Rs.bind_ok];show(Rs.ok (Dv.tup (ps.map aG)) H).bind _=_;rw[Rs.bind_ok,YI];rfl
   ·rw[decide_eq_false c1]at te;have hg:g ps[k] ps[j]=none:=if_neg c1;rw[hg];exact te) (by
   have:∀l:List (Int×Int),(l.flatMap λp=>ps.filterMap (g p)).length<=l.length*ps.length:=λl=>by
    induction l with
    |nil=>simp
    |cons p l ih=>rw[fz,br,cp,Bg];have:=lb (g p) ps;omega
   have h2:=this ps;have h3:ps.length*ps.length<=900*900:=nh hl hl;omega)
 have hb:(ps.flatMap λp=>ps.filterMap (g p))=(ps.flatMap λp=>ps.filterMap λq=>if p.2=q.1 then some (decide ((p.1,q.2)∈ps))else none).map Dv.bl:=by
  rw[List.map_flatMap]
  congr 1
  funext p
  rw[List.map_filterMap]
  congr 1
  funext q
  show(if p.2=q.1 then some (Dv.bl (decide ((p.1,q.2)∈ps)))else none)=_
  split <;> rfl
 have hall:mL kQ (cD (bQ eF (aA 0)) [none,none,none,none,some 0] (cM 2 (bG (aF 0) (bG (aF 1) cO))) dJ (nB (bQ eF (aA 4)) (cM 2 (bG (aF 2) (bG (aF 3) cO))) (mB (m2 bN (aA 1) (aA 2))) (bX (m2 (qE false) (cC (aB (aA 0) (aB (aA 3) aC))) (aA 4))))) [some (.tup (ps.map aG))] H=.ok (.bl (qK ps)) H:=by
  unfold mL;rw[h,Rs.bind_ok,hb];unfold kQ;rw[yV];dsimp only
  congr 2
  rw[dw];unfold qK;simp only[cu,vz,gz,id];constructor
  ·intro h p hp q hq
   by_cases c:p.2=q.1
   ·have:=h (decide ((p.1,q.2)∈ps)) ⟨p,hp,q,hq,if_pos c⟩;simp[c,this]
   ·simp[c]
  ·rintro h b ⟨p,hp,q,hq,e⟩
   have:=h p hp q hq
   by_cases c:p.2=q.1
   ·rw[if_pos c]at e;cases e;simpa[c]using this
   ·rw[if_neg c]at e;cases e
 simp[F_qh,LX,aZ,bU,aL,hall,bL]
def jC (n:Int) (ps:List (Int×Int)):Bool:=decide (1<=n)&&decide (n<=6)&&ps.all (iQ n)&&mE ps&&!(ps.any λp=>decide (p.1=p.2))&&qK ps
theorem yW {n:Int}(hl:ps.length<=900):F_qw [.tup [.int n,.tup (ps.map aG)]] H=.ok (.bl (jC n ps)) H:=by
 have b:=DZ (H:=H) (x:=n) (lo:=1) (hi:=6);have p1:=z0y (H:=H) (n:=n) (ps:=ps) (by omega);have p2:=z13 (H:=H) (ps:=ps) (by omega);have p3:=z0z (H:=H) (ps:=ps) (by omega);have p4:=z14 (H:=H) (ps:=ps) hl;have hlen:f1 dE [.tup [.int n,.tup (ps.map aG)]] H=.ok (.int 2) H:=rfl;unfold jC;generalize (decide (1<=n)&&decide (n<=6))=c0 at b ⊢;generalize ps.all (iQ n)=c1 at p1 ⊢;generalize mE ps=c2 at p2 ⊢;generalize (ps.any λp=>decide (p.1=p.2))=c3 at p3 ⊢;generalize qK ps=c4 at p4 ⊢
 cases c0 <;> cases c1 <;> cases c2 <;> cases c3 <;> cases c4 <;>
  simp[F_qw,qH,aZ,bU,aJ,aR,bF,bE,aT,m1,aU,aA,iA,fG,cN,mB,m2,aD,aB,aC,hlen,mC,bC,bR,bM,bH,dI,aX,aK,cM,bG,aF,cO,b,p1,p2,p3,p4,aL,cT,mV,bL]
end
structure OrdP (n:Nat) (ps:List (Int×Int)):Prop where
 n1:1<=n
 n6:n<=6
 rng:∀p∈ps,0<=p.1/\p.1<n/\0<=p.2/\p.2<n
 rise:fH dO ps
 irr:∀p∈ps,p.1≠p.2
 tr:∀p∈ps,∀q∈ps,p.2=q.1->(p.1,q.2)∈ps
section
variable{n:Nat}{ps:List (Int×Int)}{H:Hs}
def uO (n:Nat):List (Int×Int):=(bo n).flatMap λa:Nat=>(bo n).map λb:Nat=>((a:Int),(b:Int))
theorem z15 (n:Nat):(uO n).length=n*n:=by
 unfold uO;have:∀l:List Nat,(l.flatMap λa:Nat=>(bo n).map λb:Nat=>((a:Int),(b:Int))).length=l.length*n:=λl=>by
  induction l with
  |nil=>simp
  |cons a l ih=>rw[fz,br,ih,cp,Bg];simp;omega
 rw[this];simp
theorem MX {p:Int×Int}(h:0<=p.1/\p.1<n/\0<=p.2/\p.2<n):p∈uO n:=by obtain⟨a,b⟩:=p;simp only at h;refine vz.mpr ⟨a.toNat,bx.mpr (by omega),cb.mpr ⟨b.toNat,bx.mpr (by omega), ?_⟩⟩;simp;omega
theorem uP (hr:fH dO ps) (hp:∀p∈ps,0<=p.1/\p.1<n/\0<=p.2/\p.2<n):ps.length<=n*n:=by rw[<-z15 n];exact(rG stoP hr).length_le_of_subset λp h=>MX (hp p h)
theorem OrdP.len (o:OrdP n ps):ps.length<=36:=by have h1:=uP o.rise o.rng;have h2:n*n<=6*6:=nh o.n6 o.n6;omega
theorem OrdP.b (o:OrdP n ps):jC n ps=true:=by
 have h1:=o.n1;have h6:=o.n6;unfold jC;simp only[cf,decide_eq_true_eq,ve];refine⟨⟨⟨⟨⟨by omega,by omega⟩, ?_⟩,rising_of.mpr o.rise⟩, ?_⟩, ?_⟩
 ·refine cu.mpr λp hp=>?_;have:=o.rng p hp;simp[iQ,isT];omega
 ·refine qo.mpr λp hp=>?_;simpa using o.irr p hp
 ·refine cu.mpr λp hp=>cu.mpr λq hq=>?_
  by_cases c:p.2=q.1
  ·simp[c,o.tr p hp q hq c]
  ·simp[c]
theorem MY (o:OrdP n ps):F_qw [bS n ps] H=.ok (.bl true) H:=by have:=yW (H:=H) (n:=(n:Int)) (ps:=ps) (by have:=o.len;omega);rw[o.b]at this;exact this
end
theorem z16 (H:Hs) (n:Nat) (a:Int) (b:Bool) (m:Int) (h0:0<m) (h1:m<18446744073709551616) (e:getL H n=some [.int a,.bl b]):
  ∃r a',0<=r/\r<m/\F_qs [.ref n,.int m] H=.ok (.int r) (H.set n (.lst [.int a',.bl b])):=by
 cases b with
 |true=>refine⟨a % m,a / m,Int.emod_nonneg _ (by omega),Int.emod_lt_of_pos _ h0, ?_⟩;simp[F_qs,CQ,aZ,bU,aJ,aR,aT,m2,aA,mC,aN,gB,gI,e,kN,fS,fI,cN,aK,iC,jV,oG,h0,aF,tP,uA,tZ,h1,wN,aL,bL]
 |false=>
  have q1:∀ys,getL (H.set n (.lst ys)) n=some ys:=λys=>oX e;generalize hs:(a*48271+29) % 2147483647=s;have s0:0<=s:=by omega
  have s1:s<2147483647:=by omega
  generalize ht:(s*s+39373*s+7) % 2147483629=t;have t0:0<=t:=by omega
  have t1:t<2147483629:=by omega
  generalize hu:(t*t+16807*t) % 2147483587=u;refine⟨u / 8 % m,s,Int.emod_nonneg _ (by omega),Int.emod_lt_of_pos _ h0, ?_⟩;have w1:lM s=true:=by simp[lM];omega
  have w2:lM t=true:=by simp[lM];omega
  have w3:lM 48271=true:=by decide
  have w4:lM 39373=true:=by decide
  have w5:lM 16807=true:=by decide
  simp[F_qs,CQ,aZ,bU,aJ,aR,aT,m2,aA,mC,aN,gB,gI,e,kN,fS,fI,cN,aK,iC,jV,oG,h0,aF,tP,uA,tZ,h1,wN,aL,bL,aX,bD,mW,qC,vX,w1,w2,w3,w4,w5,q1,hs,ht,hu]
def St (n:Nat) (H:Hs):Prop:=∃a b,getL H n=some [.int a,.bl b]
theorem St.fr {n:Nat}{S:List Nat}{H H':Hs}(s:St n H) (f:Fr S H H') (h:n∉S):St n H':=let ⟨a,b,e⟩:=s;⟨a,b,f.getL e h⟩
theorem nS {H:Hs}{n:Nat}(m:Int) (s:St n H) (h0:0<m:=by decide) (h1:m<18446744073709551616:=by decide):
  ∃r H',0<=r/\r<m/\F_qs [.ref n,.int m] H=.ok (.int r) H'/\Fr [n] H H'/\St n H':=by
 obtain⟨a,b,e⟩:=s;obtain⟨r,a',r0,r1,ht⟩:=z16 H n a b m h0 h1 e;exact⟨r,_,r0,r1,ht,Fr.set,a',b,oX e⟩
theorem z17 (scr:List Int) (k:Nat) (h:Hs):∃H',F_qj scr [.scr,.int k] h=.ok (.ref h.length) H'/\Fr [] h H'/\St h.length H':=by
 have cell:∃c,F_qe scr [.scr,.int k] h=.ok (.int c) h:=by
  by_cases hk:k<scr.length
  ·refine⟨scr[k], ?_⟩;have hk':(k:Int)<scr.length:=by omega
   simp[F_qe,xV,aZ,bU,aJ,aR,mB,m2,aA,mC,fP,aD,f1,iU,hJ,aB,aC,dI,hk',hk,gI,kN,fS,fI,aL,bL]
  ·refine⟨0, ?_⟩;have hk':¬ (k:Int)<scr.length:=by omega
   simp[F_qe,xV,aZ,bU,aJ,aR,mB,m2,aA,mC,fP,aD,f1,iU,hJ,aB,aC,dI,hk',hk,gI,kN,fS,fI,aL,bL,aX]
 obtain⟨c,hc⟩:=cell;have fin:∀a b,Fr [] h (h++[Ob.lst [.int a,.bl b]])/\St h.length (h++[Ob.lst [.int a,.bl b]]):=λa b=>⟨Fr.app,a,b,by rw[YB];rfl⟩
 by_cases hg:c>=1000000000000000000
 ·refine⟨_, ?_,fin (c - 1000000000000000000) true⟩;simp[F_qj,xW,aZ,bU,aJ,aK,aD,aB,aA,aC,hc,aF,aR,mB,m2,oU,hZ,tU,jV,sZ,mC,dI,hg,aL,aV,nF,lim,bL]
 ·refine⟨_, ?_,fin (c % 2147483647) false⟩;simp[F_qj,xW,aZ,bU,aJ,aK,aD,aB,aA,aC,hc,aF,aR,mB,m2,oU,hZ,tU,jV,sZ,mC,dI,hg,aL,aV,nF,lim,bL,aX,iC,oG]
theorem St.lt {st:Nat}{H:Hs}(s:St st H):st<H.length:=let ⟨_,_,e⟩:=s;nJ e
theorem z18 {H:Hs}{q:Nat}{ks:List Int}(e:getL H q=some (ks.map Dv.int)):bC (.ref q) (.ref H.length) (H++[.lst []])=.ok (.bl (!ks.isEmpty)) (H++[.lst []]):=by
 have p1:bM bR (H++[.lst []]) (.ref q)=some (.lst (ks.map Dt.int)):=by show bM (28+1+1) (H++[.lst []]) (.ref q)=_;rw[bM];simp only[kY (l:=[.lst []]) e,JV]
 have p2:bM bR (H++[.lst []]) (.ref H.length)=some (.lst []):=by
  show bM (28+1+1) (H++[.lst []]) (.ref H.length)=_;rw[bM];have:getL (H++[.lst []]) H.length=some []:=by simp[getL]
  simp only[this];rfl
 unfold bC;rw[p1,p2]
 cases ks <;> simp[bH,hY]
def yX:M Bool:=mB (m2 bC (aA 2) (aV aC))
def yY:MS:=fU (kR (aA 3) (tT (aA 2) (aD F_qs (aB (aA 0) (aB (aD (f1 dE) (aB (aA 2) aC)) aC)))))
theorem z19:CS=aJ (aK (aD (f1 iD) (aB (aA 1) aC)) (aF 2)) (aJ (aK (aV aC) (aF 3)) (aJ (iJ yX yY 40) (aL (aA 3)))):=rfl
section
variable{st a b:Nat}{d:Dv}
theorem MZ (hab:a≠b) (has:a≠st) (hbs:b≠st):∀(f:Nat) (ls fs:List Int) (H:Hs),ls.length<f->ls.length+fs.length<=100->getL H a=some (ls.map Dv.int)->getL H b=some (fs.map Dv.int)->St st H->
  ∃(H':Hs) (ys:List Int),iJ yX yY f [some (.ref st),some d,some (.ref a),some (.ref b)] H=.nx [some (.ref st),some d,some (.ref a),some (.ref b)] H'/\getL H' b=some (ys.map Dv.int)/\ys.Perm (fs++ls)/\St st H'/\Fr [st,a,b] H H'
 |0,ls,fs,H,h,_,_,_,_=>by omega
 |f+1,ls,fs,H,h,hl,ea,eb,s=>by
  have tc:yX [some (.ref st),some d,some (.ref a),some (.ref b)] H=.ok (!ls.isEmpty) (H++[.lst []]):=by simp[yX,mB,m2,aA,aV,aC,lim,z18 ea,dI]
  have ea1:=kY (l:=[Ob.lst []]) ea;have eb1:=kY (l:=[Ob.lst []]) eb;have g1:Fr [st,a,b] H (H++[Ob.lst []]):=Fr.app;have s1:=s.fr (Fr.app (S:=[]) (l:=[Ob.lst []])) (by simp);generalize H++[Ob.lst []]=H1 at tc ea1 eb1 g1 s1
  cases hls:ls with
  |nil=>subst hls;refine⟨H1,fs, ?_,eb1,by simp,s1,g1⟩;exact z0s tc
  |cons x r=>
   have hne:ls.isEmpty=false:=by rw[hls];rfl
   have hpos:(0:Int)<ls.length:=by rw[hls];simp
   obtain⟨k,H2,k0,k1,ht,f2,s2⟩:=nS (ls.length:Int) s1 hpos (by omega);have ea2:=f2.getL ea1 (by simpa using has);have eb2:=f2.getL eb1 (by simpa using hbs);have hk:k.toNat<ls.length:=by omega
   have ixk:fI (ls.map Dv.int).length k=some k.toNat:=by unfold fI;rw[if_pos k0,bh,if_pos k1]
   have getk:(ls.map Dv.int)[k.toNat]?=some (.int ls[k.toNat]):=by simp[hk]
   have hlen:f1 dE [.ref a] H1=.ok (.int ls.length) H1:=by show(if gB (.ref a)=true then iU [] (.ref a) H1 else .bad)=_;simp[gB,iU,hJ,ea1]
   have hz:(ls.map Dv.int).length<=1000000:=by rw[bh];omega
   have pop:wV (.ref a) (.int k) H2=.ok (.int ls[k.toNat]) (H2.set a (.lst ((ls.eraseIdx k.toNat).map Dv.int))):=by
    simp only[wV,ea2,ixk,getk,hz,if_true];have em:(ls.map Dv.int).eraseIdx k.toNat=(ls.eraseIdx k.toNat).map Dv.int:=by rw[vm,vm,jg,ui,qt]
    rw[em]
   have eb3:getL (H2.set a (.lst ((ls.eraseIdx k.toNat).map Dv.int))) b=some (fs.map Dv.int):=by rw[rF hab];exact eb2
   have ea3:getL (H2.set a (.lst ((ls.eraseIdx k.toNat).map Dv.int))) a=some ((ls.eraseIdx k.toNat).map Dv.int):=oX ea2;have f3:Fr [st,a,b] H2 (H2.set a (.lst ((ls.eraseIdx k.toNat).map Dv.int))):=Fr.set.mono (by simp);have s3:St st (H2.set a (.lst ((ls.eraseIdx k.toNat).map Dv.int))):=s2.fr Fr.set (by simpa using de has);generalize hH3:H2.set a (.lst ((ls.eraseIdx k.toNat).map Dv.int))=H3 at pop eb3 ea3 f3 s3;have hfl:(fs.map Dv.int).length<1000000:=by rw[bh];omega
   have body:yY [some (.ref st),some d,some (.ref a),some (.ref b)] H1=.nx [some (.ref st),some d,some (.ref a),some (.ref b)] (H3.set b (.lst ((fs++[ls[k.toNat]]).map Dv.int))):=by
    have isA:jH (.ref a) H1=true:=by simp[jH,ea1]
    have isB:jH (.ref b) H1=true:=by simp[jH,eb1]
    have hpop:tT (aA 2) (aD F_qs (aB (aA 0) (aB (aD (f1 dE) (aB (aA 2) aC)) aC))) [some (.ref st),some d,some (.ref a),some (.ref b)] H1=.ok (.int ls[k.toNat]) H3:=by simp[tT,aA,isA,aD,aB,aC,hlen,ht,pop]
    have happ:pY (.ref b) (.int ls[k.toNat]) H3=.ok .non (H3.set b (.lst ((fs++[ls[k.toNat]]).map Dv.int))):=by simp only[pY,eb3,hfl,if_true,jg];rfl
    simp[yY,fU,kR,aA,isB,hpop,happ]
   have hlen2:(ls.eraseIdx k.toNat).length=ls.length - 1:=yh hk;obtain⟨H',ys,w,e',pm,s',f'⟩:=MZ hab has hbs f (ls.eraseIdx k.toNat) (fs++[ls[k.toNat]]) (H3.set b (.lst ((fs++[ls[k.toNat]]).map Dv.int))) (by omega) (by rw[br];simp;omega) (by rw[rF (de hab)];exact ea3) (oX eb3) (s3.fr Fr.set (by simpa using de hbs));refine⟨H',ys, ?_,e', ?_,s', ?_⟩
   ·rw[hne]at tc;rw[MV tc body];exact w
   ·rw[<-hls];refine pm.trans ?_;rw[ux];refine yi fs ?_;have:=SR.erase_perm ls k.toNat hk;simpa using this
   ·exact(((g1.trans f2 (by simp)).trans f3 (by simp)).trans (T:=[b]) Fr.set (by simp)).trans f' (by simp)
theorem z1a {H:Hs}{j:Nat}{xs:List Int}(s:St st H) (e:getL H j=some (xs.map Dv.int)) (hl:xs.length<=20):∃(i:Nat) (ys:List Int) (H':Hs),F_qa [.ref st,.ref j] H=.ok (.ref i) H'/\getL H' i=some (ys.map Dv.int)/\ys.Perm xs/\H.length<=i/\St st H'/\Fr [st] H H':=by
 have lt:=s.lt;have w0:aK (aD (f1 iD) (aB (aA 1) aC)) (aF 2) [some (.ref st),some (.ref j),none,none] H=.nx [some (.ref st),some (.ref j),some (.ref H.length),none] (H++[.lst (xs.map Dv.int)]):=by simp[aK,aD,f1,iD,gB,qX,hJ,aB,aA,aC,e,aF]
 have w1:aK (aV aC) (aF 3) [some (.ref st),some (.ref j),some (.ref H.length),none] (H++[.lst (xs.map Dv.int)])=.nx [some (.ref st),some (.ref j),some (.ref H.length),some (.ref (H.length+1))] (H++[.lst (xs.map Dv.int)]++[.lst []]):=by simp[aK,aV,aC,lim,aF]
 have ea:getL (H++[.lst (xs.map Dv.int)]++[.lst []]) H.length=some (xs.map Dv.int):=kY (by simp[getL]);have eb:getL (H++[.lst (xs.map Dv.int)]++[.lst []]) (H.length+1)=some (([]:List Int).map Dv.int):=by simp[getL]
 have f0:Fr [st] H (H++[.lst (xs.map Dv.int)]++[.lst []]):=Fr.trans (T:=[]) Fr.app Fr.app (by simp);have s0:St st (H++[.lst (xs.map Dv.int)]++[.lst []]):=(s.fr (Fr.app (S:=[]) (l:=[.lst (xs.map Dv.int)])) (by simp)).fr (Fr.app (S:=[])) (by simp);obtain⟨H',ys,w2,e2,pm,s2,f2⟩:=MZ (st:=st) (a:=H.length) (b:=H.length+1) (d:=.ref j) (by omega) (by omega) (by omega) 40 xs [] _ (by omega) (by simp;omega) ea eb s0;refine⟨H.length+1,ys,H', ?_,e2,by simpa using pm,by omega,s2,f0.trans f2 (by simp)⟩;show bL (CS [some (.ref st),some (.ref j),none,none] H)=_;rw[z19,aY w0,aY w1,aY w2];rfl
end
def eJ (ps:List (Int×Int)) (p:Int×Int):List (Int×Int):=(ps.filter λq=>decide (p.2=q.1)).map λq=>(p.1,q.2)
def dU (ps:List (Int×Int)):List (Int×Int):=dN dO (ps++ps.flatMap (eJ ps))
def uQ:Nat->List (Int×Int)->Option (List (Int×Int))
 |0,_=>none
 |f+1,ps=>if dU ps=ps then some ps else uQ f (dU ps)
def lG (n:Nat) (ps:List (Int×Int)):Prop:=∀p∈ps,0<=p.1/\p.1<n/\0<=p.2/\p.2<n
def Tr (ps:List (Int×Int)):Prop:=∀p∈ps,∀q∈ps,p.2=q.1->(p.1,q.2)∈ps
theorem z1b {ps:List (Int×Int)}{p r:Int×Int}:r∈eJ ps p↔∃q∈ps,p.2=q.1/\r=(p.1,q.2):=by
 simp only[eJ,cb,lg,decide_eq_true_eq];constructor
 ·rintro ⟨q,⟨h1,h2⟩,h3⟩;exact⟨q,h1,h2,h3.symm⟩
 ·rintro ⟨q,h1,h2,h3⟩;exact⟨q,⟨h1,h2⟩,h3.symm⟩
theorem step_mem {ps:List (Int×Int)}{r:Int×Int}:r∈dU ps↔r∈ps∨∃p∈ps,∃q∈ps,p.2=q.1/\r=(p.1,q.2):=by unfold dU;rw[nM stoP,fw,vz];simp only[z1b]
theorem EA {n:Nat}{ps:List (Int×Int)}(h:lG n ps):lG n (dU ps):=λr hr=>by
 rcases step_mem.mp hr with hr|⟨p,hp,q,hq,_,rfl⟩
 ·exact h r hr
 ·exact⟨(h p hp).1,(h p hp).2.1,(h q hq).2.2.1,(h q hq).2.2.2⟩
theorem uR (ps:List (Int×Int)):fH dO (dU ps):=uE stoP _
theorem z1c {ps:List (Int×Int)}(hr:fH dO ps):dU ps=ps↔Tr ps:=by
 constructor
 ·intro h p hp q hq e;rw[<-h];exact step_mem.mpr (.inr ⟨p,hp,q,hq,e,rfl⟩)
 ·intro h;refine xD stoP (uR ps) hr λr=>?_;rw[step_mem];constructor
  ·rintro (hr|⟨p,hp,q,hq,e,rfl⟩)
   ·exact hr
   ·exact h p hp q hq e
  ·exact λh=>.inl h
theorem z1d {ps:List (Int×Int)}(hr:fH dO ps) (hne:dU ps≠ps):ps.length<(dU ps).length:=by
 have nd:=rG stoP hr;have sub:∀r∈ps,r∈dU ps:=λr h=>step_mem.mpr (.inl h);have h1:=nd.length_le_of_subset sub
 rcases iz ps.length (dU ps).length with h|h
 ·exact h
 ·exfalso
  apply hne
  have sub2:∀r∈dU ps,r∈ps:=λr hr'=>by
   by_cases hm:r∈ps
   ·exact hm
   ·exfalso
    have nd2:(r::ps).Nodup:=js.mpr ⟨hm,nd⟩;have:=nd2.length_le_of_subset (l₂:=dU ps) λx hx=>by
     rcases ay.mp hx with rfl|hx
     ·exact hr'
     ·exact sub x hx
    simp at this;omega
  exact xD stoP (uR ps) hr λr=>⟨sub2 r,sub r⟩
theorem M4 {n:Nat}(hn:n<=6):∀(f:Nat) (ps:List (Int×Int)),fH dO ps->lG n ps->36<f+ps.length->∃cs,uQ f ps=some cs/\fH dO cs/\lG n cs/\Tr cs/\(∀p∈ps,p∈cs)/\∀R:Int->Int->Prop,(∀a b c,R a b->R b c->R a c)->(∀p∈ps,R p.1 p.2)->∀p∈cs,R p.1 p.2
 |0,ps,hr,hi,h=>by have h1:=uP hr hi;have h2:n*n<=6*6:=nh hn hn;omega
 |f+1,ps,hr,hi,h=>by
  unfold uQ
  split
  ·rename_i e;exact⟨ps,rfl,hr,hi,(z1c hr).mp e,λp hp=>hp,λR _ h=>h⟩
  ·rename_i e;have:=z1d hr e;obtain⟨cs,h1,h2,h3,h4,h5,h6⟩:=M4 hn f (dU ps) (uR ps) (EA hi) (by omega);refine⟨cs,h1,h2,h3,h4,λp hp=>h5 p (step_mem.mpr (.inl hp)),λR ht hR=>h6 R ht λr hr'=>?_⟩
   rcases step_mem.mp hr' with hr'|⟨p,hp,q,hq,e,rfl⟩
   ·exact hR r hr'
   ·refine ht _ p.2 _ (hR p hp) ?_;rw[e];exact hR q hq
theorem EC {α:Type}{f:α->Dv}{H:Hs}{i k:Nat}{xs:List α}(e:getL H i=some (xs.map f)) (hk:k<xs.length):(eW i xs.length).get k H=some (f xs[k]):=by simp[eW,e,hk]
theorem ED {α:Type}{f:α->Dv}{H:Hs}{i:Nat}{xs:List α}(e:getL H i=some (xs.map f)):(eW i xs.length).fin H=true:=by simp[eW,e]
theorem EE:∀ps:List (Int×Int),bI rJ (ps.map aG)=some (ps.map iW)
 | []=>rfl
 |p::ps=>by rw[cy,bI,EE ps];rfl
theorem z1e (ps:List (Int×Int)):xP (ps.map iW)=true:=by simp[xP,iW]
theorem z1f (ps:List (Int×Int)):(ps.map iW).map xO=ps.map aG:=by rw[jl];rfl
section
variable{H:Hs}{ps:List (Int×Int)}{d:Dv}
theorem M5 (h:pA d H=some (ps.map iW)) (hl:(dN dO ps).length<64):lZ d H=.ok (.ref H.length) (H++[.lst ((dN dO ps).map aG)]):=by unfold lZ;rw[h];dsimp only;rw[J9 uF,bh,if_pos (by rw[z1e];simpa using hl),z1f]
theorem EF {i j:Nat}{ps qs:List (Int×Int)}(ei:getL H i=some (ps.map aG)) (ej:getL H j=some (qs.map aG)):bN (.ref i) (.ref j) H=.ok (.bl (decide (ps=qs))) H:=by
 have p:∀(i:Nat) (ps:List (Int×Int)),getL H i=some (ps.map aG)->bM bR H (.ref i)=some (.lst (ps.map kA)):=λi ps e=>by show bM (27+2+1) H (.ref i)=_;rw[bM];simp only[e,BY]
 have dq:∀ps qs:List (Int×Int),hY (ps.map kA) (qs.map kA)=decide (ps=qs):=λps=>by
  induction ps with
  |nil=>intro qs;cases qs <;> simp[hY]
  |cons p ps ih=>
   intro qs
   cases qs with
   |nil=>simp[hY]
   |cons q qs=>simp only[cy,hY,JX,ih];rw[dw];simp
 unfold bN;rw[p i ps ei,p j qs ej];simp only[bH,dq]
def rR:M (List Dv):=cD (bQ eE (aA 1)) [none,none,some 3,some 4] (cM 2 (bG (aF 0) (bG (aF 1) cO))) (mB (m2 bN (aA 3) (aA 0))) (bX (cC (aB (aA 2) (aB (aA 1) aC))))
def rS:MS:=aJ (aK (aD (f1 iD) (aB (aA 1) aC)) (aF 2)) (aJ (eS (bQ eE (aA 1)) (cM 2 (bG (aF 3) (bG (aF 4) cO))) (fU (pZ (aA 2) rR))) (aJ (aK (aD (f1 lZ) (aB (aA 2) aC)) (aF 2)) (aJ (aR (mB (m2 bN (aA 2) (aA 1))) (aL (aA 1)) aX) (aK (aA 2) (aF 1)))))
theorem z1g:iZ=aJ (aK (aD (f1 lZ) (aB (aA 0) aC)) (aF 1)) (iJ (aT (mC (.bl true))) rS 40):=rfl
theorem z1h {x0 x2:Option Dv}{i:Nat}{p:Int×Int}(hl:ps.length<=1000) (e:getL H i=some (ps.map aG)):rR [x0,some (.ref i),x2,some (.int p.1),some (.int p.2)] H=.ok ((eJ ps p).map aG) H:=by
 have hi:bQ eE (aA 1) [x0,some (.ref i),x2,some (.int p.1),some (.int p.2)] H=.ok (eW i ps.length) H:=by simp[bQ,aA,eE,e]
 have h:rR [x0,some (.ref i),x2,some (.int p.1),some (.int p.2)] H=.ok (ps.filterMap λq=>if p.2=q.1 then some (aG (p.1,q.2))else none) H:=
  iP ps (λq=>if p.2=q.1 then some (aG (p.1,q.2))else none) (λρ=>∃a b,ρ=[a,b,some (.int p.1),some (.int p.2)]) hi rfl ⟨_,_,rfl⟩ (by simp[eW,e]) (λk hk ρ ⟨a,b,er⟩=>by
   subst er;refine⟨aG ps[k],[some (.int ps[k].1),some (.int ps[k].2),some (.int p.1),some (.int p.2)],by simp[eW,e,hk],rfl,⟨_,_,rfl⟩, ?_⟩;have te:mB (m2 bN (aA 3) (aA 0)) [some (.int ps[k].1),some (.int ps[k].2),some (.int p.1),some (.int p.2)] H=.ok (decide (p.2=ps[k].1)) H:=by simp[mB,m2,aA,bN,bR,bM,bH,dI];rw[dw];simp
   by_cases c:p.2=ps[k].1
   ·rw[if_pos c];rw[decide_eq_true c]at te;exact⟨te,rfl⟩
   ·rw[if_neg c];rw[decide_eq_false c]at te;exact te) (by omega)
 rw[h]
 congr 1
 unfold eJ;rw[jl];have:∀l:List (Int×Int),l.filterMap (λq=>if p.2=q.1 then some (aG (p.1,q.2))else none)=(l.filter λq=>decide (p.2=q.1)).map (aG∘λq=>(p.1,q.2)):=λl=>by
  induction l with
  |nil=>rfl
  |cons q l ih=>
   rw[cj,List.filter_cons,ih]
   by_cases c:p.2=q.1 <;> simp[c]
 exact this ps
theorem M6 (ps:List (Int×Int)) (p:Int×Int):(eJ ps p).length<=ps.length:=by unfold eJ;rw[bh];exact List.length_filter_le _ _
theorem M7 (ps:List (Int×Int)):∀l:List (Int×Int),(l.flatMap (eJ ps)).length<=l.length*ps.length
 | []=>by simp
 |p::l=>by have h1:=M6 ps p;have h2:=M7 ps l;rw[fz,br,cp,Bg];omega
theorem z1i {x0 x3 x4:Option Dv}{i j:Nat}(hij:i≠j) (hl:ps.length<=40) (ei:getL H i=some (ps.map aG)) (ej:getL H j=some (ps.map aG)):
  ∃y3 y4,eS (bQ eE (aA 1)) (cM 2 (bG (aF 3) (bG (aF 4) cO))) (fU (pZ (aA 2) rR)) [x0,some (.ref i),some (.ref j),x3,x4] H=.nx [x0,some (.ref i),some (.ref j),y3,y4] (H.set j (.lst ((ps++ps.flatMap (eJ ps)).map aG))):=by
 have hi:bQ eE (aA 1) [x0,some (.ref i),some (.ref j),x3,x4] H=.ok (eW i ps.length) H:=by simp[bQ,aA,eE,ei]
 have self:H.set j (.lst (ps.map aG))=H:=by
  apply uz
  intro k
  by_cases hk:j=k
  ·subst hk;rw[dm (nJ ej),dH ej]
  ·rw[fh hk]
 obtain⟨ρ',H',h1,y3,y4,h2,h3⟩:=xB (b:=fU (pZ (aA 2) rR)) (sg:=cM 2 (bG (aF 3) (bG (aF 4) cO))) hi (λk ρ H'=>∃(y3 y4:Option Dv),ρ=[x0,some (.ref i),some (.ref j),y3,y4]/\H'=H.set j (.lst ((ps++(ps.take k).flatMap (eJ ps)).map aG)))
  (λk ρ H' hk ⟨y3,y4,e1,e2⟩=>by
   subst e1;subst e2;have hk':k<ps.length:=hk;have ei':getL (H.set j (.lst ((ps++(ps.take k).flatMap (eJ ps)).map aG))) i=some (ps.map aG):=by rw[rF (de hij)];exact ei
   have ej':getL (H.set j (.lst ((ps++(ps.take k).flatMap (eJ ps)).map aG))) j=some ((ps++(ps.take k).flatMap (eJ ps)).map aG):=oX ej;have hlen:(ps++(ps.take k).flatMap (eJ ps)).length<=40+40*40:=by have h1:=M7 ps (ps.take k);have h2:(ps.take k).length*ps.length<=40*40:=nh (by rw[iq];omega) hl;rw[br];omega
   have hf:=M6 ps ps[k];refine⟨aG ps[k],[x0,some (.ref i),some (.ref j),some (.int ps[k].1),some (.int ps[k].2)],[x0,some (.ref i),some (.ref j),some (.int ps[k].1),some (.int ps[k].2)],_,EC ei' hk',rfl, ?_,_,_,rfl,rfl⟩;have hc:=z1h (x0:=x0) (x2:=some (.ref j)) (p:=ps[k]) (by omega) ei';generalize hG:H.set j (.lst ((ps++(ps.take k).flatMap (eJ ps)).map aG))=G at ei' ej' hc;have isJ:jH (.ref j) G=true:=by simp[jH,ej']
   have hz:((ps++(ps.take k).flatMap (eJ ps)).map aG).length+((eJ ps ps[k]).map aG).length<=1000000:=by rw[bh,bh];omega
   have hx:wM (.ref j) ((eJ ps ps[k]).map aG) G=.ok .non (G.set j (.lst ((ps++(ps.take (k+1)).flatMap (eJ ps)).map aG))):=by unfold wM;simp only[ej',lim,hz,if_true];rw[List.take_succ_eq_append_getElem hk',List.flatMap_append,<-jg];simp[ux]
   have:pZ (aA 2) rR [x0,some (.ref i),some (.ref j),some (.int ps[k].1),some (.int ps[k].2)] G=.ok .non (G.set j (.lst ((ps++(ps.take (k+1)).flatMap (eJ ps)).map aG))):=by unfold pZ;show(Rs.ok (Dv.ref j) G).bind _=_;rw[Rs.bind_ok,if_pos isJ,hc,Rs.bind_ok,hx]
   unfold fU;rw[this,<-hG,List.set_set];rfl)
  (λρ H' ⟨_,_,_,e2⟩=>by
   subst e2;have ei':getL (H.set j (.lst ((ps++(ps.take (eW i ps.length).n).flatMap (eJ ps)).map aG))) i=some (ps.map aG):=by rw[rF (de hij)];exact ei
   exact ED ei') ⟨x3,x4,rfl,by simp[self]⟩
 refine⟨y3,y4, ?_⟩;rw[h1,h2,h3];simp[eW]
end
section
variable{H:Hs}{ps:List (Int×Int)}
theorem M8 {i:Nat}(e:getL H i=some (ps.map aG)):pA (.ref i) H=some (ps.map iW):=by simp only[pA,e,EE]
theorem z1j:pA (.tup (ps.map aG)) H=some (ps.map iW):=EE ps
theorem EG {x0 x2 x3 x4:Option Dv}{i:Nat}(hl:ps.length<=40) (hs:(dU ps).length<64) (e:getL H i=some (ps.map aG)):
  ∃H',Fr [] H H'/\getL H' i=some (ps.map aG)/\if dU ps=ps then rS [x0,some (.ref i),x2,x3,x4] H=.rt (.ref i) H' else ∃(j:Nat) (y2 y3 y4:Option Dv),rS [x0,some (.ref i),x2,x3,x4] H=.nx [x0,some (.ref j),y2,y3,y4] H'/\getL H' j=some ((dU ps).map aG):=by
 have li:=nJ e;have w0:aK (aD (f1 iD) (aB (aA 1) aC)) (aF 2) [x0,some (.ref i),x2,x3,x4] H=.nx [x0,some (.ref i),some (.ref H.length),x3,x4] (H++[.lst (ps.map aG)]):=by simp[aK,aD,f1,iD,gB,qX,hJ,aB,aA,aC,e,aF]
 have ei:=kY (l:=[Ob.lst (ps.map aG)]) e;have ej:getL (H++[Ob.lst (ps.map aG)]) H.length=some (ps.map aG):=by simp[getL]
 have f0:Fr [] H (H++[Ob.lst (ps.map aG)]):=Fr.app;generalize H++[Ob.lst (ps.map aG)]=H0 at w0 ei ej f0;obtain⟨y3,y4,w1⟩:=z1i (x0:=x0) (x3:=x3) (x4:=x4) (i:=i) (j:=H.length) (by omega) hl ei ej;have ei1:getL (H0.set H.length (.lst ((ps++ps.flatMap (eJ ps)).map aG))) i=some (ps.map aG):=by rw[rF (by omega)];exact ei
 have ej1:getL (H0.set H.length (.lst ((ps++ps.flatMap (eJ ps)).map aG))) H.length=some ((ps++ps.flatMap (eJ ps)).map aG):=oX ej;have f1':Fr [] H (H0.set H.length (.lst ((ps++ps.flatMap (eJ ps)).map aG))):=f0.trans (T:=[H.length]) Fr.set (by simp);generalize H0.set H.length (.lst ((ps++ps.flatMap (eJ ps)).map aG))=H1 at w1 ei1 ej1 f1';have w2:aK (aD (f1 lZ) (aB (aA 2) aC)) (aF 2) [x0,some (.ref i),some (.ref H.length),y3,y4] H1=.nx [x0,some (.ref i),some (.ref H1.length),y3,y4] (H1++[.lst ((dU ps).map aG)]):=by have hq:=M5 (M8 ej1) hs;simp[aK,aD,f1,aB,aA,aC,hq,aF,dU]
 have ei2:=kY (l:=[Ob.lst ((dU ps).map aG)]) ei1;have ej2:getL (H1++[Ob.lst ((dU ps).map aG)]) H1.length=some ((dU ps).map aG):=by simp[getL]
 have f2:Fr [] H (H1++[Ob.lst ((dU ps).map aG)]):=f1'.trans (T:=[]) Fr.app (by simp);generalize hH2:H1++[Ob.lst ((dU ps).map aG)]=H2 at w2 ei2 ej2 f2;have t:mB (m2 bN (aA 2) (aA 1)) [x0,some (.ref i),some (.ref H1.length),y3,y4] H2=.ok (decide (dU ps=ps)) H2:=by simp[mB,m2,aA,EF ej2 ei2,dI]
 refine⟨H2,f2,ei2, ?_⟩
 by_cases c:dU ps=ps
 ·rw[if_pos c];unfold rS;rw[aY w0,aY w1,aY w2];unfold aJ;rw[nK (t.trans (by rw[decide_eq_true c]))];rfl
 ·rw[if_neg c];refine⟨H1.length,some (.ref H1.length),y3,y4, ?_,ej2⟩;unfold rS;rw[aY w0,aY w1,aY w2,aY (ρ1:=[x0,some (.ref i),some (.ref H1.length),y3,y4]) (h1:=H2) (by rw[kZ (t.trans (by rw[decide_eq_false c]))];rfl)];rfl
theorem M9 {n:Nat}(hn:n<=6) {cs:List (Int×Int)}:∀(f:Nat) (ps:List (Int×Int)) (H:Hs) (i:Nat) (x0 x2 x3 x4:Option Dv),fH dO ps->lG n ps->uQ f ps=some cs->getL H i=some (ps.map aG)->
  ∃(j:Nat) (H':Hs),iJ (aT (mC (.bl true))) rS f [x0,some (.ref i),x2,x3,x4] H=.rt (.ref j) H'/\getL H' j=some (cs.map aG)/\Fr [] H H'
 |0,ps,H,i,x0,x2,x3,x4,hr,hi,h,e=>by cases h
 |f+1,ps,H,i,x0,x2,x3,x4,hr,hi,h,e=>by
  have sq:n*n<=6*6:=nh hn hn;have l1:=uP hr hi;have l2:=uP (uR ps) (EA hi);obtain⟨H1,f1,e1,c1⟩:=EG (x0:=x0) (x2:=x2) (x3:=x3) (x4:=x4) (by omega) (by omega) e;have tt:aT (mC (.bl true)) [x0,some (.ref i),x2,x3,x4] H=.ok true H:=rfl;unfold uQ at h
  split at h
  ·rename_i c;cases h;rw[if_pos c]at c1;exact⟨i,H1,z0t tt c1,e1,f1⟩
  ·rename_i c;rw[if_neg c]at c1;obtain⟨j,y2,y3,y4,c2,ej⟩:=c1;obtain⟨k,H2,w,ek,f2⟩:=M9 hn f (dU ps) H1 j x0 y2 y3 y4 (uR ps) (EA hi) h ej;exact⟨k,H2,by rw[MV tt c2];exact w,ek,f1.trans f2 (by simp)⟩
def yZ (n:Nat) (ps cs:List (Int×Int)):Prop:=fH dO cs/\lG n cs/\Tr cs/\(∀p∈ps,p∈cs)/\∀R:Int->Int->Prop,(∀a b c,R a b->R b c->R a c)->(∀p∈ps,R p.1 p.2)->∀p∈cs,R p.1 p.2
theorem NA {n:Nat}{d:Dv}(hn:n<=6) (hi:lG n ps) (h:pA d H=some (ps.map iW)):∃(cs:List (Int×Int)) (j:Nat) (H':Hs),yZ n ps cs/\F_qg [d] H=.ok (.ref j) H'/\getL H' j=some (cs.map aG)/\Fr [] H H':=by
 have hs:lG n (dN dO ps):=λp hp=>hi p ((nM stoP p ps).mp hp);have hr:=uE stoP ps;have sq:n*n<=6*6:=nh hn hn;have l1:=uP hr hs;obtain⟨cs,c1,c2,c3,c4,c5,c6⟩:=M4 hn 40 _ hr hs (by omega);have w0:aK (aD (f1 lZ) (aB (aA 0) aC)) (aF 1) [some d,none,none,none,none] H=.nx [some d,some (.ref H.length),none,none,none] (H++[.lst ((dN dO ps).map aG)]):=by have hq:=M5 h (by omega);simp[aK,aD,f1,aB,aA,aC,hq,aF]
 obtain⟨j,H',w1,ej,f1'⟩:=M9 hn 40 (dN dO ps) (H++[.lst ((dN dO ps).map aG)]) H.length (some d) none none none hr hs c1 (by simp[getL]);refine⟨cs,j,H',⟨c2,c3,c4,λp hp=>c5 p ((nM stoP p ps).mpr hp),λR ht hR=>c6 R ht λp hp=>hR p ((nM stoP p ps).mp hp)⟩, ?_,ej,(Fr.app (S:=[]) (l:=[.lst ((dN dO ps).map aG)])).trans f1' (by simp)⟩;show bL (iZ [some d,none,none,none,none] H)=_;rw[z1g,aY w0,w1];rfl
theorem z1k {n:Nat}{cs:List (Int×Int)}(h:yZ n ps cs):cs=ps↔fH dO ps/\Tr ps:=by
 obtain⟨h1,h2,h3,h4,h5⟩:=h;constructor
 ·rintro rfl;exact⟨h1,h3⟩
 ·rintro ⟨r,t⟩
  refine xD stoP h1 r λz=>⟨λhz=>?_,h4 z⟩
  have:=h5 (λa b=>(a,b)∈ps) (λa b c x y=>t (a,b) x (b,c) y rfl) (λp hp=>hp) z hz;exact this
end
theorem qL {H:Hs}{i k:Nat}{xs:List Int}(e:getL H i=some (xs.map Dv.int)) (hk:k<xs.length):aN (.ref i) (.int (k:Int)) H=.ok (.int xs[k]) H:=by
 have h1:fI (xs.map Dv.int).length (k:Int)=some k:=by unfold fI;rw[bh,if_pos (by omega),if_pos (by omega)];simp
 have h2:fS (xs.map Dv.int) (k:Int)=some (.int xs[k]):=by unfold fS;rw[h1];simp[hk]
 simp only[aN,gB,gI,e,kN,h2,if_true]
theorem rT (x y:Int) (H:Hs):bN (.int x) (.int y) H=.ok (.bl (x==y)) H:=by simp[bN,bR,bM,bH]
theorem EH:∀{ys:List Int},ys.Nodup->∀i (h:i<ys.length),uB ys[i] ys=some i
 | [],_,i,h=>by simp at h
 |y::ys,nd,0,h=>by simp[uB]
 |y::ys,nd,i+1,h=>by
  have h1:=js.mp nd;have hi:i<ys.length:=by simpa using h
  have ne:y≠ys[i]:=λz=>h1.1 (by rw[z];exact dj hi);simp[uB,ne,EH h1.2 i hi]
def zA (n:Nat) (ps:List (Int×Int)):Prop:=lG n ps/\∃f:Int->Int,∀p∈ps,f p.1<f p.2
theorem z1l {n:Nat}{ps cs:List (Int×Int)}(n1:1<=n) (n6:n<=6) (g:zA n ps) (c:yZ n ps cs):OrdP n cs:=by obtain⟨h1,h2,h3,h4,h5⟩:=c;obtain⟨_,f,hf⟩:=g;refine⟨n1,n6,h2,h1,λp hp e=>?_,h3⟩;have:=h5 (λa b=>f a<f b) (λa b c x y=>by omega) hf p hp;rw[e]at this;omega
section
variable{st ir ip im n:Nat}{ys ms:List Int}{w:Int}{d1:Dv}
def EI:MS:=aK (aV (aB (m2 bN (aD F_qs (aB (aA 0) (aB (mC (.int 6)) aC))) (mC (.int 0))) (aB (m2 bN (aD F_qs (aB (aA 0) (aB (mC (.int 2)) aC))) (mC (.int 0))) (aB (m2 wX (aD F_qs (aB (aA 0) (aB (mC (.int 4)) aC))) (mC (.int 0))) aC)))) (aF 9)
def EJ:MS:=aK (m2 bD (aA 9) (aV (aB (m2 fP (m2 aN (aA 6) (aA 7)) (m2 aN (aA 6) (aA 8))) (aB (m2 bN (m2 aN (aA 6) (aA 7)) (m2 aN (aA 6) (aA 8))) aC)))) (aF 9)
def oB:MS:=aJ EI (aJ EJ (aR (aT (m2 aN (aA 9) (aA 4))) (fU (kR (aA 5) (cC (aB (m2 aN (aA 3) (aA 7)) (aB (m2 aN (aA 3) (aA 8)) aC))))) aX))
structure Std (st ir im:Nat) (ys ms:List Int) (H:Hs):Prop where
 s:St st H
 r:getL H ir=some (ys.map Dv.int)
 m:getL H im=some (ms.map Dv.int)
theorem Std.fr {H H':Hs}{S:List Nat}(h:Std st ir im ys ms H) (f:Fr S H H') (s':St st H') (h1:ir∉S) (h2:im∉S):Std st ir im ys ms H':=⟨s',f.getL h.r h1,f.getL h.m h2⟩
theorem mF {H:Hs}{x9:Option Dv}{ps:List (Int×Int)}{i j:Nat}(D:Std st ir im ys ms H) (ep:getL H ip=some (ps.map aG)) (hw:0<=w/\w<5) (hi:i<n) (hj:j<n) (hy:ys.length=n) (hm:ms.length=n) (hl:ps.length<=1000)
  (h1:ir≠st) (h2:im≠st) (h3:ip≠st) (h4:ir≠ip) (h5:im≠ip):
  ∃(x9':Option Dv) (H':Hs) (ps':List (Int×Int)),oB [some (.ref st),some d1,some (.int n),some (.ref ir),some (.int w),some (.ref ip),some (.ref im),some (.int i),some (.int j),x9] H=.nx [some (.ref st),some d1,some (.int n),some (.ref ir),some (.int w),some (.ref ip),some (.ref im),some (.int i),some (.int j),x9'] H'/\getL H' ip=some (ps'.map aG)/\(ps'=ps∨ps'=ps++[(ys.getD i 0,ys.getD j 0)])/\Std st ir im ys ms H'/\Fr [st,ip] H H':=by
 obtain⟨r0,H0,_,_,t0,f0,s0⟩:=nS 6 D.s;obtain⟨r1,H1,_,_,t1,f1,s1⟩:=nS 2 s0;obtain⟨r2,H2,_,_,t2,f2,s2⟩:=nS 4 s1;have f02:Fr [st] H H2:=(f0.trans f1 (by simp)).trans f2 (by simp);have D2:=D.fr f02 s2 (by simpa using h1) (by simpa using h2);have ep2:=f02.getL ep (by simpa using h3);have w1:EI [some (.ref st),some d1,some (.int n),some (.ref ir),some (.int w),some (.ref ip),some (.ref im),some (.int i),some (.int j),x9] H=.nx [some (.ref st),some d1,some (.int n),some (.ref ir),some (.int w),some (.ref ip),some (.ref im),some (.int i),some (.int j),some (.ref H2.length)] (H2++[.lst [.bl (r0==0),.bl (r1==0),.bl (decide (r2>0))]]):=by simp[EI,aK,aV,aB,m2,aD,aA,mC,aC,t0,t1,t2,rT,wX,hZ,lim,aF]
 have fA:Fr [] H2 (H2++[.lst [.bl (r0==0),.bl (r1==0),.bl (decide (r2>0))]]):=Fr.app;have eA:getL (H2++[.lst [.bl (r0==0),.bl (r1==0),.bl (decide (r2>0))]]) H2.length=some [.bl (r0==0),.bl (r1==0),.bl (decide (r2>0))]:=by simp[getL]
 have DA:=D2.fr fA (s2.fr fA (by simp)) (by simp) (by simp);have epA:=fA.getL ep2 (by simp);have fHA:Fr [st] H (H2++[.lst [.bl (r0==0),.bl (r1==0),.bl (decide (r2>0))]]):=f02.trans fA (by simp);generalize H2++[Ob.lst [.bl (r0==0),.bl (r1==0),.bl (decide (r2>0))]]=HA at w1 fA eA DA epA fHA;have hmi:=qL DA.m (k:=i) (by omega);have hmj:=qL DA.m (k:=j) (by omega);have eA':=kY (l:=[Ob.lst [.bl (decide (ms[i]<ms[j])),.bl (ms[i]==ms[j])]]) eA;have eB:getL (HA++[Ob.lst [.bl (decide (ms[i]<ms[j])),.bl (ms[i]==ms[j])]]) HA.length=some [.bl (decide (ms[i]<ms[j])),.bl (ms[i]==ms[j])]:=by simp[getL]
 have w2:EJ [some (.ref st),some d1,some (.int n),some (.ref ir),some (.int w),some (.ref ip),some (.ref im),some (.int i),some (.int j),some (.ref H2.length)] HA=.nx [some (.ref st),some d1,some (.int n),some (.ref ir),some (.int w),some (.ref ip),some (.ref im),some (.int i),some (.int j),some (.ref (HA.length+1))] (HA++[.lst [.bl (decide (ms[i]<ms[j])),.bl (ms[i]==ms[j])]]++[.lst [.bl (r0==0),.bl (r1==0),.bl (decide (r2>0)),.bl (decide (ms[i]<ms[j])),.bl (ms[i]==ms[j])]]):=by simp[EJ,aK,m2,aV,aB,aA,hmi,hmj,fP,rT,aC,lim,bD,mW,eA',eB,aF]
 have fB:Fr [] HA (HA++[.lst [.bl (decide (ms[i]<ms[j])),.bl (ms[i]==ms[j])]]++[.lst [.bl (r0==0),.bl (r1==0),.bl (decide (r2>0)),.bl (decide (ms[i]<ms[j])),.bl (ms[i]==ms[j])]]):=Fr.trans (T:=[]) Fr.app Fr.app (by simp);have eN:getL (HA++[.lst [.bl (decide (ms[i]<ms[j])),.bl (ms[i]==ms[j])]]++[.lst [.bl (r0==0),.bl (r1==0),.bl (decide (r2>0)),.bl (decide (ms[i]<ms[j])),.bl (ms[i]==ms[j])]]) (HA.length+1)=some [.bl (r0==0),.bl (r1==0),.bl (decide (r2>0)),.bl (decide (ms[i]<ms[j])),.bl (ms[i]==ms[j])]:=by simp[getL]
 have DB:=DA.fr fB (DA.s.fr fB (by simp)) (by simp) (by simp);have epB:=fB.getL epA (by simp);have fHB:=fHA.trans fB (by simp);generalize HA++[Ob.lst [.bl (decide (ms[i]<ms[j])),.bl (ms[i]==ms[j])]]++[Ob.lst [.bl (r0==0),.bl (r1==0),.bl (decide (r2>0)),.bl (decide (ms[i]<ms[j])),.bl (ms[i]==ms[j])]]=HB at w2 fB eN DB epB fHB;have near:∃b,aN (.ref (HA.length+1)) (.int w) HB=.ok (.bl b) HB:=by
  have hw':w=0∨w=1∨w=2∨w=3∨w=4:=by omega
  rcases hw' with rfl|rfl|rfl|rfl|rfl
  ·exact⟨_,by simp only[aN,gB,gI,eN];rfl⟩
  ·exact⟨_,by simp only[aN,gB,gI,eN];rfl⟩
  ·exact⟨_,by simp only[aN,gB,gI,eN];rfl⟩
  ·exact⟨_,by simp only[aN,gB,gI,eN];rfl⟩
  ·exact⟨_,by simp only[aN,gB,gI,eN];rfl⟩
 obtain⟨b,hb⟩:=near;have t:aT (m2 aN (aA 9) (aA 4)) [some (.ref st),some d1,some (.int n),some (.ref ir),some (.int w),some (.ref ip),some (.ref im),some (.int i),some (.int j),some (.ref (HA.length+1))] HB=.ok b HB:=by simp[aT,m2,aA,hb,cN]
 cases b with
 |false=>refine⟨some (.ref (HA.length+1)),HB,ps, ?_,epB,.inl rfl,DB,fHB.mono (by simp)⟩;unfold oB;rw[aY w1,aY w2,kZ t];rfl
 |true=>
  have hyi:=qL DB.r (k:=i) (by omega);have hyj:=qL DB.r (k:=j) (by omega);have gi:ys[i]=ys.getD i 0:=by simp[show i<ys.length by omega]
  have gj:ys[j]=ys.getD j 0:=by simp[show j<ys.length by omega]
  rw[gi]at hyi;rw[gj]at hyj;generalize ys.getD i 0=va at hyi ⊢;generalize ys.getD j 0=vb at hyj ⊢;have hz:(ps.map aG).length<1000000:=by rw[bh];omega
  have fC:Fr [ip] HB (HB.set ip (.lst ((ps++[(va,vb)]).map aG))):=Fr.set;refine⟨some (.ref (HA.length+1)),HB.set ip (.lst ((ps++[(va,vb)]).map aG)),ps++[(va,vb)], ?_,oX epB,.inr rfl,DB.fr fC (DB.s.fr fC (by simpa using de h3)) (by simpa using h4) (by simpa using h5),(fHB.mono (T:=[st,ip]) (by simp)).trans fC (by simp)⟩;unfold oB;rw[aY w1,aY w2,nK t];have isP':jH (.ref ip) HB=true:=by simp[jH,epB]
  have happ:pY (.ref ip) (.tup [.int (va),.int (vb)]) HB=.ok .non (HB.set ip (.lst ((ps++[(va,vb)]).map aG))):=by simp only[pY,epB,hz,if_true,jg];rfl
  simp[fU,kR,aA,isP',cC,aB,m2,hyi,hyj,aC,lim,happ]
end
theorem EK {m:Int}(h0:0<=m) (h:m<=100):nA m=true:=by
 have h1:(-4611686018427387904:Int)<=m:=by omega
 have h2:m<4611686018427387904:=by omega
 unfold nA;rw[decide_eq_true h1,decide_eq_true h2];rfl
theorem EL {H:Hs}{j:Int}(h0:0<=j) (h1:j<=100):fK [.int j] H=.ok (eX 0 j) H:=by simp only[fK,EK h0 h1,if_true]
theorem z1m {H:Hs}{i j:Int}(h0:0<=i) (h1:i<=100) (h2:0<=j) (h3:j<=100):pW [.int i,.int j] H=.ok (eX i j) H:=by simp only[pW,EK h0 h1,EK h2 h3,and_self,if_true]
def rV (ys:List Int) (n:Nat) (ps:List (Int×Int)):Prop:=∀p∈ps,∃i j,i<j/\j<n/\p=(ys.getD i 0,ys.getD j 0)
section
variable{st ir ip im n:Nat}{ys ms:List Int}{w:Int}{d1:Dv}
abbrev bW (st ir ip im n:Nat) (w:Int) (d1:Dv) (x7 x8 x9:Option Dv):Ev:=[some (.ref st),some d1,some (.int n),some (.ref ir),some (.int w),some (.ref ip),some (.ref im),x7,x8,x9]
def jO:MS:=eS (aS pW (aB (m2 bD (aA 7) (mC (.int 1))) (aB (aA 2) aC))) (aF 8) oB
theorem mG {H:Hs}{x8 x9:Option Dv}{ps:List (Int×Int)}{i:Nat}(D:Std st ir im ys ms H) (ep:getL H ip=some (ps.map aG)) (hw:0<=w/\w<5) (hi:i<n) (hn:n<=6) (hy:ys.length=n) (hm:ms.length=n) (hl:ps.length<=500) (hb:rV ys n ps)
  (h1:ir≠st) (h2:im≠st) (h3:ip≠st) (h4:ir≠ip) (h5:im≠ip):
  ∃(x8' x9':Option Dv) (H':Hs) (ps':List (Int×Int)),jO (bW st ir ip im n w d1 (some (.int i)) x8 x9) H=.nx (bW st ir ip im n w d1 (some (.int i)) x8' x9') H'/\getL H' ip=some (ps'.map aG)/\rV ys n ps'/\ps'.length<=ps.length+6/\Std st ir im ys ms H'/\Fr [st,ip] H H':=by
 have hi0:aS pW (aB (m2 bD (aA 7) (mC (.int 1))) (aB (aA 2) aC)) (bW st ir ip im n w d1 (some (.int i)) x8 x9) H=.ok (eX ((i:Int)+1) n) H:=by have q:aB (m2 bD (aA 7) (mC (.int 1))) (aB (aA 2) aC) (bW st ir ip im n w d1 (some (.int i)) x8 x9) H=.ok [.int ((i:Int)+1),.int n] H:=rfl;unfold aS;rw[q,Rs.bind_ok];exact z1m (by omega) (by omega) (by omega) (by omega)
 have hN:(eX ((i:Int)+1) (n:Int)).n=n - (i+1):=by show((n:Int) - ((i:Int)+1)).toNat=_;omega
 obtain⟨ρ',H',r1,x8',x9',ps',e1,e2,e3,e4,e5,e6⟩:=xB (b:=oB) (sg:=aF 8) hi0 (λk ρ H'=>∃(x8' x9':Option Dv) (ps':List (Int×Int)),ρ=bW st ir ip im n w d1 (some (.int i)) x8' x9'/\getL H' ip=some (ps'.map aG)/\rV ys n ps'/\ps'.length<=ps.length+k/\Std st ir im ys ms H'/\Fr [st,ip] H H')
  (λk ρ H' hk ⟨x8',x9',ps',e1,e2,e3,e4,e5,e6⟩=>by
   subst e1;rw[hN]at hk;have hj:i+1+k<n:=by omega
   obtain⟨x9n,H2,ps2,b1,b2,b3,b4,b5⟩:=mF (x9:=x9') (w:=w) (d1:=d1) (ip:=ip) (n:=n) (i:=i) (j:=i+1+k) e5 e2 hw hi hj hy hm (by omega) h1 h2 h3 h4 h5;have ej:(((i+1+k:Nat)):Int)=(i:Int)+1+(k:Int):=by omega
   rw[ej]at b1;refine⟨.int ((i:Int)+1+(k:Int)),bW st ir ip im n w d1 (some (.int i)) (some (.int ((i:Int)+1+(k:Int)))) x9',_,H2,rfl,rfl,b1,_,_,ps2,rfl,b2, ?_, ?_,b4,e6.trans b5 λj hj=>.inl hj⟩
   ·rcases b3 with rfl|rfl
    ·exact e3
    ·intro p hp
     rcases fw.mp hp with hp|hp
     ·exact e3 p hp
     ·rw[ey.mp hp];exact⟨i,i+1+k,by omega,hj,rfl⟩
   ·rcases b3 with rfl|rfl
    ·omega
    ·rw[br];simp;omega) (λ_ _ _=>rfl) ⟨x8,x9,ps,rfl,ep,hb,by omega,D,Fr.refl⟩
 rw[hN]at e4;exact⟨x8',x9',H',ps',by unfold jO;rw[r1,e1],e2,e3,by omega,e5,e6⟩
def kE:MS:=eS (aS fK (aB (aA 2) aC)) (aF 7) jO
theorem mH {H:Hs}{x7 x8 x9:Option Dv}(D:Std st ir im ys ms H) (ep:getL H ip=some (([]:List (Int×Int)).map aG)) (hw:0<=w/\w<5) (hn:n<=6) (hy:ys.length=n) (hm:ms.length=n)
  (h1:ir≠st) (h2:im≠st) (h3:ip≠st) (h4:ir≠ip) (h5:im≠ip):
  ∃(x7' x8' x9':Option Dv) (H':Hs) (ps':List (Int×Int)),kE (bW st ir ip im n w d1 x7 x8 x9) H=.nx (bW st ir ip im n w d1 x7' x8' x9') H'/\getL H' ip=some (ps'.map aG)/\rV ys n ps'/\Std st ir im ys ms H'/\Fr [st,ip] H H':=by
 have hi0:aS fK (aB (aA 2) aC) (bW st ir ip im n w d1 x7 x8 x9) H=.ok (eX 0 n) H:=by have q:aB (aA 2) aC (bW st ir ip im n w d1 x7 x8 x9) H=.ok [.int n] H:=rfl;unfold aS;rw[q,Rs.bind_ok];exact EL (by omega) (by omega)
 have hN:(eX 0 (n:Int)).n=n:=by simp[eX]
 obtain⟨ρ',H',r1,x7',x8',x9',ps',e1,e2,e3,e4,e5,e6⟩:=xB (b:=jO) (sg:=aF 7) hi0 (λk ρ H'=>∃(x7' x8' x9':Option Dv) (ps':List (Int×Int)),ρ=bW st ir ip im n w d1 x7' x8' x9'/\getL H' ip=some (ps'.map aG)/\rV ys n ps'/\ps'.length<=6*k/\Std st ir im ys ms H'/\Fr [st,ip] H H')
  (λk ρ H' hk ⟨x7',x8',x9',ps',e1,e2,e3,e4,e5,e6⟩=>by
   subst e1;rw[hN]at hk;obtain⟨x8n,x9n,H2,ps2,b1,b2,b3,b4,b5,b6⟩:=mG (x8:=x8') (x9:=x9') (w:=w) (d1:=d1) (ip:=ip) (n:=n) (i:=k) e5 e2 hw hk hn hy hm (by omega) e3 h1 h2 h3 h4 h5;have ek:(0:Int)+(k:Int)=(k:Int):=by omega
   refine⟨.int (0+(k:Int)),bW st ir ip im n w d1 (some (.int k)) x8' x9',_,H2,rfl,by rw[ek];rfl,b1,_,_,_,ps2,rfl,b2,b3,by omega,b5,e6.trans b6 λj hj=>.inl hj⟩) (λ_ _ _=>rfl) ⟨x7,x8,x9,[],rfl,ep,λp hp=>by simp at hp,by simp,D,Fr.refl⟩
 exact⟨x7',x8',x9',H',ps',by unfold kE;rw[r1,e1],e2,e3,e5,e6⟩
theorem z1n (pm:ys.Perm (iN n)) {ps:List (Int×Int)}(h:rV ys n ps):zA n ps:=by
 have hl:ys.length=n:=by rw[pm.length_eq];simp[iN]
 have nd:ys.Nodup:=by refine pm.nodup_iff.mpr ?_;unfold iN;simp only[gb];refine List.Pairwise.map _ ?_ (rg (n:=n));intro a b h e;exact h (by omega)
 have mem:∀i,i<n->0<=ys.getD i 0/\ys.getD i 0<n:=λi hi=>by have hm:ys.getD i 0∈iN n:=pm.mem_iff.mp (by simp[show i<ys.length by omega]);simp only[iN,cb,bx,gb]at hm;obtain⟨k,hk,e⟩:=hm;omega
 refine⟨λp hp=>?_,λa=>((uB a ys).getD 0:Nat),λp hp=>?_⟩
 ·obtain⟨i,j,hij,hj,rfl⟩:=h p hp;exact⟨(mem i (by omega)).1,(mem i (by omega)).2,(mem j hj).1,(mem j hj).2⟩
 ·obtain⟨i,j,hij,hj,rfl⟩:=h p hp;have hi':i<ys.length:=by omega
  have hj':j<ys.length:=by omega
  have e1:ys.getD i 0=ys[i]:=by simp[hi']
  have e2:ys.getD j 0=ys[j]:=by simp[hj']
  simp only[e1,e2,EH nd i hi',EH nd j hj',Option.getD_some];omega
def EM (ms:List Int) (n:Nat) (ps:List (Int×Int)):Prop:=∀p∈ps,∃i j:Nat,i<n/\j<n/\ms.getD i 0<ms.getD j 0/\p=((i:Int),(j:Int))
theorem z1o {ps:List (Int×Int)}(h:EM ms n ps):zA n ps:=by
 refine⟨λp hp=>?_,λa=>ms.getD a.toNat 0,λp hp=>?_⟩
 ·obtain⟨i,j,hi,hj,_,rfl⟩:=h p hp;exact⟨by simp,by simpa using hi,by simp,by simpa using hj⟩
 ·obtain⟨i,j,hi,hj,hlt,rfl⟩:=h p hp;simpa using hlt
def zB:M (List Dv):=cD (aS fK (aB (aA 2) aC)) [none,some 7,some 6] (aF 0) (mB (m2 fP (m2 aN (aA 2) (aA 1)) (m2 aN (aA 2) (aA 0)))) (bX (cC (aB (aA 1) (aB (aA 0) aC))))
def uS:MS:=aK (m2 bD (aA 5) (dG zB)) (aF 5)
def gQ (ms:List Int) (n i:Nat):List (Int×Int):=(bo n).filterMap λj=>if ms.getD i 0<ms.getD j 0 then some ((i:Int),(j:Int))else none
theorem z1p {H:Hs}{x8 x9:Option Dv}{i:Nat}(em:getL H im=some (ms.map Dv.int)) (hi:i<n) (hn:n<=6) (hm:ms.length=n):
  zB (bW st ir ip im n w d1 (some (.int i)) x8 x9) H=.ok ((gQ ms n i).map aG) H:=by
 have hi0:aS fK (aB (aA 2) aC) (bW st ir ip im n w d1 (some (.int i)) x8 x9) H=.ok (eX 0 n) H:=by have q:aB (aA 2) aC (bW st ir ip im n w d1 (some (.int i)) x8 x9) H=.ok [.int n] H:=rfl;unfold aS;rw[q,Rs.bind_ok];exact EL (by omega) (by omega)
 have h:zB (bW st ir ip im n w d1 (some (.int i)) x8 x9) H=.ok ((bo n).filterMap λj=>if ms.getD i 0<ms.getD j 0 then some (aG ((i:Int),(j:Int)))else none) H:=
  iP (bo n) (λj=>if ms.getD i 0<ms.getD j 0 then some (aG ((i:Int),(j:Int)))else none) (λρ=>∃a,ρ=[a,some (.int i),some (.ref im)]) hi0 (by simp[eX]) ⟨_,rfl⟩ rfl (λk hk ρ ⟨a,er⟩=>by
   subst er;have hk':k<n:=by simpa using hk
   have gk:(bo n)[k]=k:=by simp
   rw[gk];have ek:(0:Int)+(k:Int)=(k:Int):=by omega
   refine⟨.int (0+(k:Int)),[some (.int k),some (.int i),some (.ref im)],rfl,by rw[ek];rfl,⟨_,rfl⟩, ?_⟩;have x1:=qL em (k:=i) (by omega);have x2:=qL em (k:=k) (by omega);have g1:ms[i]=ms.getD i 0:=by simp[show i<ms.length by omega]
   have g2:ms[k]=ms.getD k 0:=by simp[show k<ms.length by omega]
   rw[g1]at x1;rw[g2]at x2;generalize ms.getD i 0=va at x1 ⊢;generalize ms.getD k 0=vb at x2 ⊢;have te:mB (m2 fP (m2 aN (aA 2) (aA 1)) (m2 aN (aA 2) (aA 0))) [some (.int k),some (.int i),some (.ref im)] H=.ok (decide (va<vb)) H:=by simp[mB,m2,aA,x1,x2,fP,dI]
   by_cases c:va<vb
   ·rw[if_pos c];rw[decide_eq_true c]at te;exact⟨te,rfl⟩
   ·rw[if_neg c];rw[decide_eq_false c]at te;exact te) (by simp;omega)
 have e:((bo n).filterMap λj=>if ms.getD i 0<ms.getD j 0 then some (aG ((i:Int),(j:Int)))else none)=(gQ ms n i).map aG:=by
  unfold gQ;rw[List.map_filterMap];refine LQ _ λj _=>?_
  split <;> rfl
 rw[h,e]
theorem z1q {H:Hs}{ip0:Nat}{x7 x8 x9:Option Dv}(D:Std st ir im ys ms H) (ep:getL H ip0=some (([]:List (Int×Int)).map aG)) (hn:n<=6) (hm:ms.length=n):
  ∃(ip':Nat) (x7':Option Dv) (H':Hs) (ps':List (Int×Int)),eS (aS fK (aB (aA 2) aC)) (aF 7) uS (bW st ir ip0 im n w d1 x7 x8 x9) H=.nx (bW st ir ip' im n w d1 x7' x8 x9) H'/\getL H' ip'=some (ps'.map aG)/\EM ms n ps'/\Fr [] H H':=by
 have hi0:aS fK (aB (aA 2) aC) (bW st ir ip0 im n w d1 x7 x8 x9) H=.ok (eX 0 n) H:=by have q:aB (aA 2) aC (bW st ir ip0 im n w d1 x7 x8 x9) H=.ok [.int n] H:=rfl;unfold aS;rw[q,Rs.bind_ok];exact EL (by omega) (by omega)
 have hN:(eX 0 (n:Int)).n=n:=by simp[eX]
 obtain⟨ρ',H',r1,ip',x7',ps',e1,e2,e3,e4,e5⟩:=xB (b:=uS) (sg:=aF 7) hi0 (λk ρ H'=>∃(ip':Nat) (x7':Option Dv) (ps':List (Int×Int)),ρ=bW st ir ip' im n w d1 x7' x8 x9/\getL H' ip'=some (ps'.map aG)/\EM ms n ps'/\ps'.length<=6*k/\Fr [] H H')
  (λk ρ H' hk ⟨ip',x7',ps',e1,e2,e3,e4,e5⟩=>by
   subst e1;rw[hN]at hk;have em:=e5.getL D.m (by simp);have hc:=z1p (st:=st) (ir:=ir) (ip:=ip') (w:=w) (d1:=d1) (x8:=x8) (x9:=x9) em hk hn hm;have hrl:(gQ ms n k).length<=6:=by have:=lb (λj=>if ms.getD k 0<ms.getD j 0 then some ((k:Int),(j:Int))else none) (bo n);unfold gQ;rw[jv]at this;omega
   have ek:(0:Int)+(k:Int)=(k:Int):=by omega
   have ep1:=kY (l:=[Ob.lst ((gQ ms n k).map aG)]) e2;have eq1:getL (H'++[Ob.lst ((gQ ms n k).map aG)]) H'.length=some ((gQ ms n k).map aG):=by simp[getL]
   have hz:(ps'.map aG).length+((gQ ms n k).map aG).length<=1000000:=by rw[bh,bh];omega
   have hb:uS (bW st ir ip' im n w d1 (some (.int k)) x8 x9) H'=.nx (bW st ir (H'.length+1) im n w d1 (some (.int k)) x8 x9) (H'++[Ob.lst ((gQ ms n k).map aG)]++[Ob.lst ((ps'++gQ ms n k).map aG)]):=by
    have ha:bD (.ref ip') (.ref H'.length) (H'++[Ob.lst ((gQ ms n k).map aG)])=.ok (.ref (H'.length+1)) (H'++[Ob.lst ((gQ ms n k).map aG)]++[Ob.lst ((ps'++gQ ms n k).map aG)]):=by show mW (.ref ip') (.ref H'.length) (H'++[Ob.lst ((gQ ms n k).map aG)])=_;simp only[mW,ep1,eq1,lim,hz,if_true];simp
    have hal:dG zB (bW st ir ip' im n w d1 (some (.int k)) x8 x9) H'=.ok (.ref H'.length) (H'++[Ob.lst ((gQ ms n k).map aG)]):=by unfold dG;rw[hc];rfl
    unfold uS aK m2;show((Rs.ok (Dv.ref ip') H').bind _).thenS _=_;rw[Rs.bind_ok,hal,Rs.bind_ok,ha];rfl
   refine⟨.int (0+(k:Int)),bW st ir ip' im n w d1 (some (.int k)) x8 x9,_,_,rfl,by rw[ek];rfl,hb,H'.length+1,_,ps'++gQ ms n k,rfl,by simp[getL], ?_,by rw[br];omega,e5.trans (Fr.trans (T:=[]) (Fr.app (S:=[])) Fr.app (by simp)) (by simp)⟩;intro p hp
   rcases fw.mp hp with hp|hp
   ·exact e3 p hp
   ·unfold gQ at hp;obtain⟨j,hj,e⟩:=gz.mp hp
    split at e
    ·rename_i c;cases e;exact⟨k,j,hk,bx.mp hj,c,rfl⟩
    ·cases e) (λ_ _ _=>rfl) ⟨ip0,x7,[],rfl,ep,λp hp=>by simp at hp,by simp,Fr.refl⟩
 exact⟨ip',x7',H',ps',by rw[r1,e1],e2,e3,e5⟩
end
def o1:MS:=aK (m2 nF (aA 1) (m2 aN (aV (aB (mC (.int 0)) (aB (mC (.int 0)) (aB (mC (.int 1)) (aB (mC (.int 2)) (aB (mC (.int 0)) (aB (mC (.int 3)) (aB (mC (.int 1)) (aB (mC (.int 4)) aC))))))))) (aD F_qs (aB (aA 0) (aB (mC (.int 8)) aC))))) (aF 2)
def o2:MS:=aK (aD mY (aB (mC (.int 1)) (aB (aA 2) aC))) (aF 2)
def o3:MS:=aK (aD F_qa (aB (aA 0) (aB (aD (f1 rK) (aB (aA 2) aC)) aC))) (aF 3)
def o4:MS:=aK (aD F_qs (aB (aA 0) (aB (mC (.int 5)) aC))) (aF 4)
def o5:MS:=aK (aV aC) (aF 5)
def kF:M (List Dv):=cD (bQ eE (aA 3)) [none,some 0] (aF 0) dJ (bX (aD F_qs (aB (aA 1) (aB (mC (.int 3)) aC))))
def o6:MS:=aK (dG kF) (aF 6)
def o8:MS:=aR (mB (m2 bN (aA 4) (mC (.int 3)))) (aJ (aK (aV aC) (aF 5)) (eS (aS fK (aB (aA 2) aC)) (aF 7) uS)) aX
def o9:MS:=aL (cC (aB (aA 2) (aB (aD (f1 iH) (aB (aD F_qg (aB (aA 5) aC)) aC)) aC)))
theorem mI:jA=aJ o1 (aJ o2 (aJ o3 (aJ o4 (aJ o5 (aJ o6 (aJ kE (aJ o8 o9))))))):=rfl
section
variable{st:Nat}
theorem mJ {H:Hs}{m:Int}{x2 x3 x4 x5 x6 x7 x8 x9:Option Dv}(s:St st H):∃(v:Int) (H':Hs),0<=v/\v<=4/\o1 [some (.ref st),some (.int m),x2,x3,x4,x5,x6,x7,x8,x9] H=.nx [some (.ref st),some (.int m),some (.int (m - v)),x3,x4,x5,x6,x7,x8,x9] H'/\St st H'/\Fr [st] H H':=by
 have fA:Fr [] H (H++[Ob.lst [.int 0,.int 0,.int 1,.int 2,.int 0,.int 3,.int 1,.int 4]]):=Fr.app;have eA:getL (H++[Ob.lst [.int 0,.int 0,.int 1,.int 2,.int 0,.int 3,.int 1,.int 4]]) H.length=some (([0,0,1,2,0,3,1,4]:List Int).map Dv.int):=by simp[getL]
 have sA:=s.fr fA (by simp);have lt:=s.lt;have hd:aV (aB (mC (.int 0)) (aB (mC (.int 0)) (aB (mC (.int 1)) (aB (mC (.int 2)) (aB (mC (.int 0)) (aB (mC (.int 3)) (aB (mC (.int 1)) (aB (mC (.int 4)) aC)))))))) [some (.ref st),some (.int m),x2,x3,x4,x5,x6,x7,x8,x9] H=.ok (.ref H.length) (H++[Ob.lst [.int 0,.int 0,.int 1,.int 2,.int 0,.int 3,.int 1,.int 4]]):=rfl;generalize H++[Ob.lst [.int 0,.int 0,.int 1,.int 2,.int 0,.int 3,.int 1,.int 4]]=HA at fA eA sA hd;obtain⟨r,H1,r0,r1,t1,f1,s1⟩:=nS 8 sA;have e1:=f1.getL eA (by simp;omega);obtain⟨k,rfl⟩:∃k:Nat,r=k:=⟨r.toNat,by omega⟩
 have hk:k<8:=by omega
 have hx:=qL e1 (k:=k) (by simpa using hk);have hv:0<=([0,0,1,2,0,3,1,4]:List Int)[k]/\([0,0,1,2,0,3,1,4]:List Int)[k]<=4:=by
  match k,hk with
  |0,_=>simp
  |1,_=>simp
  |2,_=>simp
  |3,_=>simp
  |4,_=>simp
  |5,_=>simp
  |6,_=>simp
  |7,_=>simp
 generalize ([0,0,1,2,0,3,1,4]:List Int)[k]=v at hx hv;refine⟨v,H1,hv.1,hv.2, ?_,s1,fA.mono (T:=[st]) (by simp) |>.trans f1 (by simp)⟩;have ht:aD F_qs (aB (aA 0) (aB (mC (.int 8)) aC)) [some (.ref st),some (.int m),x2,x3,x4,x5,x6,x7,x8,x9] HA=.ok (.int k) H1:=by simp[aD,aB,aA,mC,aC,t1]
 unfold o1 aK m2;show((Rs.ok (Dv.int m) H).bind _).thenS _=_;rw[Rs.bind_ok,hd,Rs.bind_ok,ht,Rs.bind_ok,hx,Rs.bind_ok];rfl
theorem mK {H:Hs}{ir:Nat}{ys:List Int}{x1 x2 x4 x5 x6 x7 x8 x9:Option Dv}(s:St st H) (er:getL H ir=some (ys.map Dv.int)) (hrs:ir≠st) (hl:ys.length<=100):∃(ms:List Int) (H':Hs),ms.length=ys.length/\o6 [some (.ref st),x1,x2,some (.ref ir),x4,x5,x6,x7,x8,x9] H=.nx [some (.ref st),x1,x2,some (.ref ir),x4,x5,some (.ref H'.length),x7,x8,x9] (H'++[.lst (ms.map Dv.int)])/\St st H'/\Fr [st] H H':=by
 have hi:bQ eE (aA 3) [some (.ref st),x1,x2,some (.ref ir),x4,x5,x6,x7,x8,x9] H=.ok (eW ir ys.length) H:=by simp[bQ,aA,eE,er]
 obtain⟨ρ',H',acc',h1,a,ms,h2,h3,h4,h5,h6⟩:=BX (src:=eW ir ys.length) (sg:=aF 0) (t:=dJ) (m:=bX (aD F_qs (aB (aA 1) (aB (mC (.int 3)) aC))))
  (λk ρ H' acc=>∃(a:Option Dv) (ms:List Int),ρ=[a,some (.ref st)]/\acc=ms.map Dv.int/\ms.length=k/\St st H'/\Fr [st] H H')
  (λk ρ H' acc hk ⟨a,ms,e1,e2,e3,e4,e5⟩=>by
   subst e1;subst e2;have hk':k<ys.length:=hk;obtain⟨r,H1,r0,r1,t1,f1,s1⟩:=nS 3 e4;have er':=e5.getL er (by simpa using hrs);refine⟨.int ys[k],[some (.int ys[k]),some (.ref st)],EC er' hk',rfl,.inr ⟨H',[some (.int ys[k]),some (.ref st)],(ms++[r]).map Dv.int,H1,rfl, ?_,_,ms++[r],rfl,rfl,by simp[e3],s1,e5.trans f1 (by simp)⟩⟩;have hz:ms.length<1000000:=by omega
   simp[bX,aD,aB,aA,mC,aC,t1,hz]) (λρ H' acc ⟨_,_,_,_,_,_,e5⟩=>ED (e5.getL er (by simpa using hrs))) ys.length 0 [none,some (.ref st)] H [] (by simp[eW]) ⟨none,[],rfl,rfl,rfl,s,Fr.refl⟩
 refine⟨ms,H',h4, ?_,h5,h6⟩;have hc:kF [some (.ref st),x1,x2,some (.ref ir),x4,x5,x6,x7,x8,x9] H=.ok (ms.map Dv.int) H':=by unfold kF cD;rw[hi,Rs.bind_ok];have hcap:lO [none,some 0] [some (.ref st),x1,x2,some (.ref ir),x4,x5,x6,x7,x8,x9]=[none,some (.ref st)]:=rfl;rw[hcap,show(eW ir ys.length).n=ys.length from rfl,h1];dsimp only;rw[h3]
 unfold o6 aK dG;rw[hc];rfl
theorem mM {H:Hs}(s:St st H):∃(n:Nat) (cs:List (Int×Int)) (H':Hs),F_qi [.ref st,.int 6] H=.ok (bS n cs) H'/\OrdP n cs/\St st H'/\Fr [st] H H':=by
 have lt:=s.lt;obtain⟨v,H1,v0,v1,w1,s1,f1'⟩:=mJ (m:=6) (x2:=none) (x3:=none) (x4:=none) (x5:=none) (x6:=none) (x7:=none) (x8:=none) (x9:=none) s;obtain⟨n,hn⟩:∃n:Nat,(6:Int) - v=n:=⟨(6 - v).toNat,by omega⟩
 have n1:1<=n:=by omega
 have n6:n<=6:=by omega
 rw[hn]at w1;have w2:o2 [some (.ref st),some (.int 6),some (.int n),none,none,none,none,none,none,none] H1=.nx [some (.ref st),some (.int 6),some (.int n),none,none,none,none,none,none,none] H1:=by
  have hm:mY [.int 1,.int (n:Int)] H1=.ok (.int n) H1:=by
   show Rs.ok (Dv.int (if(n:Int)>1 then(n:Int)else 1)) H1=_
   split
   ·rfl
   ·rw[show(1:Int)=n by omega]
  simp[o2,aK,aD,aB,mC,aA,aC,hm,aF]
 have hL:rK (.int n) H1=.ok (.ref H1.length) (H1++[.lst ((iN n).map Dv.int)]):=by
  have c:(decide (0<=(n:Int))&&decide ((n:Int)<=1000))=true:=by simp;omega
  simp only[rK,c,if_true]
 have fL:Fr [] H1 (H1++[Ob.lst ((iN n).map Dv.int)]):=Fr.app;obtain⟨ir,ys,H2,t2,er,pm,hir,s2,f2⟩:=z1a (s1.fr fL (by simp)) (j:=H1.length) (xs:=iN n) (by simp[getL]) (by simp[iN];omega);have l1:=s1.lt;have hir':H1.length+1<=ir:=by simpa using hir
 have w3:o3 [some (.ref st),some (.int 6),some (.int n),none,none,none,none,none,none,none] H1=.nx [some (.ref st),some (.int 6),some (.int n),some (.ref ir),none,none,none,none,none,none] H2:=by simp[o3,aK,aD,aB,aA,aC,f1,hL,t2,aF]
 have hy:ys.length=n:=by rw[pm.length_eq];simp[iN]
 obtain⟨w,H3,w0,w5,t3,f3,s3⟩:=nS 5 s2;have er3:=f3.getL er (by simp;omega);have w4:o4 [some (.ref st),some (.int 6),some (.int n),some (.ref ir),none,none,none,none,none,none] H2=.nx [some (.ref st),some (.int 6),some (.int n),some (.ref ir),some (.int w),none,none,none,none,none] H3:=by simp[o4,aK,aD,aB,aA,mC,aC,t3,aF]
 have w5':o5 [some (.ref st),some (.int 6),some (.int n),some (.ref ir),some (.int w),none,none,none,none,none] H3=.nx [some (.ref st),some (.int 6),some (.int n),some (.ref ir),some (.int w),some (.ref H3.length),none,none,none,none] (H3++[.lst []]):=rfl;have fM:Fr [] H3 (H3++[Ob.lst []]):=Fr.app;have eP:getL (H3++[Ob.lst []]) H3.length=some (([]:List (Int×Int)).map aG):=by simp[getL]
 have l2:=nJ er;have l3:=nJ er3;have l4:=s3.lt;obtain⟨ms,H4,hm,w6,s4,f4⟩:=mK (x1:=some (.int 6)) (x2:=some (.int n)) (x4:=some (.int w)) (x5:=some (.ref H3.length)) (x6:=none) (x7:=none) (x8:=none) (x9:=none) (s3.fr fM (by simp)) (fM.getL er3 (by simp)) (by omega) (by omega);have eP4:=f4.getL eP (by simp;omega);have er4:=f4.getL (fM.getL er3 (by simp)) (by simp;omega);have hle:H3.length+1<=H4.length:=by have:=f4.le;simpa using this
 have fN:Fr [] H4 (H4++[Ob.lst (ms.map Dv.int)]):=Fr.app;have D:Std st ir H4.length ys ms (H4++[Ob.lst (ms.map Dv.int)]):=⟨s4.fr fN (by simp),fN.getL er4 (by simp),by simp[getL]⟩
 obtain⟨x7,x8,x9,H5,ps,w7,eP5,hb,D5,f5⟩:=mH (d1:=.int 6) (w:=w) (ip:=H3.length) (n:=n) (x7:=none) (x8:=none) (x9:=none) D (fN.getL eP4 (by simp)) ⟨w0,w5⟩ n6 hy (by omega) (by omega) (by omega) (by omega) (by omega) (by omega);have fall:Fr [st] H H5:=by
  have g1:Fr [st] H H2:=(f1'.trans fL (by simp)).trans f2 (by simp);have g2:Fr [st] H (H3++[Ob.lst []]):=(g1.trans f3 (by simp)).trans fM (by simp);have g3:Fr [st] H (H4++[Ob.lst (ms.map Dv.int)]):=(g2.trans f4 (by simp)).trans fN (by simp);refine g3.trans f5 λj hj=>?_
  rcases ay.mp hj with rfl|hj
  ·exact .inl (by simp)
  ·rw[ey.mp hj];have:=f1'.le;have:=f2.le;have:=f3.le;right;omega
 have fin:∀(q:Nat) (y7:Option Dv) (H6:Hs) (qs:List (Int×Int)),getL H6 q=some (qs.map aG)->zA n qs->Fr [] H5 H6->o8 (bW st ir H3.length H4.length n w (.int 6) x7 x8 x9) H5=.nx (bW st ir q H4.length n w (.int 6) y7 x8 x9) H6->
   ∃(cs:List (Int×Int)) (H':Hs),F_qi [.ref st,.int 6] H=.ok (bS n cs) H'/\OrdP n cs/\St st H'/\Fr [st] H H':=λq y7 H6 qs eq6 g6 f6 w8=>by
  obtain⟨cs,j,H7,hc,tc,ec,f7⟩:=NA n6 g6.1 (M8 eq6);refine⟨cs,H7, ?_,z1l n1 n6 g6 hc,(D5.s.fr f6 (by simp)).fr f7 (by simp),(fall.trans f6 (by simp)).trans f7 (by simp)⟩;have w9:o9 (bW st ir q H4.length n w (.int 6) y7 x8 x9) H6=.rt (bS n cs) H7:=by
   have h1:aD F_qg (aB (aA 5) aC) (bW st ir q H4.length n w (.int 6) y7 x8 x9) H6=.ok (.ref j) H7:=by simp[aD,aB,aA,aC,tc]
   have h2:aD (f1 iH) (aB (aD F_qg (aB (aA 5) aC)) aC) (bW st ir q H4.length n w (.int 6) y7 x8 x9) H6=.ok (.tup (cs.map aG)) H7:=by
    have h0:aB (aD F_qg (aB (aA 5) aC)) aC (bW st ir q H4.length n w (.int 6) y7 x8 x9) H6=.ok [.ref j] H7:=by show(aD F_qg (aB (aA 5) aC) (bW st ir q H4.length n w (.int 6) y7 x8 x9) H6).bind _=_;rw[h1];rfl
    show(aB (aD F_qg (aB (aA 5) aC)) aC (bW st ir q H4.length n w (.int 6) y7 x8 x9) H6).bind _=_;rw[h0];simp[f1,iH,ec]
   unfold o9 aL cC;rw[show aB (aA 2) (aB (aD (f1 iH) (aB (aD F_qg (aB (aA 5) aC)) aC)) aC) (bW st ir q H4.length n w (.int 6) y7 x8 x9) H6=.ok [.int n,.tup (cs.map aG)] H7 by unfold aB;show((Rs.ok (Dv.int n) H6).bind _)=_;rw[Rs.bind_ok];show((aD (f1 iH) (aB (aD F_qg (aB (aA 5) aC)) aC) (bW st ir q H4.length n w (.int 6) y7 x8 x9) H6).bind _).bind _=_;rw[h2];rfl];rfl
  show bL (jA [some (.ref st),some (.int 6),none,none,none,none,none,none,none,none] H)=_;rw[mI,aY w1,aY w2,aY w3,aY w4,aY w5',aY w6,aY w7,aY w8,w9];rfl
 have t8:mB (m2 bN (aA 4) (mC (.int 3))) (bW st ir H3.length H4.length n w (.int 6) x7 x8 x9) H5=.ok (w==3) H5:=by simp[mB,m2,aA,mC,rT,dI]
 by_cases h3:w=3
 ·have fQ:Fr [] H5 (H5++[Ob.lst []]):=Fr.app;obtain⟨q,y7,H6,qs,k1,k2,k3,k4⟩:=z1q (st:=st) (ir:=ir) (im:=H4.length) (n:=n) (w:=w) (d1:=.int 6) (ip0:=H5.length) (x7:=x7) (x8:=x8) (x9:=x9) (D5.fr fQ (D5.s.fr fQ (by simp)) (by simp) (by simp)) (by simp[getL]) n6 (by omega);obtain⟨cs,H',r⟩:=fin q y7 H6 qs k2 (z1o k3) (fQ.trans k4 (by simp)) (by unfold o8;have wA:aK (aV aC) (aF 5) (bW st ir H3.length H4.length n w (.int 6) x7 x8 x9) H5=.nx (bW st ir H5.length H4.length n w (.int 6) x7 x8 x9) (H5++[Ob.lst []]):=rfl;rw[nK (t8.trans (by rw[h3];rfl)),aY wA,k1]);exact⟨n,cs,H',r⟩
 ·obtain⟨cs,H',r⟩:=fin H3.length x7 H5 ps eP5 (z1n pm hb) Fr.refl (by
   unfold o8;have:(w==3)=false:=by simpa using h3
   rw[kZ (t8.trans (by rw[this]))];rfl)
  exact⟨n,cs,H',r⟩
end
end L2.Mr.Com
namespace L2
open PySem PySem.Spec PyProof.Rows
section
variable{X:Cx}{D:ah}
end
section
variable{X:Cx}
end
end L2
namespace L2.Mr
open PySem PySem.Spec PyProof.Rows
section
variable{M:wk}{A:cn}{E:af->ag->Prop}{s:ag}{base:cx}{env:Env}{outer:List Env}{L e T:ah}{C a0:af}{Q:Unit->ag->Prop}
end
section
variable{P:bg}{w:cq}{M:wk}{A:cn}{E:af->ag->Prop}{s:ag}{H H0:Hp}{base:cx}{env:Env}{outer:List Env}{L e:ah}{C:af}{Q:Unit->ag->Prop}
end
section
variable{P:bg}{w:cq}{K:ar}{mg:Str->Option af}{base:cx}{N:List Str}{qual:Str}{scope:gw}{f:ah}{cdv:af}{A:cn}{outer:List Env}{s0:ag}{H0:Hp}{E0:XK}{G:Cfg}{E:XK}{k:Nat}
end
section
variable{G:Cfg}
end
section
variable{X:Cx}{G:Cfg}{E:XK}{elt tg iter:bj}{ifs:List bj}{sc:gw}{ps pos:Pos}{mi:M Src}{st:cU}{test:M Bool}{me:M Dv}{N:List Str}{cap:List (Option Nat)}
end
section
variable{P:bg}{w:cq}{K:ar}{mg:Str->Option af}{base:cx}{N:List Str}{qual:Str}{f:ah}{G:Cfg}{k:Nat}
end
end L2.Mr
namespace L2.Mr.Cod
open PySem PySem.Spec PyProof.Rows L2 L2.Mr L2.Mr.Com
def xZ:MS:=(aR (bE (aT (aD F_qw (aB (aA 0) aC)))) (jG 0 (aB (mC (.str "this is no order")) aC)) aX)
def F_qn:List Dv->Hs->Rs Dv:=aZ 1 1 (xZ)
open L2.Mr.Com hiding iZ F_qg jA F_qi
section
variable{st n:Nat}
end
section
variable{n i:Nat}{H:Hs}{S:List (Int×Int)}{m a b:Int}{x0 x1 x3 x4 x5:Option Dv}
end
open L2.Mr.Com hiding iZ F_qg jA F_qi oB mF mG mH jO kE o1 o2 o3 o4 o5 o6 kF o8 o9 mI mJ mK mM bW
section
variable{st ip im n:Nat}{ys ms:List Int}{w:Int}{d1:Dv}
end
section
variable{st:Nat}
end
end L2.Mr.Cod
namespace L2.Mr.K01
open PySem PySem.Spec PyProof.Rows L2 L2.Mr L2.Mr.Com
def mb_qk:MS:=(aL (cT (m1 (aU oV) (aA 0)) (m1 mV (m1 (aU kW) (aA 0)))))
def F_qk:List Dv->Hs->Rs Dv:=aZ 1 1 (mb_qk)
def mb_qb:MS:=(aJ (aR (bF (bE (aT (m1 (aU fG) (aA 0)))) (bF (mB (m2 bC (aD (f1 dE) (aB (aA 0) aC)) (mC (.int 2)))) (bF (bE (aT (aD F_qk (aB (m2 aN (aA 0) (mC (.int 0))) aC)))) (bE (mB (iS hV hV (mC (.int 1)) (m2 aN (aA 0) (mC (.int 0))) (mC (.int 6)))))))) (aL (mC (.bl false))) aX) (aJ (aR (bE (aT (m1 (aU fG) (m2 aN (aA 0) (mC (.int 1)))))) (aL (mC (.bl false))) aX) (aJ (eS (bQ eF (m2 aN (aA 0) (mC (.int 1)))) (aF 1) (aJ (aR (bF (bE (aT (m1 (aU fG) (aA 1)))) (bF (mB (m2 bC (aD (f1 dE) (aB (aA 1) aC)) (mC (.int 2)))) (bF (bE (aT (aD F_qk (aB (m2 aN (aA 1) (mC (.int 0))) aC)))) (bE (aT (aD F_qk (aB (m2 aN (aA 1) (mC (.int 1))) aC))))))) (aL (mC (.bl false))) aX) (aR (bF (mB (m2 bN (m2 aN (aA 1) (mC (.int 0))) (m2 aN (aA 1) (mC (.int 1))))) (bF (mB (m2 fP (aD (f1 (kC lW)) (aB (aA 1) aC)) (mC (.int 0)))) (mB (m2 oU (aD (f1 (kC lV)) (aB (aA 1) aC)) (m2 aN (aA 0) (mC (.int 0))))))) (aL (mC (.bl false))) aX))) (aJ (aK (aD F_qg (aB (m2 aN (aA 0) (mC (.int 1))) aC)) (aF 2)) (aL (cT (m2 bN (aA 2) (aD (f1 iD) (aB (m2 aN (aA 0) (mC (.int 1))) aC))) (m2 bN (dG (cD (bQ eE (aA 2)) [none,none] (cM 2 (bG (aF 0) (bG (aF 1) cO))) (mB (m2 bN (aA 0) (aA 1))) (bX (mC (.int 1))))) (aV aC))))))))
def F_qb:List Dv->Hs->Rs Dv:=aZ 1 3 (mb_qb)
end L2.Mr.K01
namespace L2.Mr.Com
open PySem PySem.Spec PyProof.Rows L2 L2.Mr
def T0 (H:Hs):Dv->Prop
 | .ref i=>∃xs,getL H i=some xs
 | .exc _=>False
 | .scr=>False
 |_=>True
def TK:Nat->Hs->Dv->Prop
 |0,H,d=>T0 H d
 |k+1,H,d=>T0 H d/\∀ds,d=.tup ds->ds.length<=500/\∀x∈ds,TK k H x
theorem TK.t0:∀{k:Nat}{H:Hs}{d:Dv},TK k H d->T0 H d
 |0,_,_,h=>h
 |_+1,_,_,h=>h.1
theorem TK.tup {k:Nat}{H:Hs}{ds:List Dv}(hl:ds.length<=500) (h:∀x∈ds,TK k H x):TK (k+1) H (.tup ds):=⟨trivial,λ_ e=>by cases e;exact⟨hl,h⟩⟩
theorem TK.of {k:Nat}{H:Hs}{d:Dv}(h0:T0 H d) (h:∀ds,d≠.tup ds):TK k H d:=by
 cases k with
 |zero=>exact h0
 |succ k=>exact⟨h0,λds e=>absurd e (h ds)⟩
def fX:Dv->Bool
 | .tup _=>true
 |_=>false
def isInt:Dv->Bool
 | .int _=>true
 |_=>false
section
variable{H:Hs}{d:Dv}{n:Int}
theorem rW (h:T0 H d):aU fG d H=.ok (.bl (fX d)) H:=by
 cases d with
 |ref i=>obtain⟨xs,e⟩:=h;simp[aU,iA,e,fG,fX]
 |exc c=>exact h.elim
 |scr=>exact h.elim
 |_=>rfl
theorem NB (h:T0 H d):aU oV d H=.ok (.bl (match d with | .int _=>true | .bl _=>true|_=>false)) H:=by
 cases d with
 |ref i=>obtain⟨xs,e⟩:=h;simp[aU,iA,e,oV]
 |exc c=>exact h.elim
 |scr=>exact h.elim
 |_=>rfl
theorem NC (h:T0 H d):aU kW d H=.ok (.bl (match d with | .bl _=>true|_=>false)) H:=by
 cases d with
 |ref i=>obtain⟨xs,e⟩:=h;simp[aU,iA,e,kW]
 |exc c=>exact h.elim
 |scr=>exact h.elim
 |_=>rfl
theorem z1r (h:T0 H d):F_qy [d] H=.ok (.bl (isInt d)) H:=by
 have e1:=NB h;have e2:=NC h
 cases d <;> simp[F_qy,CN,aZ,bU,aL,cT,m1,aA,e1,e2,mV,bL,isInt]
theorem EN (h:T0 H d):K01.F_qk [d] H=.ok (.bl (isInt d)) H:=by
 have e1:=NB h;have e2:=NC h
 cases d <;> simp[K01.F_qk,K01.mb_qk,aZ,bU,aL,cT,m1,aA,e1,e2,mV,bL,isInt]
def rX (lo hi:Int):Dv->Bool
 | .int x=>decide (lo<=x)&&decide (x<=hi)
 |_=>false
theorem ND {lo hi:Int}(h:T0 H d):F_qm [d,.int lo,.int hi] H=.ok (.bl (rX lo hi d)) H:=by
 have w:=z1r h
 cases d with
 |int x=>exact DZ
 |_=>simp[F_qm,xT,aZ,bU,aL,cT,aD,aB,aA,aC,w,isInt,bL,rX]
def tB (n:Int) (d:Dv):Bool:=rX 0 (n - 1) d
theorem z1s (h:T0 H d):F_qx [.int n,d] H=.ok (.bl (tB n d)) H:=by simp[F_qx,CO,aZ,bU,aL,aD,aB,aA,aC,mC,m2,nF,hZ,ND h,bL,tB]
def rY (n:Int):Dv->Bool
 | .tup ys=>ys.all (tB n)
 |_=>false
theorem z1t (h:TK 1 H d):F_ql [.int n,d] H=.ok (.bl (rY n d)) H:=by
 have e:=rW h.1
 cases d with
 |tup xs=>obtain⟨hl,hx⟩:=h.2 xs rfl;have h:cD (bQ eF (aA 1)) [none,some 0] (aF 0) dJ (bX (aD F_qx (aB (aA 1) (aB (aA 0) aC)))) [some (.int n),some (.tup xs)] H=.ok (xs.filterMap λx=>some (.bl (tB n x))) H:=iP xs (λx=>some (.bl (tB n x))) (λρ=>∃a,ρ=[a,some (.int n)]) rfl (by simp[cQ]) ⟨_,rfl⟩ rfl (λk hk ρ ⟨a,e⟩=>by subst e;exact⟨xs[k],_,by simp[cQ,hk],rfl,⟨_,rfl⟩,rfl,by simp[aD,aB,aA,aC,z1s (hx xs[k] (dj hk))]⟩) (by omega);simp[F_ql,xU,aZ,bU,aL,cT,m1,aU,aA,iA,fG,rQ h,bL,rY]
 |_=>simp[F_ql,xU,aZ,bU,aL,cT,m1,aA,e,fX,bL,rY]
def pB (n:Int):Dv->Bool
 | .tup ys=>ys.all (tB n)&&decide (ys.length=2)
 |_=>false
theorem z1u (ys:List Dv):f1 dE [.tup ys] H=.ok (.int ys.length) H:=rfl
theorem z1v (h:TK 1 H d):F_qz [.int n,d] H=.ok (.bl (pB n d)) H:=by
 have h1:=z1t (n:=n) h
 cases d with
 |tup ys=>
  cases q:ys.all (tB n)with
  |false=>simp[F_qz,rL,aZ,bU,aL,cT,aD,aB,aA,aC,h1,rY,pB,q,bL]
  |true=>
   have e:((ys.length:Int)==2)=decide (ys.length=2):=by rw[dw];simp;omega
   simp[F_qz,rL,aZ,bU,aL,cT,aD,aB,aA,aC,h1,rY,pB,q,bL,m2,z1u,mC,rT,e]
 |_=>simp[F_qz,rL,aZ,bU,aL,cT,aD,aB,aA,aC,h1,rY,pB,bL]
theorem z1w {xs:List Dv}(h:TK 2 H (.tup xs)):F_qt [.int n,.tup xs] H=.ok (.bl (xs.all (pB n))) H:=by obtain⟨hl,hx⟩:=h.2 xs rfl;have h:cD (bQ eF (aA 1)) [none,some 0] (aF 0) dJ (bX (aD F_qz (aB (aA 1) (aB (aA 0) aC)))) [some (.int n),some (.tup xs)] H=.ok (xs.filterMap λp=>some (.bl (pB n p))) H:=iP xs (λp=>some (.bl (pB n p))) (λρ=>∃a,ρ=[a,some (.int n)]) rfl (by simp[cQ]) ⟨_,rfl⟩ rfl (λk hk ρ ⟨a,e⟩=>by subst e;exact⟨xs[k],_,by simp[cQ,hk],rfl,⟨_,rfl⟩,rfl,by simp[aD,aB,aA,aC,z1v (hx xs[k] (dj hk))]⟩) (by omega);simp[F_qt,CP,aZ,bU,aL,rQ h,bL]
def gR:Dv->Option (Int×Int)
 | .tup [.int a,.int b]=>some (a,b)
 |_=>none
theorem NF {x:Dv}(h:pB n x=true):∃p,x=aG p/\gR x=some p:=by
 match x,h with
 | .tup [.int a,.int b],_=>exact⟨(a,b),rfl,rfl⟩
 | .tup [a,b],h=>
  simp[pB]at h;obtain⟨h1,h2⟩:=h
  cases a <;> first|(cases h1;done)|skip
  cases b <;> first|(cases h2;done)|skip
  exact⟨_,rfl,rfl⟩
 | .tup [],h=>simp[pB]at h
 | .tup [_],h=>simp[pB]at h
 | .tup (_::_::_::_),h=>simp[pB]at h
theorem zC:∀{xs:List Dv},(∀x∈xs,∃p,x=aG p/\gR x=some p)->xs=(xs.filterMap gR).map aG
 | [],_=>rfl
 |x::xs,h=>by obtain⟨p,e,q⟩:=h x (by simp);rw[Ae q,cy,<-zC λy hy=>h y (by simp[hy]),<-e]
def fR:Dv->Bool
 | .tup [.int n,.tup xs]=>xs.all (pB n)&&jC n (xs.filterMap gR)
 |_=>false
theorem gK {ds:List Dv}(h:ds.length≠2):∃L:Int,f1 dE [.tup ds] H=.ok (.int L) H/\bC (.int L) (.int 2) H=.ok (.bl true) H:=by
 refine⟨ds.length,rfl, ?_⟩;have:((ds.length:Int)==2)=false:=by simp;omega
 simp[bC,bR,bM,bH,this]
theorem EO {ds:List Dv}(h:ds.length≠2):F_qw [.tup ds] H=.ok (.bl false) H:=by obtain⟨L,hlen,hne⟩:=gK (H:=H) h;have e:aU fG (.tup ds) H=.ok (.bl true) H:=rfl;simp[F_qw,qH,aZ,bU,aJ,aR,bF,bE,aT,m1,aA,mB,m2,aD,aB,aC,mC,aL,e,cN,hlen,hne,dI,bL]
theorem zD {ds:List Dv}(h:ds.length≠2):fR (.tup ds)=false:=by
 unfold fR
 split
 ·rename_i e;cases e;simp at h
 ·rfl
theorem z1x (h:TK 3 H d):F_qw [d] H=.ok (.bl (fR d)) H:=by
 have e:=rW h.1
 cases d with
 |tup ds=>
  obtain⟨hl,hx⟩:=h.2 ds rfl
  match ds,hl,hx,e,h with
  | [a,b],hl,hx,e,h=>
   have ha:=hx a (by simp);have hb:=hx b (by simp);have b1:=ND (lo:=1) (hi:=6) ha.t0;have b2:=rW hb.t0;have hlen:f1 dE [.tup [a,b]] H=.ok (.int 2) H:=rfl
   cases q1:rX 1 6 a with
   |false=>
    rw[q1]at b1;have:fR (.tup [a,b])=false:=by
     cases a with
     |int n=>
      cases b with
      |tup xs=>
       have:¬ (1<=n/\n<=6):=by simpa[rX]using q1
       simp only[fR,Bh];right;unfold jC
       by_cases c:1<=n
       ·have:¬ n<=6:=λc'=>this ⟨c,c'⟩;simp[this]
       ·simp[c]
      |_=>rfl
     |_=>rfl
    rw[this];simp[F_qw,qH,aZ,bU,aJ,aR,bF,bE,aT,m1,aA,e,fX,cN,mB,m2,aD,aB,aC,hlen,mC,bC,bR,bM,bH,dI,aX,aK,cM,bG,aF,cO,b1,aL,bL]
   |true=>
    rw[q1]at b1
    cases a with
    |int n=>
     cases b with
     |tup xs=>
      have p1:=z1w (n:=n) hb
      cases q2:xs.all (pB n)with
      |false=>rw[q2]at p1;simp[fR,q2,F_qw,qH,aZ,bU,aJ,aR,bF,bE,aT,m1,aA,e,b2,fX,cN,mB,m2,aD,aB,aC,hlen,mC,bC,bR,bM,bH,dI,aX,aK,cM,bG,aF,cO,b1,p1,aL,bL]
      |true=>
       have ex:=zC λx hx=>NF (cu.mp q2 x hx);have hle:(xs.filterMap gR).length<=900:=by have:=lb gR xs;have:=(hb.2 xs rfl).1;omega
       have:=yW (H:=H) (n:=n) (ps:=xs.filterMap gR) hle;rw[<-ex]at this;rw[this];simp[fR,q2]
     |_=>simp[fR,F_qw,qH,aZ,bU,aJ,aR,bF,bE,aT,m1,aA,e,b2,fX,cN,mB,m2,aD,aB,aC,hlen,mC,bC,bR,bM,bH,dI,aX,aK,cM,bG,aF,cO,b1,aL,bL]
    |_=>cases q1
  | [],hl,hx,e,h=>exact(EO (by simp)).trans (by rw[zD (by simp)])
  | [a],hl,hx,e,h=>exact(EO (by simp)).trans (by rw[zD (by simp)])
  |a::b::c::r,hl,hx,e,h=>exact(EO (by simp)).trans (by rw[zD (by simp)])
 |_=>simp[F_qw,qH,aZ,bU,aJ,aR,bF,bE,aT,m1,aA,e,fX,cN,mC,aL,bL,fR]
end
def lB (n:Int) (x:Dv):Bool:=match gR x with
 |some p=>!(p.1==p.2)&&!(decide (min p.1 p.2<0))&&!(decide (max p.1 p.2>=n))
 |none=>false
def lI:MS:=aJ (aR (bF (bE (aT (m1 (aU fG) (aA 1)))) (bF (mB (m2 bC (aD (f1 dE) (aB (aA 1) aC)) (mC (.int 2)))) (bF (bE (aT (aD K01.F_qk (aB (m2 aN (aA 1) (mC (.int 0))) aC)))) (bE (aT (aD K01.F_qk (aB (m2 aN (aA 1) (mC (.int 1))) aC))))))) (aL (mC (.bl false))) aX) (aR (bF (mB (m2 bN (m2 aN (aA 1) (mC (.int 0))) (m2 aN (aA 1) (mC (.int 1))))) (bF (mB (m2 fP (aD (f1 (kC lW)) (aB (aA 1) aC)) (mC (.int 0)))) (mB (m2 oU (aD (f1 (kC lV)) (aB (aA 1) aC)) (m2 aN (aA 0) (mC (.int 0))))))) (aL (mC (.bl false))) aX)
def pH:MS:=aR (bF (bE (aT (m1 (aU fG) (aA 0)))) (bF (mB (m2 bC (aD (f1 dE) (aB (aA 0) aC)) (mC (.int 2)))) (bF (bE (aT (aD K01.F_qk (aB (m2 aN (aA 0) (mC (.int 0))) aC)))) (bE (mB (iS hV hV (mC (.int 1)) (m2 aN (aA 0) (mC (.int 0))) (mC (.int 6)))))))) (aL (mC (.bl false))) aX
def zE:MS:=aR (bE (aT (m1 (aU fG) (m2 aN (aA 0) (mC (.int 1)))))) (aL (mC (.bl false))) aX
def ER:MS:=aK (aD F_qg (aB (m2 aN (aA 0) (mC (.int 1))) aC)) (aF 2)
def NG:MS:=aL (cT (m2 bN (aA 2) (aD (f1 iD) (aB (m2 aN (aA 0) (mC (.int 1))) aC))) (m2 bN (dG (cD (bQ eE (aA 2)) [none,none] (cM 2 (bG (aF 0) (bG (aF 1) cO))) (mB (m2 bN (aA 0) (aA 1))) (bX (mC (.int 1))))) (aV aC)))
theorem qM:K01.mb_qb=aJ pH (aJ zE (aJ (eS (bQ eF (m2 aN (aA 0) (mC (.int 1)))) (aF 1) lI) (aJ ER NG))):=rfl
section
variable{H:Hs}{d:Dv}{n:Int}
theorem z1y {x b0:Dv}{y:Option Dv}(h:TK 1 H x):lI [some (.tup [.int n,b0]),some x,y] H=if lB n x=true then .nx [some (.tup [.int n,b0]),some x,y] H else .rt (.bl false) H:=by
 have e:=rW h.1
 cases x with
 |tup ys=>
  obtain⟨hl,hx⟩:=h.2 ys rfl
  by_cases c:ys.length=2
  ·match ys,c with
   | [a,b],_=>
    have ha:=EN (hx a (by simp)).t0;have hb:=EN (hx b (by simp)).t0;have hlen:f1 dE [.tup [a,b]] H=.ok (.int 2) H:=rfl;have i0:aN (.tup [a,b]) (.int 0) H=.ok a H:=rfl;have i1:aN (.tup [a,b]) (.int 1) H=.ok b H:=rfl
    cases a with
    |int p=>
     cases b with
     |int q=>
      have hm:f1 (kC lW) [.tup [.int p,.int q]] H=.ok (.int (lW [p,q])) H:=rfl;have hM:f1 (kC lV) [.tup [.int p,.int q]] H=.ok (.int (lV [p,q])) H:=rfl;have em:lW [p,q]=min p q:=by simp only[lW,lU,cp,je];simp[lU];omega
      have eM:lV [p,q]=max p q:=by simp only[lV,lU,cp,je];simp[lU];omega
      rw[em]at hm;rw[eM]at hM;have i2:aN (.tup [.int n,b0]) (.int 0) H=.ok (.int n) H:=rfl;have l1:fP (.int (min p q)) (.int 0) H=.ok (.bl (decide (min p q<0))) H:=rfl;have l2:oU (.int (max p q)) (.int n) H=.ok (.bl (decide (max p q>=n))) H:=rfl;have e1:=rT p q H;obtain⟨b1,q1⟩:∃b,(p==q)=b:=⟨_,rfl⟩
      obtain⟨b2,q2⟩:∃b,decide (min p q<0)=b:=⟨_,rfl⟩
      obtain⟨b3,q3⟩:∃b,decide (max p q>=n)=b:=⟨_,rfl⟩
      have hL:lB n (.tup [.int p,.int q])=(!b1&&!b2&&!b3):=by rw[<-q1,<-q2,<-q3];rfl
      rw[hL];rw[q1]at e1;rw[q2]at l1;rw[q3]at l2
      clear hL q1 q2 q3 em eM
      cases b1 <;> cases b2 <;> cases b3 <;>
       simp[lI,aJ,aR,bF,bE,aT,m1,aA,e,fX,cN,mB,m2,aD,aB,aC,hlen,mC,bC,bR,bM,bH,dI,aX,aL,i0,i1,ha,hb,isInt,hm,hM,i2,l1,l2,e1]
     |_=>simp[lB,gR,lI,aJ,aR,bF,bE,aT,m1,aA,e,fX,cN,mB,m2,aD,aB,aC,hlen,mC,bC,bR,bM,bH,dI,aX,aL,i0,i1,ha,hb,isInt]
    |_=>simp[lB,gR,lI,aJ,aR,bF,bE,aT,m1,aA,e,fX,cN,mB,m2,aD,aB,aC,hlen,mC,bC,bR,bM,bH,dI,aX,aL,i0,i1,ha,isInt]
  ·obtain⟨L,hlen,hne⟩:=gK (H:=H) c;have:lB n (.tup ys)=false:=by
    unfold lB
    split
    ·rename_i p q;unfold gR at q
     split at q
     ·rename_i e;cases e;simp at c
     ·cases q
    ·rfl
   rw[this];simp[lI,aJ,aR,bF,bE,aT,m1,aA,e,fX,cN,mB,m2,aD,aB,aC,hlen,hne,mC,dI,aX,aL]
 |_=>simp[lB,gR,lI,aJ,aR,bF,bE,aT,m1,aA,e,fX,cN,mC,aL]
theorem NH {xs:List Dv}{b0:Dv}{y:Option Dv}(h:∀x∈xs,TK 1 H x):∀(m k:Nat) (z:Option Dv),k+m=xs.length->
  if(xs.drop k).all (lB n)=true then ∃z',eR (cQ xs) (aF 1) lI m k [some (.tup [.int n,b0]),z,y] H=.nx [some (.tup [.int n,b0]),z',y] H else eR (cQ xs) (aF 1) lI m k [some (.tup [.int n,b0]),z,y] H=.rt (.bl false) H
 |0,k,z,hk=>by have:xs.drop k=[]:=List.drop_eq_nil_iff.mpr (by omega);rw[this];exact⟨z,rfl⟩
 |m+1,k,z,hk=>by
  have hlt:k<xs.length:=by omega
  have hd:xs.drop k=xs[k]::xs.drop (k+1):=qf hlt;have ih:=NH (y:=y) (b0:=b0) h m (k+1) (some xs[k]) (by omega);have hb:=z1y (y:=y) (b0:=b0) (n:=n) (h xs[k] (dj hlt));have hg:(cQ xs).get k H=some xs[k]:=by simp[cQ,hlt]
  have hs:aF 1 xs[k] [some (.tup [.int n,b0]),z,y]=some [some (.tup [.int n,b0]),some xs[k],y]:=rfl;rw[hd,List.all_cons];unfold eR
  try dsimp only
  rw[hg];dsimp only;rw[hs];dsimp only;rw[hb]
  cases q:lB n xs[k]with
  |false=>simp
  |true=>simpa using ih
end
section
variable{H:Hs}{d:Dv}
theorem z1z {n:Int}{b:Dv}(h:¬ (1<=n/\n<=6)):fR (.tup [.int n,b])=false:=by
 cases b with
 |tup xs=>
  simp only[fR,Bh];right;unfold jC
  by_cases c:1<=n
  ·have:¬ n<=6:=λc'=>h ⟨c,c'⟩;simp[this]
  ·simp[c]
 |_=>rfl
theorem ES {n:Int}{x:Dv}(h:lB n x=true):∃p,x=aG p/\gR x=some p/\p.1≠p.2/\0<=p.1/\p.1<n/\0<=p.2/\p.2<n:=by
 unfold lB at h
 split at h
 ·rename_i p q;have q':=q;unfold gR at q
  split at q
  ·rename_i a b;cases q;refine⟨(a,b),rfl,rfl, ?_⟩;simp at h;obtain⟨⟨h1,h2⟩,h3⟩:=h;refine⟨h1, ?_⟩;simp only;omega
  ·cases q
 ·cases h
theorem z20 {n:Int}{p:Int×Int}(h:iQ n p=true) (hne:p.1≠p.2):lB n (aG p)=true:=by simp[iQ,isT]at h;have:gR (aG p)=some p:=rfl;unfold lB;rw[this];simp;refine⟨⟨hne, ?_⟩, ?_⟩ <;> omega
theorem z21 {n:Int}{xs:List Dv}(h:fR (.tup [.int n,.tup xs])=true):xs.all (lB n)=true:=by simp only[fR,cf]at h;obtain⟨h1,h2⟩:=h;have ex:=zC λx hx=>NF (cu.mp h1 x hx);unfold jC at h2;simp only[cf,ve]at h2;obtain⟨⟨⟨⟨h3,h4⟩,_⟩,h5⟩,_⟩:=h2;refine cu.mpr λx hx=>?_;rw[ex]at hx;obtain⟨p,hp,rfl⟩:=cb.mp hx;refine z20 (cu.mp h4 p hp) ?_;have:=qo.mp h5 p hp;simpa using this
theorem z22 {n:Nat}{xs:List Dv}{ps cs:List (Int×Int)}(n1:1<=n) (n6:n<=6) (ex:xs=ps.map aG) (hi:lG n ps) (hne:∀p∈ps,p.1≠p.2) (hc:yZ n ps cs):fR (.tup [.int n,.tup xs])=decide (cs=ps):=by
 have ep:∀l:List (Int×Int),(l.map aG).filterMap gR=l:=λl=>by
  induction l with
  |nil=>rfl
  |cons p l ih=>rw[cy,Ae (show gR (aG p)=some p from rfl),ih]
 have hp:xs.all (pB n)=true:=by refine cu.mpr λx hx=>?_;rw[ex]at hx;obtain⟨p,hp,rfl⟩:=cb.mp hx;have:=hi p hp;simp[pB,aG,tB,rX];omega
 have hP:ps.all (iQ n)=true:=cu.mpr λp hp=>by have:=hi p hp;simp[iQ,isT];omega
 have hA:(ps.any λp=>decide (p.1=p.2))=false:=qo.mpr λp hp=>by simpa using hne p hp
 have e1:decide (1<=(n:Int))=true:=by simp;omega
 have e2:decide ((n:Int)<=6)=true:=by simp;omega
 have hT:qK ps=true↔Tr ps:=by
  unfold qK Tr;simp only[cu];constructor
  ·intro h p hp q hq c;have:=h p hp q hq;simpa[c]using this
  ·intro h p hp q hq
   by_cases c:p.2=q.1
   ·simp[c,h p hp q hq c]
   ·simp[c]
 simp only[fR,hp,uh];rw[ex,ep];unfold jC;rw[e1,e2,hP,hA];rw[dw];simp only[uh,yg,Bool.and_true,cf,decide_eq_true_eq];rw[z1k hc,rising_of,hT]
theorem z23 {i j:Nat}(ei:getL H i=some []) (ej:getL H j=some []):bN (.ref i) (.ref j) H=.ok (.bl true) H:=by have:=EF (H:=H) (i:=i) (j:=j) (ps:=[]) (qs:=[]) ei ej;simpa using this
def uT:M (List Dv):=cD (bQ eE (aA 2)) [none,none] (cM 2 (bG (aF 0) (bG (aF 1) cO))) (mB (m2 bN (aA 0) (aA 1))) (bX (mC (.int 1)))
theorem z24 {x0 x1:Option Dv}{i:Nat}{ps:List (Int×Int)}(hl:ps.length<=1000) (hne:∀p∈ps,p.1≠p.2) (e:getL H i=some (ps.map aG)):uT [x0,x1,some (.ref i)] H=.ok [] H:=by
 have hi:bQ eE (aA 2) [x0,x1,some (.ref i)] H=.ok (eW i ps.length) H:=by simp[bQ,aA,eE,e]
 have h:uT [x0,x1,some (.ref i)] H=.ok (ps.filterMap λ_=>none) H:=
  iP ps (λ_=>none) (λρ=>∃a b,ρ=[a,b]) hi rfl ⟨_,_,rfl⟩ (by simp[eW,e]) (λk hk ρ ⟨a,b,er⟩=>by
   subst er;refine⟨aG ps[k],[some (.int ps[k].1),some (.int ps[k].2)],by simp[eW,e,hk],rfl,⟨_,_,rfl⟩, ?_⟩;have c:=hne ps[k] (dj hk);have te:(ps[k].1==ps[k].2)=false:=by simpa using c
   simp[mB,m2,aA,rT,dI,te]) (by omega)
 rw[h];simp
theorem z25 (h:TK 3 H d):∃H',K01.F_qb [d] H=.ok (.bl (fR d)) H'/\Fr [] H H':=by
 have e:=rW h.1;have open_:∀r,K01.F_qb [d] H=r↔bL (K01.mb_qb [some d,none,none] H)=r:=λr=>Iff.rfl
 cases d with
 |tup ds=>
  obtain⟨hl,hx⟩:=h.2 ds rfl
  by_cases c2:ds.length=2
  ·match ds,c2 with
   | [a,b],_=>
    have ha:=hx a (by simp);have hb:=hx b (by simp);have w:=EN ha.t0;have hlen:f1 dE [.tup [a,b]] H=.ok (.int 2) H:=rfl;have i0:aN (.tup [a,b]) (.int 0) H=.ok a H:=rfl;have i1:aN (.tup [a,b]) (.int 1) H=.ok b H:=rfl;have b2:=rW hb.t0
    cases a with
    |int n=>
     by_cases c:1<=n/\n<=6
     ·have w1:pH [some (.tup [.int n,b]),none,none] H=.nx [some (.tup [.int n,b]),none,none] H:=by simp[pH,aR,bF,bE,aT,m1,aA,e,fX,cN,mB,m2,aD,aB,aC,hlen,mC,bC,bR,bM,bH,dI,aX,i0,w,isInt,iS,hV,hZ,c.1,c.2]
      cases b with
      |tup xs=>
       have w2:zE [some (.tup [.int n,.tup xs]),none,none] H=.nx [some (.tup [.int n,.tup xs]),none,none] H:=by simp[zE,aR,bE,aT,m1,aA,m2,mC,i1,b2,fX,cN,aX]
       have hsrc:bQ eF (m2 aN (aA 0) (mC (.int 1))) [some (.tup [.int n,.tup xs]),none,none] H=.ok (cQ xs) H:=rfl;have lp:=NH (n:=n) (b0:=.tup xs) (y:=none) (hb.2 xs rfl).2 xs.length 0 none (by simp);rw[pq]at lp
       cases q:xs.all (lB n)with
       |false=>
        rw[q,if_neg (by simp)]at lp;have hg:fR (.tup [.int n,.tup xs])=false:=by
         cases z:fR (.tup [.int n,.tup xs])with
         |false=>rfl
         |true=>rw[z21 z]at q;cases q
        refine⟨H, ?_,Fr.refl⟩;rw[hg];show bL (K01.mb_qb [some (.tup [.int n,.tup xs]),none,none] H)=_;rw[qM,aY w1,aY w2];have:eS (bQ eF (m2 aN (aA 0) (mC (.int 1)))) (aF 1) lI [some (.tup [.int n,.tup xs]),none,none] H=.rt (.bl false) H:=by rw[qF hsrc];exact lp
        unfold aJ;rw[this];rfl
       |true=>
        rw[q,if_pos rfl]at lp;obtain⟨z',lp⟩:=lp;have w3:eS (bQ eF (m2 aN (aA 0) (mC (.int 1)))) (aF 1) lI [some (.tup [.int n,.tup xs]),none,none] H=.nx [some (.tup [.int n,.tup xs]),z',none] H:=by rw[qF hsrc];exact lp
        have hq:=cu.mp q;obtain⟨m,rfl⟩:∃m:Nat,n=m:=⟨n.toNat,by omega⟩
        have ex:=zC λx hx=>let ⟨p,e1,e2,_⟩:=ES (hq x hx);⟨p,e1,e2⟩;generalize xs.filterMap gR=ps at ex;subst ex;have hin:lG m ps:=λp hp=>by obtain⟨p',e1,e2,_,r⟩:=ES (hq (aG p) (cb.mpr ⟨p,hp,rfl⟩));cases e2;exact⟨r.1,r.2.1,r.2.2.1,r.2.2.2⟩
        have hne:∀p∈ps,p.1≠p.2:=λp hp=>by obtain⟨p',e1,e2,r,_⟩:=ES (hq (aG p) (cb.mpr ⟨p,hp,rfl⟩));cases e2;exact r
        obtain⟨cs,j,H1,hc,tc,ec,f1'⟩:=NA (H:=H) (d:=.tup (ps.map aG)) (n:=m) (by omega) hin z1j;have hG:=z22 (n:=m) (by omega) (by omega) rfl hin hne hc;rw[hG];have w4:ER [some (.tup [.int m,.tup (ps.map aG)]),z',none] H=.nx [some (.tup [.int m,.tup (ps.map aG)]),z',some (.ref j)] H1:=by simp[ER,aK,aD,aB,m2,aA,mC,i1,aC,tc,aF]
        have lj:=nJ ec;have hlist:f1 iD [.tup (ps.map aG)] H1=.ok (.ref H1.length) (H1++[.lst (ps.map aG)]):=rfl;have fA:Fr [] H1 (H1++[Ob.lst (ps.map aG)]):=Fr.app;have eA:=fA.getL ec (by simp);have eB:getL (H1++[Ob.lst (ps.map aG)]) H1.length=some (ps.map aG):=by simp[getL]
        have q1:=EF eA eB;have i1':aN (.tup [.int m,.tup (ps.map aG)]) (.int 1) H1=.ok (.tup (ps.map aG)) H1:=rfl;have m1e:m2 bN (aA 2) (aD (f1 iD) (aB (m2 aN (aA 0) (mC (.int 1))) aC)) [some (.tup [.int m,.tup (ps.map aG)]),z',some (.ref j)] H1=.ok (.bl (decide (cs=ps))) (H1++[Ob.lst (ps.map aG)]):=by simp[m2,aA,aD,aB,mC,i1',aC,hlist,q1]
        have go:∀r H2,NG [some (.tup [.int m,.tup (ps.map aG)]),z',some (.ref j)] H1=.rt r H2->K01.F_qb [.tup [.int m,.tup (ps.map aG)]] H=.ok r H2:=λr H2 w5=>by show bL (K01.mb_qb [some (.tup [.int m,.tup (ps.map aG)]),none,none] H)=_;rw[qM,aY w1,aY w2,aY w3,aY w4,w5];rfl
        generalize hHA:H1++[Ob.lst (ps.map aG)]=HA at fA eA eB q1 m1e
        by_cases k:cs=ps
        ·subst k;have fB:Fr [] HA (HA++[Ob.lst []]):=Fr.app;have fC:Fr [] (HA++[Ob.lst []]) (HA++[Ob.lst []]++[Ob.lst []]):=Fr.app;have hC:=z24 (H:=HA) (x0:=some (.tup [.int m,.tup (cs.map aG)])) (x1:=z') (by have:=(hb.2 _ rfl).1;simp at this;omega) hne eA;have n1:getL (HA++[Ob.lst []]++[Ob.lst []]) HA.length=some []:=by simp[getL]
         have n2:getL (HA++[Ob.lst []]++[Ob.lst []]) (HA++[Ob.lst []]).length=some []:=by simp[getL]
         have q2:=z23 n1 n2;refine⟨HA++[Ob.lst []]++[Ob.lst []], ?_,((f1'.trans fA (by simp)).trans fB (by simp)).trans fC (by simp)⟩;rw[decide_eq_true rfl];refine go _ _ ?_;have a1:dG uT [some (.tup [.int m,.tup (cs.map aG)]),z',some (.ref j)] HA=.ok (.ref HA.length) (HA++[Ob.lst []]):=by unfold dG;rw[hC];rfl
         have a2:aV aC [some (.tup [.int m,.tup (cs.map aG)]),z',some (.ref j)] (HA++[Ob.lst []])=.ok (.ref (HA++[Ob.lst []]).length) (HA++[Ob.lst []]++[Ob.lst []]):=rfl;have a3:m2 bN (dG uT) (aV aC) [some (.tup [.int m,.tup (cs.map aG)]),z',some (.ref j)] HA=.ok (.bl true) (HA++[Ob.lst []]++[Ob.lst []]):=by unfold m2;rw[a1,Rs.bind_ok,a2,Rs.bind_ok,q2]
         show(cT _ (m2 bN (dG uT) (aV aC)) _ H1).thenS _=_;unfold cT;rw[m1e,decide_eq_true rfl];simp[a3]
        ·refine⟨HA, ?_,f1'.trans fA (by simp)⟩;rw[decide_eq_false k]at m1e ⊢;refine go _ _ ?_;show(cT _ _ _ H1).thenS _=_;unfold cT;rw[m1e];simp
      |_=>refine⟨H, ?_,Fr.refl⟩;refine(open_ _).mpr ?_;rw[qM,aY w1];simp[fR,aJ,zE,aR,bE,aT,m1,aA,m2,mC,i1,b2,fX,cN,aL,bL]
     ·rw[z1z c];refine⟨H, ?_,Fr.refl⟩;refine(open_ _).mpr ?_;rw[qM]
      by_cases c1:1<=n
      ·have c6:¬ n<=6:=λz=>c ⟨c1,z⟩;simp[aJ,pH,aR,bF,bE,aT,m1,aA,e,fX,cN,mB,m2,aD,aB,aC,hlen,mC,bC,bR,bM,bH,dI,aX,i0,w,isInt,iS,hV,hZ,c1,c6,aL,bL]
      ·simp[aJ,pH,aR,bF,bE,aT,m1,aA,e,fX,cN,mB,m2,aD,aB,aC,hlen,mC,bC,bR,bM,bH,dI,aX,i0,w,isInt,iS,hV,hZ,c1,aL,bL]
    |_=>refine⟨H, ?_,Fr.refl⟩;refine(open_ _).mpr ?_;rw[qM];simp[fR,aJ,pH,aR,bF,bE,aT,m1,aA,e,fX,cN,mB,m2,aD,aB,aC,hlen,mC,bC,bR,bM,bH,dI,aX,i0,w,isInt,aL,bL]
  ·obtain⟨L,hlen,hne⟩:=gK (H:=H) c2;rw[zD c2];refine⟨H, ?_,Fr.refl⟩;refine(open_ _).mpr ?_;rw[qM];simp[aJ,pH,aR,bF,bE,aT,m1,aA,e,fX,cN,mB,m2,aD,aB,aC,hlen,hne,mC,dI,aL,bL]
 |_=>refine⟨H, ?_,Fr.refl⟩;refine(open_ _).mpr ?_;rw[qM];simp[fR,aJ,pH,aR,bF,bE,aT,m1,aA,e,fX,cN,mC,aL,bL]
end
section
variable{P:Ev->Hs->Prop}{k n m':Nat}{m:M Dv}{ms:M (List Dv)}
end
theorem z26 {ρ:Ev}{H H1 H2:Hs}{st i j:Nat}{ml:M Dv}(hv:aA st ρ H=.ok (.ref i) H) (e1:ml ρ H=.ok (.ref j) H1) (e2:bD (.ref i) (.ref j) H1=.ok (.ref H1.length) H2):m2 bD (aA st) ml ρ H=.ok (.ref H1.length) H2:=by unfold m2;rw[hv,Rs.bind_ok,e1,Rs.bind_ok,e2]
end L2.Mr.Com
namespace L2.Mr.Cod
open PySem PySem.Spec PyProof.Rows L2 L2.Mr
open L2.Mr.Com hiding iZ F_qg jA F_qi oB mF mG mH jO kE o1 o2 o3 o4 o5 o6 kF o8 o9 mI mJ mK mM bW
section
variable{H:Hs}
theorem ET {n:Nat}{x:Int}:F_qr (n+1) [.int x,.int x] H=.ok (.bl true) H:=by simp[F_qr,xX,aZ,bU,aJ,aR,aT,m1,aU,aA,iA,tX,cN,aX,aL,cT,m2,bN,bR,bM,bH,kW,bL]
theorem zF {n:Nat}{xs:List Dv}(hl:xs.length<=1000) (h:∀x∈xs,F_qr n [x,x] H=.ok (.bl true) H):F_qr (n+1) [.tup xs,.tup xs] H=.ok (.bl true) H:=by
 have hc:cD (aS oQ (aB (aA 0) (aB (aA 1) aC))) [none,none] (cM 2 (bG (aF 0) (bG (aF 1) cO))) dJ (bX (aD (F_qr n) (aB (aA 0) (aB (aA 1) aC)))) [some (.tup xs),some (.tup xs)] H=.ok (xs.filterMap λx=>some (.bl ((λ_=>true) x))) H:=iP xs (λx=>some (.bl ((λ_=>true) x))) (λρ=>∃a b,ρ=[a,b]) rfl (by simp[oP,cQ]) ⟨_,_,rfl⟩ rfl (λk hk ρ ⟨a,b,e⟩=>by subst e;refine⟨.tup [xs[k],xs[k]],[some xs[k],some xs[k]],by simp[oP,cQ,hk],rfl,⟨_,_,rfl⟩,rfl, ?_⟩;simp[aD,aB,aA,aC,h xs[k] (dj hk)]) (by omega);have hz:=rQ hc;have ht:xs.all (λ_=>true)=true:=by simp
 rw[ht]at hz;have e1:aU tX (.tup xs) H=.ok (.bl true) H:=rfl;have e2:aU fG (.tup xs) H=.ok (.bl true) H:=rfl;have e3:aU tW (.tup xs) H=.ok (.bl false) H:=rfl;have e4:f1 dE [.tup xs] H=.ok (.int xs.length) H:=rfl;have n1:bC (.bl true) (.bl true) H=.ok (.bl false) H:=rfl;have n2:bC (.bl false) (.bl false) H=.ok (.bl false) H:=rfl;have n3:∀i:Int,bC (.int i) (.int i) H=.ok (.bl false) H:=λi=>by simp[bC,bR,bM,bH]
 simp[F_qr,xX,aZ,bU,aJ,aR,aT,m1,aA,e1,e2,e3,cN,bF,mB,m2,n1,n2,dI,aX,aD,aB,aC,e4,n3,aL,hz,bL]
theorem NI {n:Nat}{xs:List Int}(hl:xs.length<=1000):F_qr (n+2) [.tup (xs.map Dv.int),.tup (xs.map Dv.int)] H=.ok (.bl true) H:=zF (by simpa using hl) λy hy=>by obtain⟨p,_,rfl⟩:=cb.mp hy;exact ET
theorem iR {i j:Nat}{xs ys:List Dv}(e1:getL H i=some xs) (e2:getL H j=some ys) (hl:xs.length+ys.length<=500):bD (.ref i) (.ref j) H=.ok (.ref H.length) (H++[.lst (xs++ys)]):=by simp[bD,mW,e1,e2,lim];omega
theorem gS {i j:Nat}{ds:List Dv}(e:getL H i=some ds) (hj:j<ds.length):aN (.ref i) (.int j) H=.ok ds[j] H:=by
 have h1:fI ds.length (j:Int)=some j:=by unfold fI;rw[if_pos (by omega),if_pos (by omega)];simp
 have h2:fS ds (j:Int)=some ds[j]:=by unfold fS;rw[h1];simp[hj]
 simp only[aN,gB,gI,e,kN,h2,if_true]
theorem dC {x:List Dv}:getL (H++[.lst x]) H.length=some x:=by simp[getL]
end
section
variable{n m:Nat}{H H':Hs}{i j:Nat}
end
end L2.Mr.Cod
namespace L2.Mr
open PySem PySem.Spec PyProof.Rows L2
end L2.Mr
namespace L2.Mr.Cod
open PySem PySem.Spec PyProof.Rows L2 L2.Mr
open L2.Mr.Com hiding iZ F_qg jA F_qi oB mF mG mH jO kE o1 o2 o3 o4 o5 o6 kF o8 o9 mI mJ mK mM bW
section
variable{n:Nat}{ps:List (Int×Int)}{i:Nat}
end
section
variable{n:Nat}{ps:List (Int×Int)}{r:Int}{fs:List Int}
end
section
variable{n:Nat}{ps:List (Int×Int)}{r:Int}{fs:List Int}
end
section
variable{n:Nat}{ps:List (Int×Int)}{r:Int}{H:Hs}
end
section
variable{n:Nat}{ps:List (Int×Int)}{r:Int}{H:Hs}{i j:Nat}{fs:List Int}{nd:List (Int×Int×Int)}
end
section
variable{n:Nat}{ps:List (Int×Int)}{r:Int}{H:Hs}{i j:Nat}{fs:List Int}{nd:List (Int×Int×Int)}{d:Dv}
theorem need_ok (o:OrdP n ps):F_qn [bS n ps] H=.ok .non H:=by simp[F_qn,xZ,aZ,bU,aR,bE,aT,aD,aB,aA,aC,MY o,cN,aX,bL]
end
end L2.Mr.Cod
namespace L2.Mr.Com
open PySem PySem.Spec PyProof.Rows L2 L2.Mr
section
variable{P:Ev->Hs->Prop}{l l':Nat}{m m':M Dv}
end
section
variable{st n:Nat}{cs:List (Int×Int)}{at_ a b:Int}
variable(o:OrdP n cs)
include o
end
end L2.Mr.Com
namespace L2.Mr.Gen
open PySem PySem.Spec PyProof.Rows L2 L2.Mr L2.Mr.Com
theorem qN {t u:M Bool}{ρ:Ev}{h h1:Hs}(e:t ρ h=.ok true h1):bF t u ρ h=.ok true h1:=by unfold bF;rw[e];rfl
theorem nU {t u:M Bool}{ρ:Ev}{h h1:Hs}(e:t ρ h=.ok false h1):bF t u ρ h=u ρ h1:=by unfold bF;rw[e];rfl
theorem z27 (ds:List Dv) (k:Nat):jK ds (some (k:Int)) none=ds.drop k:=by
 unfold jK;rw[HT.sIx_none,HT.sIx_nat]
 by_cases h:k<=ds.length
 ·rw[Nat.min_eq_left h];exact An (by simp)
 ·rw[Nat.min_eq_right (by omega),sh (ak _),sh (by omega)];simp
section
variable{H:Hs}{xs:List Int}
theorem z28 {S:List Dv->Hs->Rs Dv}{ma mb:M Dv}{v:Dv}{ρ:Ev}{H H1 H2:Hs}(ha:ma ρ H=.ok v H1) (hb:mb ρ H1=.ok v H2) (hs:S [v,v] H2=.ok (.bl true) H2):
  aR (bE (aT (aD S (aB ma (aB mb aC))))) (aL (mC (.bl false))) aX ρ H=.nx ρ H2:=by
 simp[aR,bE,aT,aD,aB,ha,hb,aC,hs,cN,aX]
theorem gU {m:M Dv}{ρ ρ1:Ev}{i:Nat}{H H':Hs}{v:Dv}(e:m ρ H=.ok v H') (hs:aF i v ρ=some ρ1):aK m (aF i) ρ H=.nx ρ1 H':=by simp[aK,e,hs]
theorem dW {f:Dv->Dv->Hs->Rs Dv}{ma mb:M Dv}{ρ:Ev}{H H1 H2 H3:Hs}{x y z:Dv}(ha:ma ρ H=.ok x H1) (hb:mb ρ H1=.ok y H2) (hf:f x y H2=.ok z H3):m2 f ma mb ρ H=.ok z H3:=by unfold m2;rw[ha,Rs.bind_ok,hb,Rs.bind_ok,hf]
end
end L2.Mr.Gen
namespace L2.Mr.K91
open PySem PySem.Spec PyProof.Rows L2 L2.Mr L2.Mr.Com L2.Mr.Gen
open L2.Mr.Cod (dC iR gS)
def S (l:List Nat):Str:=⟨l.toArray⟩
theorem zG (l m:List Nat):S l++S m=S (l++m):=by show(⟨l.toArray++m.toArray⟩:Str)=⟨(l++m).toArray⟩;simp
theorem gC (l:List Nat):(S l).length=l.length:=by show l.toArray.size=_;simp
theorem NJ:oi=S []:=rfl
theorem z29 {k:Int}(h0:0<=k) (h1:k<10):iw (toString k)=S [48+k.toNat]:=by
 have h:∀k:Fin 10,iw (toString ((k.val:Nat):Int))=S [48+k.val]:=by decide +kernel
 have:=h ⟨k.toNat,by omega⟩;have e:((k.toNat:Nat):Int)=k:=by omega
 rw[<-e];exact this
theorem z2a {k:Nat}(h:k<10):vj "0123456789" (S [48+k])=k:=by
 have h':∀k:Fin 10,vj "0123456789" (S [48+k.val])=k.val:=by decide +kernel
 exact h' ⟨k,h⟩
theorem NK (g:List Nat):∀(xs:List (List Nat)) (acc:List Nat),List.foldl (λ(acc:Array Nat) (p:Str)=>acc++(S g).cps++p.cps) acc.toArray (xs.map S)=(acc++xs.flatMap λp=>g++p).toArray
 | [],acc=>by simp
 |x::xs,acc=>by
  have ih:=NK g xs (acc++g++x);rw[cy,List.foldl_cons];have e:acc.toArray++(S g).cps++(S x).cps=(acc++g++x).toArray:=by simp[S]
  rw[e,ih];simp
theorem EU (g x:List Nat) (xs:List (List Nat)):vk (S g) ((x::xs).map S)=S (x++xs.flatMap λp=>g++p):=by have:=NK g xs x;show(⟨_⟩:Str)=⟨_⟩;exact congrArg Str.mk this
def bV (q:Int×Int):List Nat:=[48+q.1.toNat,60,48+q.2.toNat]
def tx (n:Nat) (ps:List (Int×Int)):List Nat:=[48+n,58]++ps.flatMap λq=>32::bV q
theorem NL (ps:List (Int×Int)):(ps.flatMap λq=>32::bV q).length=4*ps.length:=by
 induction ps with
 |nil=>rfl
 |cons q ps ih=>rw[fz,br,ih];simp[bV];omega
theorem uU (n:Nat) (ps:List (Int×Int)):(tx n ps).length=4*ps.length+2:=by unfold tx;rw[br,NL];simp;omega
theorem NM (j:Nat) (hj:j<4):∀(ps:List (Int×Int)) (k:Nat) (hk:k<ps.length),(ps.flatMap λq=>32::bV q)[4*k+j]?=(32::bV ps[k])[j]?
 | [],k,hk=>nomatch hk
 |q::ps,0,hk=>by rw[fz,dk (by simp[bV];omega)];simp
 |q::ps,k+1,hk=>by
  have ih:=NM j hj ps k (by simpa using hk);rw[fz,dy (by simp[bV];omega)];have e:4*(k+1)+j - (32::bV q).length=4*k+j:=by simp[bV];omega
  rw[e,ih];simp
theorem NN {n:Nat}{ps:List (Int×Int)}{k j:Nat}(hj:j<4) (hk:k<ps.length):(tx n ps)[2+4*k+j]?=(32::bV ps[k])[j]?:=by
 unfold tx;rw[dy (by simp;omega),<-NM j hj ps k hk]
 congr 1
 simp;omega
open L2.Mr.Cod (dC iR gS)
theorem EV:(":" : Str)=S [58]:=by decide +kernel
theorem zH:(" " : Str)=S [32]:=by decide +kernel
theorem EW:("<" : Str)=S [60]:=by decide +kernel
theorem z2b:("" : Str)=S []:=by decide +kernel
section
variable{n:Nat}{ps:List (Int×Int)}{H:Hs}{ρ:Ev}
theorem NO {k:Int}(h0:0<=k) (h1:k<10):eI (.int k) H=.ok (.str (S [48+k.toNat])) H:=by
 have h:∀k:Fin 10,(k.val).log2<1920:=by decide +kernel
 have hl:k.natAbs.log2<1920:=by have:=h ⟨k.natAbs,by omega⟩;exact this
 show(if k.natAbs.log2<1920 then _ else _)=_;rw[if_pos hl,z29 h0 h1]
theorem rZ {m:M Dv}{ms:List (M Dv)}{l z:List Nat}(e:m ρ H=.ok (.str (S z)) H) (hl:l.length+z.length<=1000):jM (m::ms) (S l) ρ H=jM ms (S (l++z)) ρ H:=by
 have h2:(S l).length+(S z).length<=1000000:=by rw[gC,gC];omega
 show(m ρ H).bind _=_;rw[e,Rs.bind_ok];show(if(S l).length+(S z).length<=1000000 then _ else _)=_;rw[if_pos h2,zG]
theorem NP {l:List Nat}(hl:l.length<=1000):jM [] (S l) ρ H=.ok (.str (S l)) H:=by
 have h2:(S l).length<=1000000:=by rw[gC];omega
 show lim (S l).length _=_;unfold lim;rw[if_pos h2]
theorem EX {m:M Dv}{k:Int}(e:m ρ H=.ok (.int k) H) (h0:0<=k) (h1:k<10):m1 eI m ρ H=.ok (.str (S [48+k.toNat])) H:=by unfold m1;rw[e,Rs.bind_ok,NO h0 h1]
theorem zI {l m:List Nat}(hl:l.length+m.length<=1000):cH (.str (S l)) (.str (S m)) H=.ok (.str (S (l++m))) H:=by
 have h2:(S l).length+(S m).length<=1000000:=by rw[gC,gC];omega
 show lim ((S l).length+(S m).length) _=_;unfold lim;rw[if_pos h2,zG]
theorem z2c (xs:List (List Nat)):bI pE (xs.map λl=>Dv.str (S l))=some (xs.map S):=by
 induction xs with
 |nil=>rfl
 |cons x xs ih=>simp only[cy,bI,pE,ih]
theorem EY {g:List Nat}{i:Nat}{xs:List (List Nat)}(e:getL H i=some (xs.map λl=>Dv.str (S l))) (hs:(xs.map jm).sum+xs.length*g.length<=16777216):iF (.str (S g)) (.ref i) H=.ok (.str (vk (S g) (xs.map S))) H:=by
 have h2:((xs.map S).map λx=>x.length).sum+(xs.map S).length*(S g).length<=16777216:=by
  have:(xs.map S).map (λx=>x.length)=xs.map jm:=by rw[jl];exact Bu λx _=>gC x
  rw[this,bh,gC];exact hs
 simp only[iF,e,z2c,h2,if_true]
theorem z2d (xs:List (List Nat)):vk (S []) (xs.map S)=S xs.flatten:=by
 cases xs with
 |nil=>rfl
 |cons x xs=>rw[EU];simp[List.flatMap,List.flatten_cons]
theorem sC {f:Dv->Dv->Hs->Rs Dv}{mo me:M Dv}{z:Str}{y v:Dv}{H1 H2 H3:Hs}(e1:mo ρ H=.ok (.str z) H1) (e2:me ρ H1=.ok y H2) (e3:f (.str z) y H2=.ok v H3):cI f mo me ρ H=.ok v H3:=by unfold cI;rw[e1,Rs.bind_ok];show(me ρ H1).bind _=_;rw[e2,Rs.bind_ok,e3]
theorem EZ (c:Nat):∀(xs:List (List Nat)),(∀x∈xs,x.length<=c)->(xs.map jm).sum<=xs.length*c
 | [],_=>by simp
 |x::xs,h=>by have:=EZ c xs λy hy=>h y (aq _ hy);have hx:=h x (ax ..);rw[cy,List.sum_cons,cp,Nat.add_mul];omega
def E1:M Dv:=jM [(m1 eI (aA 1)),(mC (.str ":"))] oi
def uV:M (List Dv):=cD (bQ eF (aA 2)) [none,none] (cM 2 (bG (aF 0) (bG (aF 1) cO))) dJ (bX (jM [(mC (.str " ")),(m1 eI (aA 0)),(mC (.str "<")),(m1 eI (aA 1))] oi))
theorem z2e:DF=aJ (fU (aD F_qn (aB (aA 0) aC))) (aJ (aK (aA 0) (cM 2 (bG (aF 1) (bG (aF 2) cO)))) (aL (m2 cH E1 (cI iF (mC (.str "")) (dG uV))))):=rfl
theorem z2f (h1:aA 1 ρ=λH=>.ok (.int n) H) (hn:n<=6):E1 ρ H=.ok (.str (S [48+n,58])) H:=by
 have e1:=EX (ρ:=ρ) (H:=H) (m:=aA 1) (k:=(n:Int)) (by rw[h1]) (by omega) (by omega);have e2:mC (.str ":") ρ H=.ok (.str (S [58])) H:=by rw[EV];rfl
 unfold E1;rw[NJ,rZ e1 (by simp),rZ e2 (by simp),NP (by simp)];simp
theorem z2g {q:Int×Int}(r:0<=q.1/\q.1<n/\0<=q.2/\q.2<n) (hn:n<=6):jM [(mC (.str " ")),(m1 eI (aA 0)),(mC (.str "<")),(m1 eI (aA 1))] oi [some (.int q.1),some (.int q.2)] H=.ok (.str (S (32::bV q))) H:=by
 have e0:mC (.str " ") [some (.int q.1),some (.int q.2)] H=.ok (.str (S [32])) H:=by rw[zH];rfl
 have e1:=EX (ρ:=[some (.int q.1),some (.int q.2)]) (H:=H) (m:=aA 0) (k:=q.1) rfl (by omega) (by omega);have e2:mC (.str "<") [some (.int q.1),some (.int q.2)] H=.ok (.str (S [60])) H:=by rw[EW];rfl
 have e3:=EX (ρ:=[some (.int q.1),some (.int q.2)]) (H:=H) (m:=aA 1) (k:=q.2) rfl (by omega) (by omega);rw[NJ,rZ e0 (by simp),rZ e1 (by simp),rZ e2 (by simp),rZ e3 (by simp),NP (by simp)];simp[bV]
theorem z2h (o:OrdP n ps) {x0 x1:Option Dv}:uV [x0,x1,some (.tup (ps.map aG))] H=.ok ((ps.map λq=>32::bV q).map λl=>Dv.str (S l)) H:=by have w:uV [x0,x1,some (.tup (ps.map aG))] H=.ok (ps.filterMap λq=>some (Dv.str (S (32::bV q)))) H:=iP ps _ (λρ=>∃a b,ρ=[a,b]) (src:=cQ (ps.map aG)) rfl (by simp[cQ]) ⟨_,_,rfl⟩ rfl (λk hk ρ ⟨a,b,e⟩=>by subst e;exact⟨aG ps[k],[some (.int ps[k].1),some (.int ps[k].2)],by simp[cQ,hk],rfl,⟨_,_,rfl⟩,rfl,z2g (o.rng _ (dj hk)) o.n6⟩) (by have:=o.len;omega);rw[w];simp[mw]
end
def rq (a b c:Nat):List Dv:=[.bl (a==c),.bl (a+1==c),.bl (a+2==c)].take b
def rs1:M (List Dv):=(aB (m1 (aU (eG none tbl0)) (aA 1)) (aB (m1 (aU (eG none tbl1)) (aA 1)) (aB (m1 (aU (eG none tbl2)) (aA 1)) aC)))
def rs2:M (List Dv):=(aB (m1 (aU (eG none tbl3)) (aA 1)) (aB (m1 (aU (eG none tbl4)) (aA 1)) (aB (m1 (aU (eG none tbl5)) (aA 1)) aC)))
def rs3:M (List Dv):=(aB (m1 (aU (eG none tbl6)) (aA 1)) (aB (m1 (aU (eG none tbl7)) (aA 1)) (aB (m1 (aU (eG none tbl8)) (aA 1)) aC)))
def pI:M (List Dv):=(aB (m1 (aU (eG none tbl9)) (aA 1)) (aB (m1 (aU (eG none tbl10)) (aA 1)) aC))
def zJ:M (List Dv):=cD (aS fK (aB (mC (.int 11)) aC)) [none,some 3] (aF 0) (aT (m2 aN (aA 1) (aA 0))) (bX (aA 0))
def NQ:MS:=aR (bE (aT (m1 (aU (eG none tblV)) (aA 1)))) (aL (mC .non)) aX
theorem z2i:kD=aJ (aK (aV rs1) (aF 3)) (aJ (aK (m2 bD (aA 3) (aV rs2)) (aF 3)) (aJ (aK (m2 bD (aA 3) (aV rs3)) (aF 3)) (aJ (aK (m2 bD (aA 3) (aV pI)) (aF 3)) (aJ NQ (aL (dG zJ)))))):=rfl
section
variable{c:Nat}(hc:c=0∨c=8) {H:Hs}{x0 x2 x3:Option Dv}
include hc
theorem z2j:aV rs1 [x0,some (.exc c),x2,x3] H=.ok (.ref H.length) (H++[.lst (rq 0 3 c)]):=by rcases hc with rfl|rfl <;> rfl
theorem z2k:aV rs2 [x0,some (.exc c),x2,x3] H=.ok (.ref H.length) (H++[.lst (rq 3 3 c)]):=by rcases hc with rfl|rfl <;> rfl
theorem z2l:aV rs3 [x0,some (.exc c),x2,x3] H=.ok (.ref H.length) (H++[.lst (rq 6 3 c)]):=by rcases hc with rfl|rfl <;> rfl
theorem z2m:aV pI [x0,some (.exc c),x2,x3] H=.ok (.ref H.length) (H++[.lst (rq 9 2 c)]):=by rcases hc with rfl|rfl <;> rfl
theorem z2n:NQ [x0,some (.exc c),x2,x3] H=.nx [x0,some (.exc c),x2,x3] H:=by rcases hc with rfl|rfl <;> rfl
theorem z2o {i:Nat}(e:getL H i=some ((bo 11).map λk=>Dv.bl (k==c))):zJ [x0,some (.exc c),x2,some (.ref i)] H=.ok [.int c] H:=by
 have h:zJ [x0,some (.exc c),x2,some (.ref i)] H=.ok ((bo 11).filterMap λk=>if k==c then some (.int k)else none) H:=
  iP (bo 11) (λk=>if k==c then some (.int (k:Nat))else none) (λρ=>∃a,ρ=[a,some (.ref i)]) (src:=eX 0 11) rfl rfl ⟨_,rfl⟩ rfl (λk hk ρ ⟨a,e'⟩=>by
   subst e';have hk':k<11:=by simpa using hk
   refine⟨.int (0+k),[some (.int (0+k)),some (.ref i)],rfl,rfl,⟨_,rfl⟩, ?_⟩;have ht:=gS (H:=H) (j:=k) e (by simpa using hk');rw[List.getElem_map,uk]at ht;have h0:(0+(k:Int))=(k:Int):=by omega
   rw[h0,uk]
   cases q:k==c with
   |true=>simp[aT,m2,aA,ht,q,cN]
   |false=>simp[aT,m2,aA,ht,q,cN]) (by simp)
 rw[h]
 rcases hc with rfl|rfl <;> rfl
theorem z2p:∃i H',tS 4 11 kD (.ex c H)=.ok (.ref i) H'/\getL H' i=some [.int c]/\Fr [] H H':=by
 obtain⟨H1,hH1⟩:∃H1,H1=H++[Ob.lst (rq 0 3 c)]:=⟨_,rfl⟩
 have g1:getL H1 H.length=some (rq 0 3 c):=by rw[hH1];exact dC
 have f1:Fr [] H H1:=by rw[hH1];exact Fr.app
 have w1:∀x0 x2 x3,aK (aV rs1) (aF 3) [x0,some (.exc c),x2,x3] H=.nx [x0,some (.exc c),x2,some (.ref H.length)] H1:=λx0 x2 x3=>by unfold aK;rw[z2j hc,hH1];rfl
 have step:∀(G0:Hs) (i:Nat) (xs ys:List Dv) (m:M (List Dv)),getL G0 i=some xs->(∀x0 x2 x3 (G:Hs),aV m [x0,some (.exc c),x2,x3] G=.ok (.ref G.length) (G++[.lst ys]))->xs.length+ys.length<=500->
   ∃G' j,(∀x0 x2,aK (m2 bD (aA 3) (aV m)) (aF 3) [x0,some (.exc c),x2,some (.ref i)] G0=.nx [x0,some (.exc c),x2,some (.ref j)] G')/\getL G' j=some (xs++ys)/\Fr [] G0 G':=by
  intro G0 i xs ys m e hm hl;refine⟨_,_,λx0 x2=>?_,dC (H:=G0++[.lst ys]) (x:=xs++ys),Fr.trans (T:=[]) Fr.app Fr.app (by simp)⟩;have a:=iR (H:=G0++[.lst ys]) (kY e) (dC (H:=G0) (x:=ys)) hl;unfold aK;rw[z26 rfl (hm _ _ _ _) a];rfl
 obtain⟨H2,i2,w2,g2,f2⟩:=step H1 H.length (rq 0 3 c) (rq 3 3 c) rs2 g1 (λ_ _ _ _=>z2k hc) (by simp[rq]);obtain⟨H3,i3,w3,g3,f3⟩:=step H2 i2 _ (rq 6 3 c) rs3 g2 (λ_ _ _ _=>z2l hc) (by simp[rq]);obtain⟨H4,i4,w4,g4,f4⟩:=step H3 i3 _ (rq 9 2 c) pI g3 (λ_ _ _ _=>z2m hc) (by simp[rq]);have g5':getL H4 i4=some ((bo 11).map λk=>Dv.bl (k==c)):=by rw[g4];rfl
 refine⟨H4.length,H4++[.lst [.int c]], ?_,dC,((f1.trans f2 (by simp)).trans f3 (by simp)).trans (T:=[]) (f4.trans (T:=[]) Fr.app (by simp)) (by simp)⟩;have hlt:c<11:=by omega
 show(if c<11 then tR (kD (oS 4 (.exc c)) H)else .bad)=_;rw[if_pos hlt,z2i];show tR (aJ _ _ [none,some (.exc c),none,none] H)=_;rw[aY (w1 _ _ _),aY (w2 _ _),aY (w3 _ _),aY (w4 _ _),aY (z2n hc)];have hr:dG zJ [none,some (.exc c),none,some (.ref i4)] H4=.ok (.ref H4.length) (H4++[.lst [.int c]]):=by unfold dG;rw[z2o hc g5'];rfl
 unfold aL;rw[hr];rfl
theorem NR {caps:List Nat}{vs:List Dv}{me:M Dv}{ρ:Ev}{H0:Hs}(hρ:qA caps ρ=some vs) (hm:me (vs.map some) H0=.ex c H) (f0:Fr [] H0 H):
  ∃H',mB (m2 bC (lR caps 4 11 kD me) (aV (aB (mC (.int c)) aC))) ρ H0=.ok false H'/\Fr [] H0 H':=by
 obtain⟨i,H1,e1,g1,f1⟩:=z2p hc (H:=H);refine⟨H1++[.lst [.int c]], ?_,f0.trans (f1.trans (T:=[]) Fr.app (by simp)) (by simp)⟩;have a:lR caps 4 11 kD me ρ H0=.ok (.ref i) H1:=by unfold lR;rw[hρ];show tS 4 11 kD (me (vs.map some) H0)=_;rw[hm,e1]
 have b:aV (aB (mC (.int c)) aC) ρ H1=.ok (.ref H1.length) (H1++[.lst [.int c]]):=rfl;have d:bC (.ref i) (.ref H1.length) (H1++[.lst [.int c]])=.ok (.bl false) (H1++[.lst [.int c]]):=by have q1:=kY (l:=[.lst [.int c]]) g1;have q2:=dC (H:=H1) (x:=[.int c]);simp[bC,bR,bM,q1,q2,bI,bH,hY]
 unfold mB m2;rw[a,Rs.bind_ok,b,Rs.bind_ok,d];rfl
end
open L2.Mr.Cod (dC iR gS)
theorem need_ok {n:Nat}{ps:List (Int×Int)}{H:Hs}(o:OrdP n ps):F_qn [bS n ps] H=.ok .non H:=Cod.need_ok o
section
variable{n:Nat}{ps:List (Int×Int)}{H:Hs}{ρ:Ev}
theorem z2q {F:List Dv->Hs->Rs Dv}{a v:Dv}(ha:aA 0 ρ=λH=>.ok a H) (e:F [a] H=.ok v H):fU (aD F (aB (aA 0) aC)) ρ H=.nx ρ H:=by simp[fU,aD,aB,ha,aC,e]
theorem NS (o:OrdP n ps) (f:Int×Int->List Nat) (hf:∀q,(f q).length<=4):((ps.map f).map jm).sum<=144:=by
 have h:=EZ 4 (ps.map f) λx hx=>by obtain⟨q,_,rfl⟩:=cb.mp hx;exact hf q
 have:=o.len;rw[bh]at h;omega
theorem z2r (o:OrdP n ps) {x0 x1:Option Dv}:∃H',cI iF (mC (.str "")) (dG uV) [x0,x1,some (.tup (ps.map aG))] H=.ok (.str (S (ps.flatMap λq=>32::bV q))) H'/\Fr [] H H':=by
 have e:=z2h (H:=H) (x0:=x0) (x1:=x1) o;have ea:dG uV [x0,x1,some (.tup (ps.map aG))] H=.ok (.ref H.length) (H++[.lst ((ps.map λq=>32::bV q).map λl=>Dv.str (S l))]):=by unfold dG;rw[e];rfl
 have g:getL (H++[Ob.lst ((ps.map λq=>32::bV q).map λl=>Dv.str (S l))]) H.length=some ((ps.map λq=>32::bV q).map λl=>Dv.str (S l)):=dC;have f:Fr [] H (H++[Ob.lst ((ps.map λq=>32::bV q).map λl=>Dv.str (S l))]):=Fr.app;generalize H++[Ob.lst ((ps.map λq=>32::bV q).map λl=>Dv.str (S l))]=H1 at ea g f;have e0:mC (.str "") [x0,x1,some (.tup (ps.map aG))] H=.ok (.str (S [])) H:=by rw[z2b];rfl
 have hs:=NS o (λq=>32::bV q) (λq=>by simp[bV]);have ej:=EY (g:=[]) g (by rw[je,Nat.mul_zero];omega);rw[z2d]at ej;refine⟨H1, ?_,f⟩;have:=sC e0 ea ej;rw[this];rfl
theorem NT (o:OrdP n ps):∃H',F_qo [bS n ps] H=.ok (.str (S (tx n ps))) H'/\Fr [] H H':=by
 have w1:fU (aD F_qn (aB (aA 0) aC)) [some (bS n ps),none,none] H=.nx [some (bS n ps),none,none] H:=z2q rfl (need_ok o);have w2:aK (aA 0) (cM 2 (bG (aF 1) (bG (aF 2) cO))) [some (bS n ps),none,none] H=.nx [some (bS n ps),some (.int n),some (.tup (ps.map aG))] H:=rfl;have e1:=z2f (H:=H) (n:=n) (ρ:=[some (bS n ps),some (.int n),some (.tup (ps.map aG))]) rfl o.n6;obtain⟨H',e2,f⟩:=z2r (H:=H) (x0:=some (bS n ps)) (x1:=some (.int n)) o;have hl:(ps.flatMap λq=>32::bV q).length<=144:=by rw[NL];have:=o.len;omega
 have e3:=dW e1 e2 (zI (H:=H') (by simp only[cp,je];omega));refine⟨H', ?_,f⟩;show bL (DF [some (bS n ps),none,none] H)=_;rw[z2e,aY w1,aY w2];unfold aL;rw[e3];rfl
def zK:M (List Dv):=cD (bQ eF (m2 aN (aA 3) (mC (.int 1)))) [none,none] (cM 2 (bG (aF 0) (bG (aF 1) cO))) dJ (bX (m2 cH (m2 cH (aD (f1 eI) (aB (aA 0) aC)) (mC (.str "<"))) (aD (f1 eI) (aB (aA 1) aC))))
def E2:M Dv:=cI iF (mC (.str " ")) (m2 bD (aV (aB (m2 cH (aD (f1 eI) (aB (m2 aN (aA 3) (mC (.int 0))) aC)) (mC (.str ":"))) aC)) (dG zK))
theorem E3 {m:M Dv}{k:Int}(e:m ρ H=.ok (.int k) H) (h0:0<=k) (h1:k<10):aD (f1 eI) (aB m aC) ρ H=.ok (.str (S [48+k.toNat])) H:=by have:=NO (H:=H) h0 h1;simp[aD,aB,e,aC,f1,this]
theorem z2s {q:Int×Int}(r:0<=q.1/\q.1<n/\0<=q.2/\q.2<n) (hn:n<=6):m2 cH (m2 cH (aD (f1 eI) (aB (aA 0) aC)) (mC (.str "<"))) (aD (f1 eI) (aB (aA 1) aC)) [some (.int q.1),some (.int q.2)] H=.ok (.str (S (bV q))) H:=by
 have e1:=E3 (ρ:=[some (.int q.1),some (.int q.2)]) (H:=H) (m:=aA 0) (k:=q.1) rfl (by omega) (by omega);have e2:mC (.str "<") [some (.int q.1),some (.int q.2)] H=.ok (.str (S [60])) H:=by rw[EW];rfl
 have e3:=E3 (ρ:=[some (.int q.1),some (.int q.2)]) (H:=H) (m:=aA 1) (k:=q.2) rfl (by omega) (by omega);exact dW (dW e1 e2 (zI (by simp))) e3 (zI (by simp))
theorem z2t (o:OrdP n ps) (h3:aA 3 ρ=λH=>.ok (bS n ps) H):zK ρ H=.ok ((ps.map bV).map λl=>Dv.str (S l)) H:=by
 have hs:bQ eF (m2 aN (aA 3) (mC (.int 1))) ρ H=.ok (cQ (ps.map aG)) H:=by
  have:m2 aN (aA 3) (mC (.int 1)) ρ H=.ok (.tup (ps.map aG)) H:=by unfold m2;rw[h3];rfl
  unfold bQ;rw[this];rfl
 have w:zK ρ H=.ok (ps.filterMap λq=>some (Dv.str (S (bV q)))) H:=iP ps _ (λρ=>∃a b,ρ=[a,b]) (src:=cQ (ps.map aG)) hs (by simp[cQ]) ⟨_,_,rfl⟩ rfl (λk hk ρ ⟨a,b,e⟩=>by subst e;exact⟨aG ps[k],[some (.int ps[k].1),some (.int ps[k].2)],by simp[cQ,hk],rfl,⟨_,_,rfl⟩,rfl,z2s (o.rng _ (dj hk)) o.n6⟩) (by have:=o.len;omega);rw[w];simp[mw]
theorem z2u (o:OrdP n ps) (h3:aA 3 ρ=λH=>.ok (bS n ps) H):∃H',E2 ρ H=.ok (.str (S (tx n ps))) H'/\Fr [] H H':=by
 have n6:=o.n6;have e0:mC (.str " ") ρ H=.ok (.str (S [32])) H:=by rw[zH];rfl
 have e1:m2 cH (aD (f1 eI) (aB (m2 aN (aA 3) (mC (.int 0))) aC)) (mC (.str ":")) ρ H=.ok (.str (S [48+n,58])) H:=by
  have a:m2 aN (aA 3) (mC (.int 0)) ρ H=.ok (.int n) H:=by unfold m2;rw[h3];rfl
  have b:=E3 a (by omega) (by omega);have c:mC (.str ":") ρ H=.ok (.str (S [58])) H:=by rw[EV];rfl
  have:=dW b c (zI (by simp));rw[this];simp
 have e2:aV (aB (m2 cH (aD (f1 eI) (aB (m2 aN (aA 3) (mC (.int 0))) aC)) (mC (.str ":"))) aC) ρ H=.ok (.ref H.length) (H++[.lst ([[48+n,58]].map λl=>Dv.str (S l))]):=by generalize m2 cH (aD (f1 eI) (aB (m2 aN (aA 3) (mC (.int 0))) aC)) (mC (.str ":"))=M at e1;simp[aV,aB,e1,aC,lim]
 have g2:getL (H++[Ob.lst ([[48+n,58]].map λl=>Dv.str (S l))]) H.length=some ([[48+n,58]].map λl=>Dv.str (S l)):=dC;have f2:Fr [] H (H++[Ob.lst ([[48+n,58]].map λl=>Dv.str (S l))]):=Fr.app;generalize H++[Ob.lst ([[48+n,58]].map λl=>Dv.str (S l))]=H2 at e2 g2 f2;have e3:=z2t (H:=H2) o h3;have ea:dG zK ρ H2=.ok (.ref H2.length) (H2++[.lst ((ps.map bV).map λl=>Dv.str (S l))]):=by unfold dG;rw[e3];rfl
 have g3:getL (H2++[Ob.lst ((ps.map bV).map λl=>Dv.str (S l))]) H2.length=some ((ps.map bV).map λl=>Dv.str (S l)):=dC;have f3:Fr [] H2 (H2++[Ob.lst ((ps.map bV).map λl=>Dv.str (S l))]):=Fr.app;generalize H2++[Ob.lst ((ps.map bV).map λl=>Dv.str (S l))]=H3 at ea g3 f3;have a:=iR (H:=H3) (f3.getL g2 (by simp)) g3 (by simp;have:=o.len;omega);rw[<-jg]at a;have e4:=dW e2 ea a;have g4:getL (H3++[Ob.lst (([[48+n,58]]++ps.map bV).map λl=>Dv.str (S l))]) H3.length=some (([[48+n,58]]++ps.map bV).map λl=>Dv.str (S l)):=dC;have hs:=NS o bV (λq=>by simp[bV]);have ej:=EY (g:=[32]) g4 (by have:=o.len;rw[jg,List.sum_append,br,bh];simp;simp at hs;omega);have hj:vk (S [32]) (([[48+n,58]]++ps.map bV).map S)=S (tx n ps):=by rw[List.singleton_append,EU];unfold tx;rw[List.flatMap_map];rfl
 rw[hj]at ej;exact⟨_,sC e0 e4 ej,(f2.trans f3 (by simp)).trans (T:=[]) Fr.app (by simp)⟩
end
open L2.Mr.Cod (dC iR gS)
section
variable{n:Nat}{ps:List (Int×Int)}{H:Hs}{ρ:Ev}{l:List Nat}
theorem zL {i c:Nat}(h:l[i]?=some c) (hl:l.length<=1000):bT (.str (S l)) (.int (i:Int)) H=.ok (.str (S [c])) H:=by
 obtain⟨hi,he⟩:=ba.mp h;have e0:(S l).cps.toList=l:=by simp[S]
 have h1:fI l.length (i:Int)=some i:=by unfold fI;rw[if_pos (by omega),if_pos (by omega)];simp
 have h2:fS (S l).cps.toList (i:Int)=some c:=by rw[e0];unfold fS;rw[h1];exact h
 have h3:(S l).length<=1000000:=by rw[gC];omega
 simp only[bT,h2,lim,h3,if_true];rfl
theorem zM (h0:aA 0 ρ=λH=>.ok (.str (S l)) H) (hl:l.length<=1000):aD (f1 fF) (aB (aA 0) aC) ρ H=.ok (.int l.length) H:=by
 have h3:l.length<=1000000:=by omega
 have e:fF (.str (S l)) H=.ok (.int l.length) H:=by simp only[fF,lim,gC,h3,if_true]
 simp[aD,aB,h0,aC,f1,e]
theorem E4 {mi:M Dv}{mt:Nat}{i k:Nat}(h1:aA mt ρ=λH=>.ok (.str (S l)) H) (e:mi ρ H=.ok (.int (i:Int)) H) (hl:l.length<=1000) (ha:l[i]?=some (48+k)) (hk:k<10):cI iE (mC (.str "0123456789")) (m2 bT (aA mt) mi) ρ H=.ok (.int k) H:=by
 have e2:m2 bT (aA mt) mi ρ H=.ok (.str (S [48+k])) H:=dW (by rw[h1]) e (zL ha hl);have e3:iE (.str "0123456789") (.str (S [48+k])) H=.ok (.int k) H:=by show Rs.ok (Dv.int (vj _ _)) H=_;rw[z2a hk]
 exact sC rfl e2 e3
def uW:M (List Dv):=cD (aS rD (aB (mC (.int 2)) (aB (aD (f1 fF) (aB (aA 0) aC)) (aB (mC (.int 4)) aC)))) [none,some 0] (aF 0) dJ (bX (cC (aB (cI iE (mC (.str "0123456789")) (m2 bT (aA 1) (m2 bD (aA 0) (mC (.int 1))))) (aB (cI iE (mC (.str "0123456789")) (m2 bT (aA 1) (m2 bD (aA 0) (mC (.int 3))))) aC))))
theorem NU:yA=aL (mL tO uW):=rfl
theorem NV {m:M Dv}{L:Int}(e:m ρ H=.ok (.int L) H) (h0:0<=L) (h1:L<=1000):aS rD (aB (mC (.int 2)) (aB m (aB (mC (.int 4)) aC))) ρ H=.ok (wW 2 L 4) H:=by
 have hi:kS L=true:=by unfold kS;simp;omega
 have h2:kS 2=true:=by decide
 have h4:kS 4=true:=by decide
 simp[aS,aB,mC,e,aC,rD,hi,h2,h4]
theorem z2v (o:OrdP n ps):uW [some (.str (S (tx n ps)))] H=.ok (ps.map aG) H:=by
 have n6:=o.n6;have hlen:=o.len;have hl:(tx n ps).length<=1000:=by rw[uU];omega
 have e0:=zM (H:=H) (ρ:=[some (.str (S (tx n ps)))]) rfl hl;have hs:=NV e0 (by omega) (by omega);have hn:(wW 2 ((tx n ps).length:Int) 4).n=ps.length:=by
  show lS _ _ _=_;unfold lS;rw[uU]
  split <;> omega
 have w:uW [some (.str (S (tx n ps)))] H=.ok (ps.filterMap λq=>some (aG q)) H:=
  iP ps _ (λρ=>∃a,ρ=[a,some (.str (S (tx n ps)))]) hs hn ⟨_,rfl⟩ rfl (λk hk ρ ⟨a,e⟩=>by
   subst e;have r:=o.rng _ (dj hk);refine⟨.int (2+k*4),[some (.int (2+(k:Int)*4)),some (.str (S (tx n ps)))],rfl,rfl,⟨_,rfl⟩,rfl, ?_⟩;have a1:m2 bD (aA 0) (mC (.int 1)) [some (.int (2+(k:Int)*4)),some (.str (S (tx n ps)))] H=.ok (.int ((2+4*k+1:Nat):Int)) H:=by
    have:((2+4*k+1:Nat):Int)=2+(k:Int)*4+1:=by omega
    rw[this];rfl
   have a3:m2 bD (aA 0) (mC (.int 3)) [some (.int (2+(k:Int)*4)),some (.str (S (tx n ps)))] H=.ok (.int ((2+4*k+3:Nat):Int)) H:=by
    have:((2+4*k+3:Nat):Int)=2+(k:Int)*4+3:=by omega
    rw[this];rfl
   have b1:=E4 (mt:=1) (k:=ps[k].1.toNat) rfl a1 hl (by rw[NN (by omega) hk];rfl) (by omega);have b3:=E4 (mt:=1) (k:=ps[k].2.toNat) rfl a3 hl (by rw[NN (by omega) hk];rfl) (by omega);have c1:((ps[k].1.toNat:Nat):Int)=ps[k].1:=by omega
   have c2:((ps[k].2.toNat:Nat):Int)=ps[k].2:=by omega
   rw[c1]at b1;rw[c2]at b3;generalize cI iE (mC (.str "0123456789")) (m2 bT (aA 1) (m2 bD (aA 0) (mC (.int 1))))=M1 at b1;generalize cI iE (mC (.str "0123456789")) (m2 bT (aA 1) (m2 bD (aA 0) (mC (.int 3))))=M3 at b3;simp[cC,aB,b1,b3,aC,lim,aG]) (by omega)
 rw[w];simp[mw]
theorem z2w (o:OrdP n ps):F_qd [.str (S (tx n ps))] H=.ok (.tup (ps.map aG)) H:=by
 have e:=z2v (H:=H) o;have hl:(ps.map aG).length<=1000000:=by rw[bh];have:=o.len;omega
 show bL (yA [some (.str (S (tx n ps)))] H)=_;rw[NU];unfold aL mL;rw[e];simp[tO,lim,hl,bL]
def lJ:M Bool:=bF (bE (aT (m1 (aU lT) (aA 0)))) (mB (m2 bC (m2 iC (aD (f1 fF) (aB (aA 0) aC)) (mC (.int 4))) (mC (.int 2))))
def qO:M Dv:=cC (aB (cI iE (mC (.str "0123456789")) (m2 bT (aA 0) (mC (.int 0)))) (aB (aD F_qd (aB (aA 0) aC)) aC))
def pJ:M Bool:=bF (bE (aT (aD F_qw (aB (aA 1) aC)))) (mB (m2 bC (aD F_qo (aB (aA 1) aC)) (aA 0)))
theorem zN:rN=aJ (aR lJ (jG 8 (aB (mC (.str "this is no text of an order")) aC)) aX) (aJ (aK qO (aF 1)) (aJ (aR pJ (jG 8 (aB (mC (.str "this text writes no order")) aC)) aX) (aL (aA 1)))):=rfl
theorem nV {F:List Dv->Hs->Rs Dv}{a v:Dv}{x:Nat}{H':Hs}(ha:aA x ρ=λH=>.ok a H) (e:F [a] H=.ok v H'):aD F (aB (aA x) aC) ρ H=.ok v H':=by simp[aD,aB,ha,aC,e]
theorem z2x (o:OrdP n ps):∃H',F_qp [.str (S (tx n ps))] H=.ok (bS n ps) H'/\Fr [] H H':=by
 have n6:=o.n6;have hlen:=o.len;have hl:(tx n ps).length<=1000:=by rw[uU];omega
 have e0:=zM (H:=H) (ρ:=[some (.str (S (tx n ps))),none]) rfl hl;have t1:lJ [some (.str (S (tx n ps))),none] H=.ok false H:=by
  have a:bE (aT (m1 (aU lT) (aA 0))) [some (.str (S (tx n ps))),none] H=.ok false H:=rfl;unfold lJ;rw[nU a];have b:iC (.int ((tx n ps).length:Int)) (.int 4) H=.ok (.int 2) H:=by
   have:((tx n ps).length:Int) % 4=2:=by rw[uU];omega
   have h4:decide ((0:Int)<4)=true:=by decide
   simp only[iC,jV,oG,h4,if_true,this]
  have c:=dW (mb:=mC (.int 4)) (H2:=H) (y:=.int 4) e0 rfl b;have d:=dW (f:=bC) (mb:=mC (.int 2)) (H2:=H) (y:=.int 2) c rfl (show bC (.int 2) (.int 2) H=.ok (.bl false) H from rfl);unfold mB;rw[d];rfl
 have w1:aR lJ (jG 8 (aB (mC (.str "this is no text of an order")) aC)) aX [some (.str (S (tx n ps))),none] H=.nx [some (.str (S (tx n ps))),none] H:=(kZ t1).trans rfl;have b0:=E4 (H:=H) (l:=tx n ps) (ρ:=[some (.str (S (tx n ps))),none]) (mt:=0) (mi:=mC (.int 0)) (i:=0) (k:=n) rfl rfl hl rfl (by omega);have e1:qO [some (.str (S (tx n ps))),none] H=.ok (bS n ps) H:=by have c:=nV (F:=F_qd) (x:=0) (ρ:=[some (.str (S (tx n ps))),none]) rfl (z2w (H:=H) o);unfold qO;generalize cI iE (mC (.str "0123456789")) (m2 bT (aA 0) (mC (.int 0)))=M1 at b0;generalize aD F_qd (aB (aA 0) aC)=M2 at c;simp[cC,aB,b0,c,aC,lim,bS]
 have w2:aK qO (aF 1) [some (.str (S (tx n ps))),none] H=.nx [some (.str (S (tx n ps))),some (bS n ps)] H:=gU e1 rfl;obtain⟨H2,e2,f2⟩:=NT (H:=H) o;have t2:pJ [some (.str (S (tx n ps))),some (bS n ps)] H=.ok false H2:=by
  have a:bE (aT (aD F_qw (aB (aA 1) aC))) [some (.str (S (tx n ps))),some (bS n ps)] H=.ok false H:=by have:=nV (F:=F_qw) (x:=1) (ρ:=[some (.str (S (tx n ps))),some (bS n ps)]) rfl (MY (H:=H) o);generalize aD F_qw (aB (aA 1) aC)=M at this;simp[bE,aT,this,cN]
  unfold pJ;rw[nU a];have b:=nV (F:=F_qo) (x:=1) (ρ:=[some (.str (S (tx n ps))),some (bS n ps)]) rfl e2;have d:=dW (f:=bC) (mb:=aA 0) (H2:=H2) (y:=.str (S (tx n ps))) b rfl (show bC (.str (S (tx n ps))) (.str (S (tx n ps))) H2=.ok (.bl false) H2 by simp[bC,bR,bM,bH]);unfold mB;rw[d];rfl
 have w3:aR pJ (jG 8 (aB (mC (.str "this text writes no order")) aC)) aX [some (.str (S (tx n ps))),some (bS n ps)] H=.nx [some (.str (S (tx n ps))),some (bS n ps)] H2:=(kZ t2).trans rfl;refine⟨H2, ?_,f2⟩;show bL (rN [some (.str (S (tx n ps))),none] H)=_;rw[zN,aY w1,aY w2,aY w3];rfl
end
open L2.Mr.Cod (dC iR gS)
section
variable{H:Hs}{ρ:Ev}{l:List Nat}
def fg (c:Nat):Int:=vj "0123456789" (S [c])
theorem E5 {mi:M Dv}{mt i:Nat}(h1:aA mt ρ=λH=>.ok (.str (S l)) H) (e:mi ρ H=.ok (.int (i:Int)) H) (hl:l.length<=1000) (hi:i<l.length):cI iE (mC (.str "0123456789")) (m2 bT (aA mt) mi) ρ H=.ok (.int (fg l[i])) H:=by have e2:m2 bT (aA mt) mi ρ H=.ok (.str (S [l[i]])) H:=dW (by rw[h1]) e (zL (bc hi) hl);exact sC rfl e2 rfl
def wq (l:List Nat) (m:Nat):List (Int×Int):=(bo m).map λk=>(fg (l.getD (2+4*k+1) 0),fg (l.getD (2+4*k+3) 0))
theorem z2y {m:Nat}(hl:l.length=4*m+2) (hm:m<=100):uW [some (.str (S l))] H=.ok ((wq l m).map aG) H:=by
 have hl':l.length<=1000:=by omega
 have e0:=zM (H:=H) (l:=l) (ρ:=[some (.str (S l))]) rfl hl';have hs:=NV e0 (by omega) (by omega);have hn:(wW 2 (l.length:Int) 4).n=(bo m).length:=by
  show lS _ _ _=_;unfold lS;rw[hl,jv]
  split <;> omega
 have w:uW [some (.str (S l))] H=.ok ((bo m).filterMap λk=>some (aG (fg (l.getD (2+4*k+1) 0),fg (l.getD (2+4*k+3) 0)))) H:=
  iP (bo m) _ (λρ=>∃a,ρ=[a,some (.str (S l))]) hs hn ⟨_,rfl⟩ rfl (λk hk ρ ⟨a,e⟩=>by
   subst e;have hk':k<m:=by simpa using hk
   rw[uk];refine⟨.int (2+k*4),[some (.int (2+(k:Int)*4)),some (.str (S l))],rfl,rfl,⟨_,rfl⟩,rfl, ?_⟩;have a1:m2 bD (aA 0) (mC (.int 1)) [some (.int (2+(k:Int)*4)),some (.str (S l))] H=.ok (.int ((2+4*k+1:Nat):Int)) H:=by
    have:((2+4*k+1:Nat):Int)=2+(k:Int)*4+1:=by omega
    rw[this];rfl
   have a3:m2 bD (aA 0) (mC (.int 3)) [some (.int (2+(k:Int)*4)),some (.str (S l))] H=.ok (.int ((2+4*k+3:Nat):Int)) H:=by
    have:((2+4*k+3:Nat):Int)=2+(k:Int)*4+3:=by omega
    rw[this];rfl
   have i1:2+4*k+1<l.length:=by omega
   have i3:2+4*k+3<l.length:=by omega
   have b1:=E5 (mt:=1) rfl a1 hl' i1;have b3:=E5 (mt:=1) rfl a3 hl' i3;have c1:l[2+4*k+1]=l.getD (2+4*k+1) 0:=by simp[kh,i1]
   have c3:l[2+4*k+3]=l.getD (2+4*k+3) 0:=by simp[kh,i3]
   rw[c1]at b1;rw[c3]at b3;generalize cI iE (mC (.str "0123456789")) (m2 bT (aA 1) (m2 bD (aA 0) (mC (.int 1))))=M1 at b1;generalize cI iE (mC (.str "0123456789")) (m2 bT (aA 1) (m2 bD (aA 0) (mC (.int 3))))=M3 at b3;simp only[cC,aB,b1,b3,aC,lim,aG,Rs.bind_ok];rfl) (by simp;omega)
 rw[w];unfold wq;rw[jl,mw];rfl
end
open L2.Mr.Cod (dC iR gS)
section
variable{H:Hs}{ρ:Ev}{l:List Nat}
theorem NW {n:Int}{ps:List (Int×Int)}(h:jC n ps=true):∃m:Nat,n=m/\OrdP m ps:=by
 unfold jC at h;simp only[cf,decide_eq_true_eq,ve]at h;obtain⟨⟨⟨⟨⟨h1,h2⟩,h3⟩,h4⟩,h5⟩,h6⟩:=h;refine⟨n.toNat,by omega,by omega,by omega,λp hp=>?_,rising_of.mp h4,λp hp=>?_,λp hp q hq e=>?_⟩
 ·have:=cu.mp h3 p hp;unfold iQ Com.isT at this;simp only[cf,decide_eq_true_eq]at this;omega
 ·have:=qo.mp h5 p hp;simpa using this
 ·have:=cu.mp (cu.mp h6 p hp) q hq;simpa[e]using this
theorem z2z {m:Nat}(hl:l.length=4*m+2) (hm:m<=100):F_qd [.str (S l)] H=.ok (.tup ((wq l m).map aG)) H:=by
 have e:=z2y (H:=H) hl hm;have h2:((wq l m).map aG).length<=1000000:=by simp[wq];omega
 show bL (yA [some (.str (S l))] H)=_;rw[NU];unfold aL mL;rw[e];simp only[Rs.bind_ok,tO,lim,h2,if_true];rfl
theorem z30 (hl:l.length<=200) (hno:¬ ∃n ps,OrdP n ps/\l=tx n ps):∃H',F_qp [.str (S l)] H=.ex 8 H'/\Fr [] H H':=by
 have hl':l.length<=1000:=by omega
 have e0:=zM (H:=H) (l:=l) (ρ:=[some (.str (S l)),none]) rfl hl';have a:bE (aT (m1 (aU lT) (aA 0))) [some (.str (S l)),none] H=.ok false H:=rfl;have b:iC (.int (l.length:Int)) (.int 4) H=.ok (.int ((l.length:Int) % 4)) H:=by
  have h4:decide ((0:Int)<4)=true:=by decide
  simp only[iC,jV,oG,h4,if_true]
 have c:=dW (mb:=mC (.int 4)) (H2:=H) (y:=.int 4) e0 rfl b;have ne:∀x y:Int,bC (.int x) (.int y) H=.ok (.bl (!decide (x=y))) H:=λx y=>by
  have:(x==y)=decide (x=y):=by rw[dw];simp
  simp[bC,bR,bM,bH,this]
 have d:=dW (f:=bC) (mb:=mC (.int 2)) (H2:=H) (y:=.int 2) c rfl (ne _ _);have t1:lJ [some (.str (S l)),none] H=.ok (!decide ((l.length:Int) % 4=2)) H:=by unfold lJ;rw[nU a];unfold mB;rw[d];rfl
 by_cases h2:(l.length:Int) % 4=2
 ·obtain⟨m,hm⟩:∃m:Nat,l.length=4*m+2:=⟨l.length / 4,by omega⟩
  rw[decide_eq_true h2]at t1;have w1:aR lJ (jG 8 (aB (mC (.str "this is no text of an order")) aC)) aX [some (.str (S l)),none] H=.nx [some (.str (S l)),none] H:=(kZ t1).trans rfl;have b0:=E5 (H:=H) (l:=l) (ρ:=[some (.str (S l)),none]) (mt:=0) (mi:=mC (.int 0)) (i:=0) rfl rfl hl' (by omega);have c0:=show aD F_qd (aB (aA 0) aC) [some (.str (S l)),none] H=_ from nV (F:=F_qd) rfl (z2z (H:=H) hm (by omega));have hq:(wq l m).length<=100:=by simp[wq];omega
  generalize wq l m=qs at c0 hq;generalize fg l[0]=n0 at b0;have e1:qO [some (.str (S l)),none] H=.ok (.tup [.int n0,.tup (qs.map aG)]) H:=by unfold qO;generalize cI iE (mC (.str "0123456789")) (m2 bT (aA 0) (mC (.int 0)))=M1 at b0;generalize aD F_qd (aB (aA 0) aC)=M2 at c0;simp[cC,aB,b0,c0,aC,lim]
  have w2:aK qO (aF 1) [some (.str (S l)),none] H=.nx [some (.str (S l)),some (.tup [.int n0,.tup (qs.map aG)])] H:=gU e1 rfl;have io:=yW (H:=H) (n:=n0) (ps:=qs) (by omega);have ci:=show aD F_qw (aB (aA 1) aC) [some (.str (S l)),some (.tup [.int n0,.tup (qs.map aG)])] H=_ from nV (F:=F_qw) rfl io;have raise:∀H2,pJ [some (.str (S l)),some (.tup [.int n0,.tup (qs.map aG)])] H=.ok true H2->F_qp [.str (S l)] H=.ex 8 H2:=λH2 t2=>by show bL (rN [some (.str (S l)),none] H)=_;rw[zN,aY w1,aY w2];have w3:aR pJ (jG 8 (aB (mC (.str "this text writes no order")) aC)) aX [some (.str (S l)),some (.tup [.int n0,.tup (qs.map aG)])] H=.ex 8 H2:=(nK t2).trans rfl;unfold aJ;rw[w3];rfl
  cases hB:jC n0 qs with
  |false=>rw[hB]at ci;refine⟨H,raise H ?_,Fr.refl⟩;unfold pJ;refine qN ?_;generalize aD F_qw (aB (aA 1) aC)=M at ci;simp[bE,aT,ci,cN]
  |true=>
   rw[hB]at ci;obtain⟨n,rfl,o⟩:=NW hB;obtain⟨H2,e2,f2⟩:=NT (H:=H) o;refine⟨H2,raise H2 ?_,f2⟩;have nt:bE (aT (aD F_qw (aB (aA 1) aC))) [some (.str (S l)),some (.tup [.int n,.tup (qs.map aG)])] H=.ok false H:=by generalize aD F_qw (aB (aA 1) aC)=M at ci;simp[bE,aT,ci,cN]
   unfold pJ;rw[nU nt];have bq:=show aD F_qo (aB (aA 1) aC) [some (.str (S l)),some (.tup [.int n,.tup (qs.map aG)])] H=_ from nV (F:=F_qo) rfl e2;have hne:(S (tx n qs)==S l)=false:=by
    rw[beq_eq_false_iff_ne];intro z;refine hno ⟨n,qs,o, ?_⟩;have:(tx n qs).toArray=l.toArray:=congrArg Str.cps z;have h3:tx n qs=l:=by simpa using this
    exact h3.symm
   have dq:=dW (f:=bC) (mb:=aA 0) (H2:=H2) (y:=.str (S l)) bq rfl (show bC (.str (S (tx n qs))) (.str (S l)) H2=.ok (.bl true) H2 by simp[bC,bR,bM,bH,hne]);unfold mB;rw[dq];rfl
 ·rw[decide_eq_false h2]at t1;refine⟨H, ?_,Fr.refl⟩;show bL (rN [some (.str (S l)),none] H)=_;rw[zN];have w1:aR lJ (jG 8 (aB (mC (.str "this is no text of an order")) aC)) aX [some (.str (S l)),none] H=.ex 8 H:=(nK t1).trans rfl;unfold aJ;rw[w1];rfl
end
def gW (c:Nat):List (List Nat)->List Nat
 | []=>[]
 | [x]=>x
 |x::y::r=>x++c::gW c (y::r)
theorem NX {c:Nat}:∀{x y a b:List Nat},c∉x->c∉y->x++c::a=y++c::b->x=y/\a=b
 | [],[],a,b,_,_,e=>⟨rfl,by simpa using e⟩
 | [],v::y,a,b,_,hy,e=>by simp at e;exact absurd (e.1▸ax ..) hy
 |u::x,[],a,b,hx,_,e=>by simp at e;exact absurd (e.1▸ax ..) hx
 |u::x,v::y,a,b,hx,hy,e=>by simp only[List.cons_append,uv]at e;obtain⟨e1,e2⟩:=NX (λz=>hx (aq _ z)) (λz=>hy (aq _ z)) e.2;exact⟨by rw[e.1,e1],e2⟩
theorem NY {c:Nat}:∀{ws vs:List (List Nat)},ws≠[]->vs≠[]->(∀w∈ws,c∉w)->(∀w∈vs,c∉w)->gW c ws=gW c vs->ws=vs
 | [],_,h,_,_,_,_=>absurd rfl h
 |_::_,[],_,h,_,_,_=>absurd rfl h
 | [x],[y],_,_,_,_,e=>by simpa[gW]using e
 | [x],y::z::r,_,_,hx,_,e=>by simp only[gW]at e;exact absurd (by rw[e];simp) (hx x (ax ..))
 |x::z::r,[y],_,_,_,hy,e=>by simp only[gW]at e;exact absurd (by rw[<-e];simp) (hy y (ax ..))
 |x::x2::r,y::y2::q,_,_,hx,hy,e=>by simp only[gW]at e;obtain⟨e1,e2⟩:=NX (hx x (ax ..)) (hy y (ax ..)) e;have:=NY (c:=c) (ws:=x2::r) (vs:=y2::q) (by simp) (by simp) (λw hw=>hx w (aq _ hw)) (λw hw=>hy w (aq _ hw)) e2;rw[e1,this]
def sp (l:List Nat):List (List Nat):=(lx (S l) (S [32])).map λw=>w.cps.toList
theorem zO (l:List Nat):lx (S l) (S [32])=(sp l).map S:=by
 unfold sp;rw[jl];have:(S∘λw:Str=>w.cps.toList)=id:=by
  funext w
  show(⟨w.cps.toList.toArray⟩:Str)=w;simp
 rw[this];simp
theorem z31 {l:List Nat}:∀w∈sp l,32∉w:=λw hw=>by obtain⟨z,hz,rfl⟩:=cb.mp hw;exact StrLaws.split_free (S l) 32 z hz
theorem NZ (l:List Nat):sp l≠[]:=λe=>by have:=split_pos (S l) (S [32]);rw[zO,e]at this;simp at this
theorem N0:∀ws:List (List Nat),Str.join (S [32]) (ws.map S)=S (gW 32 ws)
 | []=>rfl
 | [x]=>rfl
 |x::y::r=>by have ih:=N0 (y::r);show S x++S [32]++Str.join (S [32]) ((y::r).map S)=_;rw[ih,zG,zG];simp[gW]
theorem zP (l:List Nat):gW 32 (sp l)=l:=by have h:=StrLaws.join_split (S l) (S [32]);rw[zO,N0]at h;have:(gW 32 (sp l)).toArray=l.toArray:=congrArg Str.cps h;simpa using this
theorem z32 {ws:List (List Nat)}(h0:ws≠[]) (hf:∀w∈ws,32∉w):sp (gW 32 ws)=ws:=NY (NZ _) h0 z31 hf (zP _)
theorem N1 (n:Nat):∀ps:List (Int×Int),gW 32 ([48+n,58]::ps.map bV)=tx n ps:=by
 have key:∀(x:List Nat) (ps:List (Int×Int)),gW 32 (x::ps.map bV)=x++ps.flatMap λq=>32::bV q:=by
  intro x ps
  induction ps generalizing x with
  |nil=>simp[gW]
  |cons q ps ih=>rw[cy,fz];show x++32::gW 32 (bV q::ps.map bV)=_;rw[ih];simp
 exact key _
theorem E6 {n:Nat}{ps:List (Int×Int)}(o:OrdP n ps):sp (tx n ps)=[48+n,58]::ps.map bV:=by
 rw[<-N1];refine z32 (by simp) λw hw=>?_
 rcases ay.mp hw with rfl|hw
 ·simp;omega
 ·obtain⟨q,_,rfl⟩:=cb.mp hw;simp[bV];omega
open L2.Mr.Cod (dC iR gS)
def WL (i a k b:Nat) (H:Hs):Prop:=∃zs:List Str,getL H i=some (zs.map Dv.str)/\a<=zs.length/\zs.length<=k/\∀z∈zs,z.length<=b
theorem WL.fr {S:List Nat}{i a k b:Nat}{H H':Hs}(w:WL i a k b H) (f:Fr S H H') (h:i∉S):WL i a k b H':=let ⟨zs,e,r⟩:=w;⟨zs,f.getL e h,r⟩
def Mn (P:Hs->Prop):Prop:=∀H H',P H->Fr [] H H'->P H'
def Tq (P:Hs->Prop) (ρ:Ev) (b:Nat) (m:M Dv):Prop:=∀H,P H->∃(z:Str) (H':Hs),m ρ H=.ok (.str z) H'/\z.length<=b/\Fr [] H H'
def TL (P:Hs->Prop) (ρ:Ev) (n b:Nat) (m:M (List Dv)):Prop:=∀H,P H->∃(zs:List Str) (H':Hs),m ρ H=.ok (zs.map Dv.str) H'/\zs.length=n/\(∀z∈zs,z.length<=b)/\Fr [] H H'
def Lq (P:Hs->Prop) (ρ:Ev) (a k b:Nat) (m:M Dv):Prop:=∀H,P H->∃(i:Nat) (H':Hs),m ρ H=.ok (.ref i) H'/\WL i a k b H'/\Fr [] H H'
def Bq (ρ:Ev) (m:MO):Prop:=∀H,∃l,m ρ H=.ok l H
section
variable{P:Hs->Prop}{ρ:Ev}{a a' k k' b b':Nat}{m m':M Dv}{ms:M (List Dv)}{lo hi:MO}
theorem sD {i:Nat}{z:Str}(h:∀H,aA i ρ H=.ok (.str z) H) (hb:z.length<=b):Tq P ρ b (aA i):=λH _=>⟨z,H,h H,hb,Fr.refl⟩
theorem z33 {z:Str}(hb:z.length<=b):Tq P ρ b (mC (.str z)):=λH _=>⟨z,H,rfl,hb,Fr.refl⟩
theorem z34 (x y:Str):(x++y).length=x.length+y.length:=by show(x.cps++y.cps).size=x.cps.size+y.cps.size;simp
theorem mO (hP:Mn P) (h:Tq P ρ b m) (h':Tq P ρ b' m') (hb:b+b'<=100000):Tq P ρ (b+b') (m2 cH m m'):=λH p=>by obtain⟨z,H1,e1,l1,f1⟩:=h H p;obtain⟨y,H2,e2,l2,f2⟩:=h' H1 (hP _ _ p f1);refine⟨z++y,H2,dW e1 e2 ?_,by rw[z34];omega,f1.trans f2 (by simp)⟩;show lim (z.length+y.length) _=_;unfold lim;rw[if_pos (by omega)]
theorem uX (h:Tq P ρ b m) (hl:Bq ρ lo) (hh:Bq ρ hi) (hb:b<=100000):Tq P ρ b (fW m lo hi):=λH p=>by obtain⟨z,H1,e1,l1,f1⟩:=h H p;obtain⟨l,e2⟩:=hl H1;obtain⟨u,e3⟩:=hh H1;have q:=Txt.slice_le z l u;refine⟨kz z l u,H1, ?_,by omega,f1⟩;unfold fW;rw[e1,Rs.bind_ok,e2,Rs.bind_ok,e3,Rs.bind_ok];show lim _ _=_;unfold lim;rw[if_pos (by omega)]
theorem kG:Bq ρ cE:=λH=>⟨none,rfl⟩
theorem nW {i:Int}(h:∀H,m ρ H=.ok (.int i) H):Bq ρ (bY m):=λH=>⟨some i,by unfold bY;rw[h];rfl⟩
theorem uY:TL P ρ 0 b aC:=λH _=>⟨[],H,rfl,rfl,by simp,Fr.refl⟩
theorem kH {n:Nat}(hP:Mn P) (h:Tq P ρ b' m) (hr:TL P ρ n b ms) (hb:b'<=b):TL P ρ (n+1) b (aB m ms):=λH p=>by
 obtain⟨z,H1,e1,l1,f1⟩:=h H p;obtain⟨zs,H2,e2,n2,l2,f2⟩:=hr H1 (hP _ _ p f1);refine⟨z::zs,H2, ?_,by simp[n2],λy hy=>?_,f1.trans f2 (by simp)⟩
 ·unfold aB;rw[e1,Rs.bind_ok,e2,Rs.bind_ok];rfl
 ·rcases ay.mp hy with rfl|hy
  ·omega
  ·exact l2 y hy
theorem uZ {n:Nat}(h:TL P ρ n b ms) (hn:n<=500):Lq P ρ n n b (aV ms):=λH p=>by obtain⟨zs,H1,e1,n1,l1,f1⟩:=h H p;refine⟨H1.length,H1++[.lst (zs.map Dv.str)], ?_,⟨zs,dC,by omega,by omega,l1⟩,f1.trans (T:=[]) Fr.app (by simp)⟩;unfold aV lim;rw[e1,Rs.bind_ok,if_pos (by simp;omega)]
theorem vA {i j:Nat}(h:∀H,aA i ρ H=.ok (.ref j) H) (hw:∀H,P H->WL j a k b H):Lq P ρ a k b (aA i):=λH p=>⟨j,H,h H,hw H p,Fr.refl⟩
theorem pK (hP:Mn P) (h:Lq P ρ a k b m) (h':Lq P ρ a' k' b m') (hk:k+k'<=500):Lq P ρ (a+a') (k+k') b (m2 bD m m'):=λH p=>by
 obtain⟨i,H1,e1,w1,f1⟩:=h H p;obtain⟨j,H2,e2,w2,f2⟩:=h' H1 (hP _ _ p f1);obtain⟨zs,g1,a1,k1,l1⟩:=w1.fr f2 (by simp);obtain⟨ys,g2,a2,k2,l2⟩:=w2;refine⟨H2.length,H2++[.lst (zs.map Dv.str++ys.map Dv.str)],dW e1 e2 (iR g1 g2 (by simp;omega)),⟨zs++ys,by rw[jg];exact dC,by simp;omega,by simp;omega,λz hz=>?_⟩,f1.trans (f2.trans (T:=[]) Fr.app (by simp)) (by simp)⟩
 rcases fw.mp hz with hz|hz
 ·exact l1 z hz
 ·exact l2 z hz
theorem pL (h:Lq P ρ a k b m) (hl:Bq ρ lo) (hh:Bq ρ hi):Lq P ρ 0 k b (dP m lo hi):=λH p=>by
 obtain⟨i,H1,e1,⟨zs,g1,a1,k1,l1⟩,f1⟩:=h H p;obtain⟨l,e2⟩:=hl H1;obtain⟨u,e3⟩:=hh H1;have hc:∃ys:List Str,jK (zs.map Dv.str) l u=ys.map Dv.str/\ys.length<=zs.length/\∀y∈ys,y∈zs:=by unfold jK;refine⟨_,by rw[<-qt,<-ui], ?_,λy hy=>Bm (List.mem_of_mem_take hy)⟩;simp;omega
 obtain⟨ys,hc,hy,hm⟩:=hc;refine⟨H1.length,H1++[.lst (ys.map Dv.str)], ?_,⟨ys,dC,by omega,by omega,λz hz=>l1 z (hm z hz)⟩,f1.trans (T:=[]) Fr.app (by simp)⟩;unfold dP;rw[e1,Rs.bind_ok,e2,Rs.bind_ok,e3,Rs.bind_ok];show oZ (.ref i) l u H1=_;simp only[oZ,g1,hc]
theorem E7 (z:Str):S z.cps.toList=z:=by show(⟨z.cps.toList.toArray⟩:Str)=z;simp
theorem N2 (c:Nat):∀(ls:List (List Nat)),(ls.map jm).sum+ls.length=(ls.flatMap λp=>[32]++p).length
 | []=>rfl
 |x::xs=>by have:=N2 c xs;rw[fz,br,<-this];simp;omega
theorem E8 (h:Lq P ρ a k b m) (hb:k*(b+1)<=100000):Tq P ρ (k*(b+1)) (cI iF (mC (.str " ")) m):=λH p=>by
 obtain⟨i,H1,e1,⟨zs,g1,a1,k1,l1⟩,f1⟩:=h H p;obtain⟨ls,hls⟩:∃ls:List (List Nat),ls=zs.map λz=>z.cps.toList:=⟨_,rfl⟩
 have hz:zs=ls.map S:=by rw[hls,jl];have:(S∘λz:Str=>z.cps.toList)=id:=funext E7;rw[this];simp
 have hlen:ls.length<=k:=by rw[hls];simpa using k1
 have hbl:∀x∈ls,x.length<=b:=λx hx=>by rw[hls]at hx;obtain⟨z,hz,rfl⟩:=cb.mp hx;have:=l1 z hz;simpa[og]using this
 have hs:=EZ b ls hbl;have hm:ls.length*b+ls.length<=k*(b+1):=by have:ls.length*(b+1)<=k*(b+1):=Nat.mul_le_mul_right _ hlen;rw[Nat.mul_add,Nat.mul_one]at this;exact this
 have g2:getL H1 i=some (ls.map λl=>Dv.str (S l)):=by rw[g1,hz,jl];rfl
 have ej:=EY (H:=H1) (g:=[32]) g2 (by simp;omega);refine⟨_,H1,sC (mo:=mC (.str " ")) (z:=S [32]) (by rw[zH];rfl) e1 ej, ?_,f1⟩
 cases ls with
 |nil=>show 0<=_;omega
 |cons x xs=>rw[EU,gC];have:=N2 0 xs;rw[br];simp only[cy,List.sum_cons,cp]at hs hm;have e:(xs.flatMap λp=>[32]++p).length=(List.flatMap (λp=>[32]++p) xs).length:=rfl;omega
end
theorem E9 {w:List Nat}:∀{ws:List (List Nat)},w∈ws->w.length<=(gW 32 ws).length
 | [],h=>nomatch h
 | [x],h=>by simp only[ey]at h;subst h;exact ak _
 |x::y::r,h=>by
  show _<=(x++32::gW 32 (y::r)).length
  rcases ay.mp h with rfl|h
  ·simp
  ·have:=E9 h;simp;omega
theorem FA {F:List Dv->Hs->Rs Dv}{ma mb:M Dv}{a b:Dv}{ρ:Ev}{H H1 H2:Hs}{r:Rs Dv}(ha:ma ρ H=.ok a H1) (hb:mb ρ H1=.ok b H2) (hF:F [a,b] H2=r):aD F (aB ma (aB mb aC)) ρ H=r:=by simp[aD,aB,ha,hb,aC,hF]
theorem tk {st:Nat}{ρ:Ev}{mm:M Dv}{H:Hs}{m:Int}(s:Com.St st H) (h0:aA 0 ρ H=.ok (.ref st) H) (hm:mm ρ H=.ok (.int m) H) (p:0<m) (q:m<18446744073709551616):
  ∃(r:Nat) (H':Hs),(r:Int)<m/\aD F_qs (aB (aA 0) (aB mm aC)) ρ H=.ok (.int r) H'/\Fr [st] H H'/\Com.St st H':=by
 obtain⟨r,H',r0,r1,t,f,s'⟩:=nS m s p q;obtain⟨j,rfl⟩:∃j:Nat,r=j:=⟨r.toNat,by omega⟩
 exact⟨j,H',r1,FA (F:=F_qs) h0 hm t,f,s'⟩
theorem N3 {z:Str}{j:Nat}{H:Hs}(h:j<z.length) (hz:z.length<=1000):∃c,bT (.str z) (.int j) H=.ok (.str (S [c])) H:=by
 have hj:j<z.cps.toList.length:=by simpa[og]using h
 refine⟨z.cps.toList[j], ?_⟩;have:=zL (H:=H) (l:=z.cps.toList) (i:=j) (bc hj) (by simpa[og]using hz);rwa [E7]at this
open L2.Mr.Cod (dC iR gS)
theorem z35:og " !\"#$&'()*+,-./0123456789:;<=>?@ABCDEFGHIJKLMNOPQRSTUVWXYZ[\\]^_`abcdefghijklmnopqrstuvwxyz{|}~" = 94:=by decide +kernel
theorem N4:og "0123456 :<" = 10:=by decide +kernel
theorem z36:og " " = 1:=by decide +kernel
abbrev b1:MS:=aK (aD F_qs (aB (aA 0) (aB (m2 bD (aD (f1 fF) (aB (aA 1) aC)) (mC (.int 1))) aC))) (aF 2)
abbrev zQ:M Dv:=m2 bT (aA 3) (aD F_qs (aB (aA 0) (aB (mC (.int 94)) aC)))
abbrev zR:M Dv:=m2 bT (mC (.str "0123456 :<")) (aD F_qs (aB (aA 0) (aB (mC (.int 10)) aC)))
abbrev b3:M Dv:=m2 aN (aV (aB zQ (aB zR aC))) (aD F_qs (aB (aA 0) (aB (mC (.int 2)) aC)))
abbrev N5:M Dv:=fW (aA 1) cE (bY (aA 2))
abbrev N6:M Dv:=fW (aA 1) (bY (aA 2)) cE
abbrev zS:M Dv:=aD F_qs (aB (aA 0) (aB (aD (f1 dE) (aB (aA 7) aC)) aC))
abbrev b8:M Dv:=aV (aB (m2 cH (aA 5) (fW (aA 6) (bY (mC (.int 1))) cE)) (aB (m2 cH (m2 cH (aA 5) (aA 4)) (aA 6)) (aB (m2 cH (m2 cH (aA 5) (aA 4)) (fW (aA 6) (bY (mC (.int 1))) cE)) (aB (m2 cH (m2 cH (m2 cH (aA 5) (fW (aA 6) (bY (mC (.int 1))) (bY (mC (.int 2))))) (fW (aA 6) cE (bY (mC (.int 1))))) (fW (aA 6) (bY (mC (.int 2))) cE)) aC))))
abbrev b9:M Dv:=aV (aB (cI iF (mC (.str " ")) (m2 bD (dP (aA 7) cE (bY (aA 8))) (dP (aA 7) (bY (m2 bD (aA 8) (mC (.int 1)))) cE))) (aB (cI iF (mC (.str " ")) (m2 bD (m2 bD (dP (aA 7) cE (bY (aA 8))) (aV (aB (aA 10) aC))) (dP (aA 7) (bY (aA 8)) cE))) aC))
abbrev N7:M Dv:=m2 bD (dP (aA 7) cE (bY (aA 8))) (dP (aA 7) (bY (m2 bD (aA 8) (mC (.int 1)))) cE)
abbrev N8:M Dv:=aV (aB (cI iF (mC (.str " ")) (m2 bD (m2 bD (dP (aA 12) cE (bY (aA 9))) (aV (aB (aA 10) aC))) (dP (aA 12) (bY (aA 9)) cE))) (aB (aA 1) (aB (m2 cH (mC (.str " ")) (aA 1)) (aB (m2 cH (aA 1) (mC (.str " "))) aC))))
abbrev b12:MS:=aL (m2 aN (aA 11) (aD F_qs (aB (aA 0) (aB (mC (.int 10)) aC))))
theorem z37:DH=aJ b1 (aJ (aK (mC (.str " !\"#$&'()*+,-./0123456789:;<=>?@ABCDEFGHIJKLMNOPQRSTUVWXYZ[\\]^_`abcdefghijklmnopqrstuvwxyz{|}~")) (aF 3)) (aJ (aK b3 (aF 4)) (aJ (nQ 5 6 (aB N5 (aB N6 aC))) (aJ (aK (cI lE (aA 1) (mC (.str " "))) (aF 7)) (aJ (nQ 8 9 (aB zS (aB zS aC))) (aJ (aK (m2 aN (aA 7) (aA 8)) (aF 10)) (aJ (aK b8 (aF 11)) (aJ (aK (m2 bD (aA 11) b9) (aF 11)) (aJ (aK N7 (aF 12)) (aJ (aK (m2 bD (aA 11) N8) (aF 11)) b12)))))))))):=rfl
section
variable{st:Nat}{H:Hs}{ρ:Ev}
theorem z38 {z1:Str}(h0:∀H,aA 0 ρ H=.ok (.ref st) H) (h3:∀H,aA 3 ρ H=.ok (.str z1) H) (hz:z1.length=94) (s:Com.St st H):∃(z:Str) (H':Hs),b3 ρ H=.ok (.str z) H'/\z.length<=1/\Com.St st H'/\Fr [st] H H':=by
 obtain⟨r1,H1,q1,t1,f1,s1⟩:=tk (mm:=mC (.int 94)) s (h0 H) rfl (by decide) (by decide);obtain⟨c1,x1⟩:=N3 (z:=z1) (j:=r1) (H:=H1) (by omega) (by omega);have e1:zQ ρ H=.ok (.str (S [c1])) H1:=dW (h3 H) t1 x1;obtain⟨r2,H2,q2,t2,f2,s2⟩:=tk (mm:=mC (.int 10)) s1 (h0 H1) rfl (by decide) (by decide);obtain⟨c2,x2⟩:=N3 (z := "0123456 :<") (j:=r2) (H:=H2) (by rw[N4];omega) (by rw[N4];omega);have e2:zR ρ H1=.ok (.str (S [c2])) H2:=dW (ma:=mC (.str "0123456 :<")) rfl t2 x2;have e3:aV (aB zQ (aB zR aC)) ρ H=.ok (.ref H2.length) (H2++[.lst [.str (S [c1]),.str (S [c2])]]):=by generalize zQ=M1 at e1;generalize zR=M2 at e2;simp[aV,aB,e1,e2,aC,lim]
 have f3:Fr [st] H (H2++[.lst [.str (S [c1]),.str (S [c2])]]):=(f1.trans f2 (by simp)).trans (T:=[]) Fr.app (by simp);have s3:Com.St st (H2++[.lst [.str (S [c1]),.str (S [c2])]]):=s2.fr (Fr.app (S:=[])) (by simp);obtain⟨r4,H4,q4,t4,f4,s4⟩:=tk (mm:=mC (.int 2)) s3 (h0 _) rfl (by decide) (by decide);have g:=f4.getL (dC (H:=H2) (x:=[.str (S [c1]),.str (S [c2])])) (by have:=s2.lt;simp;omega);have hr:r4<[Dv.str (S [c1]),Dv.str (S [c2])].length:=by simp;omega
 have x4:=gS g hr;have hv:∃z:Str,[Dv.str (S [c1]),Dv.str (S [c2])][r4]=.str z/\z.length<=1:=by
  have:=dj hr;generalize [Dv.str (S [c1]),Dv.str (S [c2])][r4]=v at this;simp only[ay,ie,or_false]at this
  rcases this with rfl|rfl
  ·exact⟨_,rfl,by rw[gC];simp⟩
  ·exact⟨_,rfl,by rw[gC];simp⟩
 obtain⟨z,hv,hl⟩:=hv;rw[hv]at x4;exact⟨z,H4,dW e3 t4 x4,hl,s4,f3.trans f4 (by simp)⟩
theorem N9 {i j:Nat}{ma mb:M Dv}{x y:Dv}{H1 H2:Hs}{ρ1:Ev}(ha:ma ρ H=.ok x H1) (hb:mb ρ H1=.ok y H2) (hr:(ρ.set i (some x)).set j (some y)=ρ1):nQ i j (aB ma (aB mb aC)) ρ H=.nx ρ1 H2:=by simp[nQ,aB,ha,hb,aC,hr]
theorem OA {l:List Nat}(hl:l.length<=80):∃H',cI lE (mC (.str (S l))) (mC (.str " ")) ρ H=.ok (.ref H.length) H'/\H'=H++[.lst ((sp l).map λw=>Dv.str (S w))]/\WL H.length 1 82 80 H'/\Fr [] H H':=by
 have h2:=split_le (S l) (S [32]);rw[gC]at h2;have e:lE (.str (S l)) (.str (S [32])) H=.ok (.ref H.length) (H++[.lst ((lx (S l) (S [32])).map Dv.str)]):=by
  have h1:(S l).length<=1000000:=by rw[gC];omega
  have h3:(lx (S l) (S [32])).length<=1000000:=by omega
  have h4:((S [32]).length==0)=false:=rfl;simp only[lE,h1,h3,h4,and_self,if_true]
 have e2:=sC (ρ:=ρ) (mo:=mC (.str (S l))) (me:=mC (.str " ")) (H:=H) (y:=.str (S [32])) rfl (by rw[zH];rfl) e;refine⟨_,e2,by rw[zO,jl];rfl,⟨lx (S l) (S [32]),dC, ?_,by omega,λz hz=>?_⟩,Fr.app⟩
 ·have:=split_pos (S l) (S [32]);omega
 ·rw[zO]at hz;obtain⟨w,hw,rfl⟩:=cb.mp hz;have:=E9 hw;rw[zP]at this;rw[gC];omega
theorem OB {i a k b:Nat}{x:Nat}(h:aA x ρ H=.ok (.ref i) H) (w:WL i a k b H):∃n:Nat,aD (f1 dE) (aB (aA x) aC) ρ H=.ok (.int n) H/\a<=n/\n<=k/\∀j,j<n->∃z:Str,z.length<=b/\∀H',getL H' i=getL H i->aN (.ref i) (.int (j:Nat)) H'=.ok (.str z) H':=by
 obtain⟨zs,g,ha,hk,hb⟩:=w;refine⟨zs.length, ?_,ha,hk,λj hj=>⟨zs[j],hb _ (dj hj),λH' e=>?_⟩⟩
 ·simp[aD,aB,h,aC,f1,dE,gB,iU,hJ,g]
 ·rw[g]at e;have:=gS e (by simpa using hj);simpa using this
theorem z39 {l:List Nat}(hl:l.length<=80) (s:Com.St st H):∃(z:Str) (H':Hs),F_qq [.ref st,.str (S l)] H=.ok (.str z) H'/\z.length<=100000/\Com.St st H'/\Fr [st] H H':=by
 have hS:(S l).length=l.length:=gC l;have e0:∀ρ:Ev,aA 1 ρ H=.ok (.str (S l)) H->m2 bD (aD (f1 fF) (aB (aA 1) aC)) (mC (.int 1)) ρ H=.ok (.int (l.length+1)) H:=λρ h=>by
  have a:aD (f1 fF) (aB (aA 1) aC) ρ H=.ok (.int l.length) H:=by
   have h3:(S l).length<=1000000:=by omega
   have:fF (.str (S l)) H=.ok (.int l.length) H:=by simp only[fF,lim,h3,if_true];rw[hS]
   simp[aD,aB,h,aC,f1,this]
  exact dW a (mb:=mC (.int 1)) rfl rfl
 obtain⟨at_,H1,q1,t1,f1,s1⟩:=tk (ρ:=[some (.ref st),some (.str (S l)),none,none,none,none,none,none,none,none,none,none,none]) s rfl (e0 _ rfl) (by omega) (by omega);have w1:b1 [some (.ref st),some (.str (S l)),none,none,none,none,none,none,none,none,none,none,none] H=.nx [some (.ref st),some (.str (S l)),some (.int at_),none,none,none,none,none,none,none,none,none,none] H1:=gU t1 rfl;obtain⟨z1,hz1⟩:∃z1:Str,z1 = " !\"#$&'()*+,-./0123456789:;<=>?@ABCDEFGHIJKLMNOPQRSTUVWXYZ[\\]^_`abcdefghijklmnopqrstuvwxyz{|}~" := ⟨_,rfl⟩;have l94:z1.length=94:=by rw[hz1];exact z35
 have w2:aK (mC (.str z1)) (aF 3) [some (.ref st),some (.str (S l)),some (.int at_),none,none,none,none,none,none,none,none,none,none] H1=.nx [some (.ref st),some (.str (S l)),some (.int at_),some (.str z1),none,none,none,none,none,none,none,none,none] H1:=rfl;obtain⟨z4,H3,e3,l4,s3,f3⟩:=z38 (ρ:=[some (.ref st),some (.str (S l)),some (.int at_),some (.str z1),none,none,none,none,none,none,none,none,none]) (λ_=>rfl) (λ_=>rfl) l94 s1;have w3:aK b3 (aF 4) [some (.ref st),some (.str (S l)),some (.int at_),some (.str z1),none,none,none,none,none,none,none,none,none] H1=.nx [some (.ref st),some (.str (S l)),some (.int at_),some (.str z1),some (.str z4),none,none,none,none,none,none,none,none] H3:=gU e3 rfl;have sl:∀(lo hi:Option Int),∃z:Str,z.length<=80/\CZ (.str (S l)) lo hi H3=.ok (.str z) H3:=λlo hi=>by have q:=Txt.slice_le (S l) lo hi;refine⟨kz (S l) lo hi,by omega, ?_⟩;show lim _ _=_;unfold lim;rw[if_pos (by omega)]
 obtain⟨z5,l5,x5⟩:=sl none (some at_);obtain⟨z6,l6,x6⟩:=sl (some at_) none;have w4:nQ 5 6 (aB N5 (aB N6 aC)) [some (.ref st),some (.str (S l)),some (.int at_),some (.str z1),some (.str z4),none,none,none,none,none,none,none,none] H3=.nx [some (.ref st),some (.str (S l)),some (.int at_),some (.str z1),some (.str z4),some (.str z5),some (.str z6),none,none,none,none,none,none] H3:=N9 (x:=.str z5) (y:=.str z6) x5 x6 rfl;obtain⟨H5,e5,_,wl5,f5⟩:=OA (ρ:=[some (.ref st),some (.str (S l)),some (.int at_),some (.str z1),some (.str z4),some (.str z5),some (.str z6),none,none,none,none,none,none]) (H:=H3) hl;have w5:aK (cI lE (aA 1) (mC (.str " "))) (aF 7) [some (.ref st),some (.str (S l)),some (.int at_),some (.str z1),some (.str z4),some (.str z5),some (.str z6),none,none,none,none,none,none] H3=.nx [some (.ref st),some (.str (S l)),some (.int at_),some (.str z1),some (.str z4),some (.str z5),some (.str z6),some (.ref H3.length),none,none,none,none,none] H5:=gU (v:=.ref H3.length) e5 rfl;have s5:=s3.fr f5 (by simp);have hw:H3.length≠st:=by have:=s3.lt;omega
 generalize H3.length=w at wl5 w5 hw;obtain⟨nw,en,n1,n2,hix⟩:=OB (x:=7) (ρ:=[some (.ref st),some (.str (S l)),some (.int at_),some (.str z1),some (.str z4),some (.str z5),some (.str z6),some (.ref w),none,none,none,none,none]) (H:=H5) rfl wl5;obtain⟨r8,H6,q8,t8,f6,s6⟩:=tk s5 (ρ:=[some (.ref st),some (.str (S l)),some (.int at_),some (.str z1),some (.str z4),some (.str z5),some (.str z6),some (.ref w),none,none,none,none,none]) rfl en (by omega) (by omega);have wl6:=wl5.fr f6 (by simpa using hw);obtain⟨nw',en',n1',n2',_⟩:=OB (x:=7) (ρ:=[some (.ref st),some (.str (S l)),some (.int at_),some (.str z1),some (.str z4),some (.str z5),some (.str z6),some (.ref w),none,none,none,none,none]) (H:=H6) rfl wl6;obtain⟨r9,H7,q9,t9,f7,s7⟩:=tk s6 (ρ:=[some (.ref st),some (.str (S l)),some (.int at_),some (.str z1),some (.str z4),some (.str z5),some (.str z6),some (.ref w),none,none,none,none,none]) rfl en' (by omega) (by omega);have w6:nQ 8 9 (aB zS (aB zS aC)) [some (.ref st),some (.str (S l)),some (.int at_),some (.str z1),some (.str z4),some (.str z5),some (.str z6),some (.ref w),none,none,none,none,none] H5=.nx [some (.ref st),some (.str (S l)),some (.int at_),some (.str z1),some (.str z4),some (.str z5),some (.str z6),some (.ref w),some (.int r8),some (.int r9),none,none,none] H7:=N9 t8 t9 rfl;obtain⟨z10,l10,x10⟩:=hix r8 (by omega);have gk:getL H7 w=getL H5 w:=by obtain⟨zs,g,_⟩:=wl5;rw[g];exact f7.getL (f6.getL g (by simpa using hw)) (by simpa using hw)
 have wl7:=wl6.fr f7 (by simpa using hw);have w7:aK (m2 aN (aA 7) (aA 8)) (aF 10) [some (.ref st),some (.str (S l)),some (.int at_),some (.str z1),some (.str z4),some (.str z5),some (.str z6),some (.ref w),some (.int r8),some (.int r9),none,none,none] H7=.nx [some (.ref st),some (.str (S l)),some (.int at_),some (.str z1),some (.str z4),some (.str z5),some (.str z6),some (.ref w),some (.int r8),some (.int r9),some (.str z10),none,none] H7:=gU (dW (ma:=aA 7) (mb:=aA 8) rfl rfl (x10 H7 gk)) rfl;have b1q:∀{ρ:Ev}(i:Int),Bq ρ (bY (mC (.int i))):=λi=>nW λ_=>rfl;have lq8:Lq (WL w 1 82 80) [some (.ref st),some (.str (S l)),some (.int at_),some (.str z1),some (.str z4),some (.str z5),some (.str z6),some (.ref w),some (.int r8),some (.int r9),some (.str z10),none,none] 4 4 20000 b8:=by
  have hP:Mn (WL w 1 82 80):=λ_ _ p f=>p.fr f (by simp);have v5:∀{P ρ},(∀H,aA 5 ρ H=.ok (.str z5) H)->Tq P ρ 80 (aA 5):=λh=>sD h l5;have v6:∀{P ρ},(∀H,aA 6 ρ H=.ok (.str z6) H)->Tq P ρ 80 (aA 6):=λh=>sD h l6;have v4:∀{P ρ},(∀H,aA 4 ρ H=.ok (.str z4) H)->Tq P ρ 1 (aA 4):=λh=>sD h l4;refine uZ (kH hP (b':=160) ?_ (kH hP (b':=161) ?_ (kH hP (b':=161) ?_ (kH hP (b':=320) ?_ uY (by omega)) (by omega)) (by omega)) (by omega)) (by omega)
  ·exact mO hP (v5 λ_=>rfl) (uX (v6 λ_=>rfl) (b1q 1) kG (by omega)) (by omega)
  ·exact mO hP (mO hP (v5 λ_=>rfl) (v4 λ_=>rfl) (by omega)) (v6 λ_=>rfl) (by omega)
  ·exact mO hP (mO hP (v5 λ_=>rfl) (v4 λ_=>rfl) (by omega)) (uX (v6 λ_=>rfl) (b1q 1) kG (by omega)) (by omega)
  ·exact mO hP (mO hP (mO hP (v5 λ_=>rfl) (uX (v6 λ_=>rfl) (b1q 1) (b1q 2) (by omega)) (by omega)) (uX (v6 λ_=>rfl) kG (b1q 1) (by omega)) (by omega)) (uX (v6 λ_=>rfl) (b1q 2) kG (by omega)) (by omega)
 obtain⟨i8,H8,e8,wi8,f8⟩:=lq8 H7 wl7;have w8:=gU (i:=11) (ρ1:=[some (.ref st),some (.str (S l)),some (.int at_),some (.str z1),some (.str z4),some (.str z5),some (.str z6),some (.ref w),some (.int r8),some (.int r9),some (.str z10),some (.ref i8),none]) e8 rfl;have wl8:=wl7.fr f8 (by simp);have hP9:∀i k,Mn λH=>WL w 1 82 80 H/\WL i k k 20000 H:=λi k _ _ p f=>⟨p.1.fr f (by simp),p.2.fr f (by simp)⟩
 have lq9:Lq (λH=>WL w 1 82 80 H/\WL i8 4 4 20000 H) [some (.ref st),some (.str (S l)),some (.int at_),some (.str z1),some (.str z4),some (.str z5),some (.str z6),some (.ref w),some (.int r8),some (.int r9),some (.str z10),some (.ref i8),none] 6 6 20000 (m2 bD (aA 11) b9):=by
  have hP:=hP9 i8 4;have vw:∀{ρ},(∀H,aA 7 ρ H=.ok (.ref w) H)->Lq (λH=>WL w 1 82 80 H/\WL i8 4 4 20000 H) ρ 1 82 80 (aA 7):=λh=>vA h λ_ p=>p.1;refine pK hP (vA (λ_=>rfl) λ_ p=>p.2) (uZ (kH hP (b':=164*81) ?_ (kH hP (b':=165*81) ?_ uY (by omega)) (by omega)) (by omega)) (by omega)
  ·exact E8 (pK hP (pL (vw λ_=>rfl) kG (nW (i:=r8) λ_=>rfl)) (pL (vw λ_=>rfl) (nW (i:=r8+1) λ_=>rfl) kG) (by omega)) (by omega)
  ·exact E8 (pK hP (pK hP (pL (vw λ_=>rfl) kG (nW (i:=r8) λ_=>rfl)) (uZ (n:=1) (kH hP (sD (z:=z10) (λ_=>rfl) l10) uY (by omega)) (by omega)) (by omega)) (pL (vw λ_=>rfl) (nW (i:=r8) λ_=>rfl) kG) (by omega)) (by omega)
 obtain⟨i9,H9,e9,wi9,f9⟩:=lq9 H8 ⟨wl8,wi8⟩;have w9:=gU (i:=11) (ρ1:=[some (.ref st),some (.str (S l)),some (.int at_),some (.str z1),some (.str z4),some (.str z5),some (.str z6),some (.ref w),some (.int r8),some (.int r9),some (.str z10),some (.ref i9),none]) e9 rfl;have wl9:=wl8.fr f9 (by simp);have lq10:Lq (λH=>WL w 1 82 80 H/\WL i9 6 6 20000 H) [some (.ref st),some (.str (S l)),some (.int at_),some (.str z1),some (.str z4),some (.str z5),some (.str z6),some (.ref w),some (.int r8),some (.int r9),some (.str z10),some (.ref i9),none] 0 164 80 N7:=by have hP:=hP9 i9 6;have vw:∀{ρ},(∀H,aA 7 ρ H=.ok (.ref w) H)->Lq (λH=>WL w 1 82 80 H/\WL i9 6 6 20000 H) ρ 1 82 80 (aA 7):=λh=>vA h λ_ p=>p.1;exact pK hP (pL (vw λ_=>rfl) kG (nW (i:=r8) λ_=>rfl)) (pL (vw λ_=>rfl) (nW (i:=r8+1) λ_=>rfl) kG) (by omega)
 obtain⟨i10,H10,e10,wi10,f10⟩:=lq10 H9 ⟨wl9,wi9⟩;have w10:=gU (i:=12) (ρ1:=[some (.ref st),some (.str (S l)),some (.int at_),some (.str z1),some (.str z4),some (.str z5),some (.str z6),some (.ref w),some (.int r8),some (.int r9),some (.str z10),some (.ref i9),some (.ref i10)]) e10 rfl;have lq11:Lq (λH=>WL i10 0 164 80 H/\WL i9 6 6 20000 H) [some (.ref st),some (.str (S l)),some (.int at_),some (.str z1),some (.str z4),some (.str z5),some (.str z6),some (.ref w),some (.int r8),some (.int r9),some (.str z10),some (.ref i9),some (.ref i10)] 10 10 100000 (m2 bD (aA 11) N8):=by
  have hP:Mn λH=>WL i10 0 164 80 H/\WL i9 6 6 20000 H:=λ_ _ p f=>⟨p.1.fr f (by simp),p.2.fr f (by simp)⟩
  have vw:∀{ρ},(∀H,aA 12 ρ H=.ok (.ref i10) H)->Lq (λH=>WL i10 0 164 80 H/\WL i9 6 6 20000 H) ρ 0 164 80 (aA 12):=λh=>vA h λ_ p=>p.1;have vt:∀{P ρ},(∀H,aA 1 ρ H=.ok (.str (S l)) H)->Tq P ρ 80 (aA 1):=λh=>sD h (by omega);have vc:∀{P ρ},Tq P ρ 1 (mC (.str " ")):=z33 (by rw[z36];omega);refine pK hP (vA (λ_=>rfl) λ_ p=>?_) (uZ (kH hP (b':=329*81) ?_ (kH hP (vt λ_=>rfl) (kH hP (mO hP vc (vt λ_=>rfl) (by omega)) (kH hP (mO hP (vt λ_=>rfl) vc (by omega)) uY (by omega)) (by omega)) (by omega)) (by omega)) (by omega)) (by omega)
  ·obtain⟨zs,g,a,k,b⟩:=p.2;exact⟨zs,g,a,k,λz hz=>du (b z hz) (by omega)⟩
  ·exact E8 (pK hP (pK hP (pL (vw λ_=>rfl) kG (nW (i:=r9) λ_=>rfl)) (uZ (n:=1) (kH hP (sD (z:=z10) (λ_=>rfl) l10) uY (by omega)) (by omega)) (by omega)) (pL (vw λ_=>rfl) (nW (i:=r9) λ_=>rfl) kG) (by omega)) (by omega)
 obtain⟨i11,H11,e11,wi11,f11⟩:=lq11 H10 ⟨wi10,wi9.fr f10 (by simp)⟩;have w11:=gU (i:=11) (ρ1:=[some (.ref st),some (.str (S l)),some (.int at_),some (.str z1),some (.str z4),some (.str z5),some (.str z6),some (.ref w),some (.int r8),some (.int r9),some (.str z10),some (.ref i11),some (.ref i10)]) e11 rfl;have fa:Fr [] H7 H11:=((f8.trans f9 (by simp)).trans f10 (by simp)).trans f11 (by simp);have s11:=s7.fr fa (by simp);have hi:i11≠st:=by
  intro e;subst e;obtain⟨zs,g,a,k,b⟩:=wi11;obtain⟨x,y,e⟩:=s11;rw[g]at e;have:zs.length=2:=by have:=congrArg jm (cg e);simpa using this
  omega
 obtain⟨r12,H12,q12,t12,f12,s12⟩:=tk (mm:=mC (.int 10)) s11 (ρ:=[some (.ref st),some (.str (S l)),some (.int at_),some (.str z1),some (.str z4),some (.str z5),some (.str z6),some (.ref w),some (.int r8),some (.int r9),some (.str z10),some (.ref i11),some (.ref i10)]) rfl rfl (by decide) (by decide);obtain⟨zs,g,a,k,b⟩:=wi11.fr f12 (by simpa using hi);have hr:r12<(zs.map Dv.str).length:=by simp;omega
 have x12:=gS g hr;rw[List.getElem_map]at x12;have fall:Fr [st] H H12:=(((((f1.trans f3 (by simp)).trans f5 (by simp)).trans f6 (by simp)).trans f7 (by simp)).trans fa (by simp)).trans f12 (by simp);have hr':r12<zs.length:=by simpa using hr
 refine⟨zs[r12],H12, ?_,b _ (dj hr'),s12,fall⟩;show bL (DH [some (.ref st),some (.str (S l)),none,none,none,none,none,none,none,none,none,none,none] H)=_;rw[z37,<-hz1,aY w1,aY w2,aY w3,aY w4,aY w5,aY w6,aY w7];rw[aY w8,aY w9,aY w10,aY w11];have e12:=dW (ma:=aA 11) (f:=aN) (ρ:=[some (.ref st),some (.str (S l)),some (.int at_),some (.str z1),some (.str z4),some (.str z5),some (.str z6),some (.ref w),some (.int r8),some (.int r9),some (.str z10),some (.ref i11),some (.ref i10)]) rfl t12 x12;show bL (aL (m2 aN (aA 11) (aD F_qs (aB (aA 0) (aB (mC (.int 10)) aC)))) [some (.ref st),some (.str (S l)),some (.int at_),some (.str z1),some (.str z4),some (.str z5),some (.str z6),some (.ref w),some (.int r8),some (.int r9),some (.str z10),some (.ref i11),some (.ref i10)] H11)=_;unfold aL;rw[e12];rfl
end
open L2.Mr.Cod (dC iR gS)
theorem c6:("123456" : Str).cps.toList=[49,50,51,52,53,54]:=by decide +kernel
theorem c5:("012345" : Str).cps.toList=[48,49,50,51,52,53]:=by decide +kernel
theorem z3a {k:Nat}(h:k<10):intText? (S [48+k])=some (k:Int):=by
 have h':∀k:Fin 10,intText? (S [48+k.val])=some (k.val:Int):=by decide +kernel
 exact h' ⟨k,h⟩
section
variable{H:Hs}{ρ:Ev}{me mc:M Dv}{w:List Nat}{c:Nat}
theorem pM (i:Nat) {z:Int}(e:me ρ H=.ok (.str (S w)) H) (hi:w[i]?=some c) (hl:w.length<=1000) (hz:z=i:=by rfl):m2 bT me (mC (.int z)) ρ H=.ok (.str (S [c])) H:=by subst hz;exact dW e (mb:=mC (.int (i:Int))) rfl (zL hi hl)
theorem FC {z:Str}(e:mc ρ H=.ok (.str (S [c])) H):mB (m2 (mD true) mc (mC (.str z))) ρ H=.ok (!decide (c∈z.cps.toList)) H:=by
 have h1:mD true (.str (S [c])) (.str z) H=.ok (.bl (!decide (c∈z.cps.toList))) H:=by have:=empty_one z c;show Rs.ok (Dv.bl (if true then !(!(jr z ⟨#[c]⟩ 0 z.length 1).isEmpty)else _)) H=_;rw[this];simp
 unfold mB;rw[dW e (mb:=mC (.str z)) rfl h1];rfl
theorem OC {z:Str}{d:Nat}(e:mc ρ H=.ok (.str (S [c])) H) (hz:z=S [d]):mB (m2 bC mc (mC (.str z))) ρ H=.ok (!decide (c=d)) H:=by
 have hb:(S [c]==S [d])=decide (c=d):=by
  rw[dw,beq_iff_eq,decide_eq_true_eq];constructor
  ·intro h;have:[c].toArray=[d].toArray:=congrArg Str.cps h;simpa using this
  ·rintro rfl;rfl
 have h1:bC (.str (S [c])) (.str z) H=.ok (.bl (!decide (c=d))) H:=by rw[hz];simp[bC,bR,bM,bH,hb]
 unfold mB;rw[dW e (mb:=mC (.str z)) rfl h1];rfl
theorem OD (k:Nat) {z:Int}(e:me ρ H=.ok (.str (S w)) H) (hl:w.length<=1000) (hz:z=k:=by rfl):mB (m2 bC (aD (f1 fF) (aB me aC)) (mC (.int z))) ρ H=.ok (!decide (w.length=k)) H:=by
 subst hz;have h3:(S w).length<=1000000:=by rw[gC];omega
 have hs:fF (.str (S w)) H=.ok (.int w.length) H:=by simp only[fF,lim,h3,if_true];rw[gC]
 have a:aD (f1 fF) (aB me aC) ρ H=.ok (.int w.length) H:=by simp[aD,aB,e,aC,f1,hs]
 have hb:((w.length:Int)==(k:Int))=decide (w.length=k):=by rw[dw,beq_iff_eq,decide_eq_true_eq];omega
 have h1:bC (.int w.length) (.int k) H=.ok (.bl (!decide (w.length=k))) H:=by simp[bC,bR,bM,bH,hb]
 unfold mB;rw[dW a (mb:=mC (.int (k:Int))) rfl h1];rfl
theorem FD {k:Nat}(e:mc ρ H=.ok (.str (S [48+k])) H) (h:k<10):aD (f1 gO) (aB mc aC) ρ H=.ok (.int k) H:=by
 have hl:(S [48+k]).length<=640:=by rw[gC];simp
 have:gO (.str (S [48+k])) H=.ok (.int k) H:=by simp only[gO,z3a h,hl,if_true]
 simp[aD,aB,e,aC,f1,this]
end
def pw:List Nat->Option (Int×Int)
 | [a,c,b]=>if(48<=a/\a<=53)/\c=60/\48<=b/\b<=53 then some (((a - 48:Nat):Int),((b - 48:Nat):Int))else none
 |_=>none
theorem z3b {c:Nat}:decide (c∈("012345" : Str).cps.toList)=decide (48<=c/\c<=53):=by rw[c5,dw];simp only[ay,ie,or_false,decide_eq_true_eq];omega
theorem z3c {c:Nat}:decide (c∈("123456" : Str).cps.toList)=decide (49<=c/\c<=54):=by rw[c6,dw];simp only[ay,ie,or_false,decide_eq_true_eq];omega
abbrev wT:M Bool:=bF (mB (m2 bC (aD (f1 fF) (aB (aA 3) aC)) (mC (.int 3)))) (bF (mB (m2 (mD true) (m2 bT (aA 3) (mC (.int 0))) (mC (.str "012345")))) (bF (mB (m2 bC (m2 bT (aA 3) (mC (.int 1))) (mC (.str "<")))) (mB (m2 (mD true) (m2 bT (aA 3) (mC (.int 2))) (mC (.str "012345"))))))
abbrev wA:M Dv:=cC (aB (aD (f1 gO) (aB (m2 bT (aA 3) (mC (.int 0))) aC)) (aB (aD (f1 gO) (aB (m2 bT (aA 3) (mC (.int 2))) aC)) aC))
abbrev wB:MS:=aJ (aR wT (aL (mC .non)) aX) (fU (kR (aA 2) wA))
abbrev hT:M Bool:=bF (mB (m2 bC (aD (f1 fF) (aB (m2 aN (aA 1) (mC (.int 0))) aC)) (mC (.int 2)))) (bF (mB (m2 (mD true) (m2 bT (m2 aN (aA 1) (mC (.int 0))) (mC (.int 0))) (mC (.str "123456")))) (mB (m2 bC (m2 bT (m2 aN (aA 1) (mC (.int 0))) (mC (.int 1))) (mC (.str ":")))))
abbrev oA:M Dv:=cC (aB (aD (f1 gO) (aB (m2 bT (m2 aN (aA 1) (mC (.int 0))) (mC (.int 0))) aC)) (aB (aD (f1 iH) (aB (aA 2) aC)) aC))
abbrev oR:MS:=aL (qI (aT (aD F_qb (aB (aA 4) aC))) (aA 4) (mC .non))
theorem FE:DG=aJ (aK (cI lE (aA 0) (mC (.str " "))) (aF 1)) (aJ (aR hT (aL (mC .non)) aX) (aJ (aK (aV aC) (aF 2)) (aJ (eS (bQ eE (dP (aA 1) (bY (mC (.int 1))) cE)) (aF 3) wB) (aJ (aK oA (aF 4)) oR)))):=rfl
section
variable{H:Hs}{ρ:Ev}{w:List Nat}
theorem OE (e:∀H,aA 3 ρ H=.ok (.str (S w)) H) (hl:w.length<=1000):wT ρ H=.ok (pw w).isNone H:=by
 have t0:=OD 3 (z:=3) (e H) hl
 by_cases h3:w.length=3
 ·match w,h3 with
  | [a,c,b],_=>
   have t1:=FC (z := "012345") (pM 0 (z:=0) (e H) (c:=a) rfl hl);have t2:=OC (z := "<") (d:=60) (pM 1 (z:=1) (e H) (c:=c) rfl hl) EW;have t3:=FC (z := "012345") (pM 2 (z:=2) (e H) (c:=b) rfl hl);rw[z3b]at t1 t3;refine(nU (t0.trans (by simp;rfl))).trans ?_
   by_cases ha:48<=a/\a<=53
   ·refine(nU (t1.trans (by simp[ha];rfl))).trans ?_
    by_cases hc:c=60
    ·refine(nU (t2.trans (by simp[hc];rfl))).trans ?_;refine t3.trans ?_
     by_cases hb:48<=b/\b<=53
     ·simp[pw,ha,hc,hb]
     ·simp[pw,hc,hb]
    ·refine(qN (t2.trans (by simp[hc];rfl))).trans ?_;simp[pw,hc]
   ·refine(qN (t1.trans (by simp[ha];rfl))).trans ?_;simp[pw,ha]
 ·refine(qN (t0.trans (by simp[h3];rfl))).trans ?_;have:pw w=none:=by
   unfold pw
   split
   ·simp at h3
   ·rfl
  rw[this];rfl
theorem OF {q:Int×Int}(h:pw w=some q):∃a b:Nat,w=[48+a,60,48+b]/\a<6/\b<6/\q=((a:Int),(b:Int)):=by
 unfold pw at h
 split at h
 ·rename_i a c b
  split at h
  ·rename_i hc;obtain⟨h1,rfl,h3⟩:=hc;refine⟨a - 48,b - 48, ?_,by omega,by omega,(cg h).symm⟩;have e1:48+(a - 48)=a:=by omega
   have e2:48+(b - 48)=b:=by omega
   rw[e1,e2]
  ·cases h
 ·cases h
theorem z3d {q:Int×Int}(h:0<=q.1/\q.1<6/\0<=q.2/\q.2<6):pw (bV q)=some q:=by
 obtain⟨a,b⟩:=q;simp only at h;have hp:pw [48+a.toNat,60,48+b.toNat]=if(48<=48+a.toNat/\48+a.toNat<=53)/\60=60/\48<=48+b.toNat/\48+b.toNat<=53 then some (((48+a.toNat - 48:Nat):Int),((48+b.toNat - 48:Nat):Int))else none:=rfl
 show pw [48+a.toNat,60,48+b.toNat]=_;rw[hp,if_pos ⟨by omega,rfl,by omega⟩];have e1:((48+a.toNat - 48:Nat):Int)=a:=by omega
 have e2:((48+b.toNat - 48:Nat):Int)=b:=by omega
 rw[e1,e2]
theorem z3e {q:Int×Int}(h:pw w=some q):w=bV q/\0<=q.1/\q.1<6/\0<=q.2/\q.2<6:=by obtain⟨a,b,rfl,h1,h2,rfl⟩:=OF h;exact⟨by simp[bV],by dsimp only;omega⟩
theorem z3f {x0 x1 x2 x4:Option Dv}(hl:w.length<=1000) (h:pw w=none):wB [x0,x1,x2,some (.str (S w)),x4] H=.rt .non H:=by have t:=OE (H:=H) (ρ:=[x0,x1,x2,some (.str (S w)),x4]) (w:=w) (λ_=>rfl) hl;rw[h]at t;show aJ (aR wT (aL (mC .non)) aX) _ _ _=_;unfold aJ;rw[nK t];rfl
theorem z3g {o m:M Dv}{p:Nat}{xs:List Dv}{d:Dv}(eo:o ρ H=.ok (.ref p) H) (em:m ρ H=.ok d H) (g:getL H p=some xs) (hl:xs.length<1000000):fU (kR o m) ρ H=.nx ρ (H.set p (.lst (xs++[d]))):=by simp[fU,kR,eo,jH,g,em,pY,hl]
theorem z3h {x0 x1 x4:Option Dv}{p:Nat}{xs:List Dv}{q:Int×Int}(hl:w.length<=1000) (h:pw w=some q) (g:getL H p=some xs) (hx:xs.length<1000):wB [x0,x1,some (.ref p),some (.str (S w)),x4] H=.nx [x0,x1,some (.ref p),some (.str (S w)),x4] (H.set p (.lst (xs++[aG q]))):=by
 have t:=OE (H:=H) (ρ:=[x0,x1,some (.ref p),some (.str (S w)),x4]) (w:=w) (λ_=>rfl) hl;rw[h]at t;obtain⟨a,b,rfl,ha,hb,rfl⟩:=OF h;have i1:=FD (k:=a) (pM (me:=aA 3) (ρ:=[x0,x1,some (.ref p),some (.str (S [48+a,60,48+b])),x4]) (H:=H) 0 (z:=0) (c:=48+a) rfl rfl hl) (by omega);have i2:=FD (k:=b) (pM (me:=aA 3) (ρ:=[x0,x1,some (.ref p),some (.str (S [48+a,60,48+b])),x4]) (H:=H) 2 (z:=2) (c:=48+b) rfl rfl hl) (by omega);have i3:wA [x0,x1,some (.ref p),some (.str (S [48+a,60,48+b])),x4] H=.ok (aG ((a:Int),(b:Int))) H:=by show cC (aB (aD (f1 gO) (aB (m2 bT (aA 3) (mC (.int 0))) aC)) (aB (aD (f1 gO) (aB (m2 bT (aA 3) (mC (.int 2))) aC)) aC)) _ _=_;generalize aD (f1 gO) (aB (m2 bT (aA 3) (mC (.int 0))) aC)=M1 at i1;generalize aD (f1 gO) (aB (m2 bT (aA 3) (mC (.int 2))) aC)=M2 at i2;simp[cC,aB,i1,i2,aC,lim,aG]
 show aJ (aR wT (aL (mC .non)) aX) _ _ _=_;rw[aY (show aR wT (aL (mC .non)) aX _ H=.nx _ H from(kZ t).trans rfl)];exact z3g (o:=aA 2) rfl i3 g (by omega)
theorem z3i {src:Src}{sg:cU}{b:MS}{f k:Nat}{ρ ρ1:Ev}{H H2:Hs}{d v:Dv}(hg:src.get k H=some d) (hs:sg d ρ=some ρ1) (hb:b ρ1 H=.rt v H2):eR src sg b (f+1) k ρ H=.rt v H2:=by simp[eR,hg,hs,hb]
theorem OG {ws:List (List Nat)}{j p:Nat}{x0 x1 x4:Option Dv}(hjp:j≠p) (hw:∀w∈ws,w.length<=1000) (hn:ws.length<=500):∀(f k:Nat) (x3:Option Dv) (H:Hs) (xs:List Dv),f+k=ws.length->getL H j=some (ws.map λw=>Dv.str (S w))->getL H p=some xs->xs.length=k->
  (∃qs x3' H',bI pw (ws.drop k)=some qs/\eR (eW j ws.length) (aF 3) wB f k [x0,x1,some (.ref p),x3,x4] H=.nx [x0,x1,some (.ref p),x3',x4] H'/\getL H' p=some (xs++qs.map aG)/\Fr [p] H H') ∨
  (∃H',bI pw (ws.drop k)=none/\eR (eW j ws.length) (aF 3) wB f k [x0,x1,some (.ref p),x3,x4] H=.rt .non H'/\Fr [p] H H')
 |0,k,x3,H,xs,hk,gj,gp,hx=>by have:ws.drop k=[]:=sh (by omega);refine .inl ⟨[],x3,H,by rw[this];rfl, ?_,by simpa using gp,Fr.refl⟩;have fin:=ED (f:=λw=>Dv.str (S w)) gj;simp[eR,fin]
 |f+1,k,x3,H,xs,hk,gj,gp,hx=>by
  have hk':k<ws.length:=by omega
  have hd:ws.drop k=ws[k]::ws.drop (k+1):=qf hk';have get:=EC (f:=λw=>Dv.str (S w)) gj hk';have hl:=hw ws[k] (dj hk')
  cases q:pw ws[k]with
  |none=>refine .inr ⟨H,by rw[hd];simp[bI,q],z3i get rfl (z3f hl q),Fr.refl⟩
  |some q'=>
   have st:=z3h (x0:=x0) (x1:=x1) (x4:=x4) hl q gp (by omega);have ih:=OG (x0:=x0) (x1:=x1) (x4:=x4) hjp hw hn f (k+1) (some (.str (S ws[k]))) (H.set p (.lst (xs++[aG q']))) (xs++[aG q']) (by omega) (by rw[rF (de hjp)];exact gj) (oX gp) (by simp[hx]);have stp:=xA (f:=f) (sg:=aF 3) (ρ:=[x0,x1,some (.ref p),x3,x4]) get rfl st
   rcases ih with⟨qs,x3',H',e1,e2,e3,e4⟩|⟨H',e1,e2,e4⟩
   ·refine .inl ⟨q'::qs,x3',H',by rw[hd];simp[bI,q,e1],stp.trans e2, ?_,Fr.set.trans e4 (by simp)⟩;rw[e3];simp
   ·exact .inr ⟨H',by rw[hd];simp[bI,q,e1],stp.trans e2,Fr.set.trans e4 (by simp)⟩
def pN:List Nat->Bool
 | [a,b]=>decide (49<=a/\a<=54)&&decide (b=58)
 |_=>false
theorem z3j (e1:m2 aN (aA 1) (mC (.int 0)) ρ H=.ok (.str (S w)) H) (hl:w.length<=1000):hT ρ H=.ok (!pN w) H:=by
 have t0:=OD 2 (z:=2) e1 hl
 by_cases h2:w.length=2
 ·match w,h2 with
  | [a,b],_=>
   have t1:=FC (z := "123456") (pM 0 (z:=0) e1 (c:=a) rfl hl);have t2:=OC (z := ":") (d:=58) (pM 1 (z:=1) e1 (c:=b) rfl hl) EV;rw[z3c]at t1;refine(nU (t0.trans (by simp;rfl))).trans ?_
   by_cases ha:49<=a/\a<=54
   ·refine(nU (t1.trans (by simp[ha];rfl))).trans ?_;refine t2.trans ?_;simp[pN,ha]
   ·refine(qN (t1.trans (by simp[ha];rfl))).trans ?_;simp[pN,ha]
 ·refine(qN (t0.trans (by simp[h2];rfl))).trans ?_;have:pN w=false:=by
   unfold pN
   split
   ·simp at h2
   ·rfl
  rw[this];rfl
theorem OH:∀{ws:List (List Nat)}{qs:List (Int×Int)},bI pw ws=some qs->ws=qs.map bV/\∀q∈qs,0<=q.1/\q.1<6/\0<=q.2/\q.2<6
 | [],qs,h=>by cases h;exact⟨rfl,by simp⟩
 |w::ws,qs,h=>by
  unfold bI at h
  cases q:pw w with
  |none=>rw[q]at h;cases h
  |some q'=>
   rw[q]at h
   cases r:bI pw ws with
   |none=>rw[r]at h;cases h
   |some rs=>
    rw[r]at h;cases h;obtain⟨e,b⟩:=OH r;obtain⟨e1,b1⟩:=z3e q;refine⟨by rw[e,e1];rfl,λz hz=>?_⟩
    rcases ay.mp hz with rfl|hz
    ·exact b1
    ·exact b z hz
theorem FF:∀{qs:List (Int×Int)},(∀q∈qs,0<=q.1/\q.1<6/\0<=q.2/\q.2<6)->bI pw (qs.map bV)=some qs
 | [],_=>rfl
 |q::qs,h=>by have ih:=FF (qs:=qs) λz hz=>h z (aq _ hz);simp[bI,z3d (h q (ax ..)),ih]
end
open L2.Mr.Cod (dC iR gS)
theorem z3k:F_qb=K01.F_qb:=rfl
section
variable{H:Hs}{l:List Nat}
theorem z3l {n:Int}{ps:List (Int×Int)}(hl:ps.length<=500):fR (.tup [.int n,.tup (ps.map aG)])=jC n ps:=by
 have t:TK 3 [] (.tup [.int n,.tup (ps.map aG)]):=by
  refine TK.tup (by simp) λx hx=>?_;simp only[ay,ie,or_false]at hx
  rcases hx with rfl|rfl
  ·exact TK.of trivial (λ_ z=>by cases z)
  ·refine TK.tup (by simpa using hl) λy hy=>?_;obtain⟨q,_,rfl⟩:=cb.mp hy;refine TK.tup (by simp[aG]) λz hz=>?_;simp only[ay,ie,or_false]at hz
   rcases hz with rfl|rfl <;> exact trivial
 have a:=z1x t;have b:=yW (H:=[]) (n:=n) (ps:=ps) (by omega);rw[a]at b;injection b with b1 b2;injection b1
theorem z3m {n:Int}{ps:List (Int×Int)}(hl:ps.length<=500):TK 3 H (.tup [.int n,.tup (ps.map aG)]):=by
  refine TK.tup (by simp) λx hx=>?_;simp only[ay,ie,or_false]at hx
  rcases hx with rfl|rfl
  ·exact TK.of trivial (λ_ z=>by cases z)
  ·refine TK.tup (by simpa using hl) λy hy=>?_;obtain⟨q,_,rfl⟩:=cb.mp hy;refine TK.tup (by simp[aG]) λz hz=>?_;simp only[ay,ie,or_false]at hz
   rcases hz with rfl|rfl <;> exact trivial
theorem z3n {t:M Bool}{ma mb:M Dv}{ρ:Ev}{H H1:Hs}(e:t ρ H=.ok true H1):qI t ma mb ρ H=ma ρ H1:=by unfold qI;rw[e];rfl
theorem z3o {t:M Bool}{ma mb:M Dv}{ρ:Ev}{H H1:Hs}(e:t ρ H=.ok false H1):qI t ma mb ρ H=mb ρ H1:=by unfold qI;rw[e];rfl
theorem z3p {F:List Dv->Hs->Rs Dv}{x:Nat}{d:Dv}{b:Bool}{ρ:Ev}{H H1:Hs}(h:aA x ρ H=.ok d H) (e:F [d] H=.ok (.bl b) H1):aT (aD F (aB (aA x) aC)) ρ H=.ok b H1:=by simp[aT,aD,aB,h,aC,e,cN]
theorem z3q (hl:l.length<=80):∃H',Fr [] H H'/\((∃n ps,OrdP n ps/\l=tx n ps/\F_qc [.str (S l)] H=.ok (bS n ps) H')∨((¬ ∃n ps,OrdP n ps/\l=tx n ps)/\F_qc [.str (S l)] H=.ok .non H')):=by
 obtain⟨H1,e1,hH1,wl1,f1⟩:=OA (ρ:=[some (.str (S l)),none,none,none,none]) (H:=H) hl;have g1:getL H1 H.length=some ((sp l).map λw=>Dv.str (S w)):=by rw[hH1];exact dC
 have w1:aK (cI lE (aA 0) (mC (.str " "))) (aF 1) [some (.str (S l)),none,none,none,none] H=.nx [some (.str (S l)),some (.ref H.length),none,none,none] H1:=gU (v:=.ref H.length) e1 rfl;have hwl:∀w∈sp l,w.length<=80:=λw hw=>by have:=E9 hw;rw[zP]at this;omega
 have hnum:(sp l).length<=82:=by obtain⟨zs,e,_,k,_⟩:=wl1;rw[g1]at e;have:=congrArg jm (cg e);simp at this;omega
 have open_:∀{r:Rs Dv},bL (DG [some (.str (S l)),none,none,none,none] H)=r->F_qc [.str (S l)] H=r:=λh=>h;obtain⟨w0,wr,hws⟩:∃w0 wr,sp l=w0::wr:=by
  cases h:sp l with
  |nil=>exact absurd h (NZ l)
  |cons a b=>exact⟨a,b,rfl⟩
 have hl0:w0.length<=1000:=by have:=hwl w0 (by rw[hws];simp);omega
 have ex:∀{ρ:Ev}{H2:Hs},aA 1 ρ H2=.ok (.ref H.length) H2->getL H2 H.length=some ((sp l).map λw=>Dv.str (S w))->m2 aN (aA 1) (mC (.int 0)) ρ H2=.ok (.str (S w0)) H2:=λ{ρ H2} hv g=>by
  have:=gS (j:=0) g (by rw[hws];simp);have h2:((sp l).map λw=>Dv.str (S w))[0]'(by rw[hws];simp)=.str (S w0):=by simp[hws]
  rw[h2]at this;exact dW hv (mb:=mC (.int 0)) rfl this
 have t1:=z3j (w:=w0) (ex (ρ:=[some (.str (S l)),some (.ref H.length),none,none,none]) rfl g1) hl0
 cases hb:pN w0 with
 |false=>
  rw[hb]at t1;refine⟨H1,f1,.inr ⟨?_, ?_⟩⟩
  ·rintro ⟨n,ps,o,rfl⟩
   rw[E6 o]at hws;injection hws with a b;have n1:=o.n1;have n6:=o.n6;rw[<-a]at hb;simp[pN]at hb;omega
  ·refine open_ ?_;rw[FE,aY w1];unfold aJ;rw[nK t1];rfl
 |true=>
  rw[hb]at t1;have hn0:∃n:Nat,w0=[48+n,58]/\1<=n/\n<=6:=by
   unfold pN at hb
   split at hb
   ·rename_i a b;simp only[cf,decide_eq_true_eq]at hb;refine⟨a - 48, ?_,by omega,by omega⟩;have:48+(a - 48)=a:=by omega
    rw[this,hb.2]
   ·cases hb
  obtain⟨n,hn0,hn1,hn6⟩:=hn0;have w2:aR hT (aL (mC .non)) aX [some (.str (S l)),some (.ref H.length),none,none,none] H1=.nx [some (.str (S l)),some (.ref H.length),none,none,none] H1:=(kZ t1).trans rfl;have w3:aK (aV aC) (aF 2) [some (.str (S l)),some (.ref H.length),none,none,none] H1=.nx [some (.str (S l)),some (.ref H.length),some (.ref H1.length),none,none] (H1++[.lst []]):=rfl;obtain⟨H3,hH3⟩:∃H3,H3=H1++[Ob.lst []]:=⟨_,rfl⟩
  rw[<-hH3]at w3;have f3:Fr [] H1 H3:=by rw[hH3];exact Fr.app
  have gp3:getL H3 H1.length=some []:=by rw[hH3];exact dC
  have gw3:=f3.getL g1 (by simp);obtain⟨H4,hH4⟩:∃H4,H4=H3++[Ob.lst (wr.map λw=>Dv.str (S w))]:=⟨_,rfl⟩
  have f4:Fr [] H3 H4:=by rw[hH4];exact Fr.app
  have gj4:getL H4 H3.length=some (wr.map λw=>Dv.str (S w)):=by rw[hH4];exact dC
  have sl:dP (aA 1) (bY (mC (.int 1))) cE [some (.str (S l)),some (.ref H.length),some (.ref H1.length),none,none] H3=.ok (.ref H3.length) H4:=by
   show oZ (.ref H.length) (some 1) none H3=_;have hc:jK ((sp l).map λw=>Dv.str (S w)) (some 1) none=wr.map λw=>Dv.str (S w):=by have:=z27 ((sp l).map λw=>Dv.str (S w)) 1;rw[hws]at this ⊢;simpa using this
   simp only[oZ,gw3,hc,hH4]
  have hi:bQ eE (dP (aA 1) (bY (mC (.int 1))) cE) [some (.str (S l)),some (.ref H.length),some (.ref H1.length),none,none] H3=.ok (eW H3.length wr.length) H4:=by
   have ls:eE (.ref H3.length) H4=.ok (eW H3.length wr.length) H4:=by simp[eE,gj4]
   unfold bQ;rw[sl,Rs.bind_ok,ls]
  have hjp:H3.length≠H1.length:=by rw[hH3];simp
  have lp:=OG (ws:=wr) (j:=H3.length) (p:=H1.length) (x0:=some (.str (S l))) (x1:=some (.ref H.length)) (x4:=none) hjp (λw hw=>by have:=hwl w (by rw[hws];exact aq _ hw);omega) (by rw[hws]at hnum;simp at hnum;omega) wr.length 0 none H4 [] (by omega) gj4 (f4.getL gp3 (by simp)) rfl;have hle:H.length<=H1.length:=f1.le;have base:Fr [] H H4:=(f1.trans f3 (by simp)).trans f4 (by simp)
  rcases lp with⟨qs,x3,H5,q1,q2,q3,q4⟩|⟨H5,q1,q2,q4⟩
  ·have fH5:Fr [] H H5:=base.trans q4 (λj hj=>by simp only[ey]at hj;right;omega);rw[pq]at q1;obtain⟨hwr,hrng⟩:=OH q1;rw[List.nil_append]at q3;have hq:qs.length<=82:=by
    have:wr.length=qs.length:=by rw[hwr];simp
    rw[hws]at hnum;simp at hnum;omega
   have gw5:getL H5 H.length=some ((sp l).map λw=>Dv.str (S w)):=q4.getL (f4.getL gw3 (by simp)) (by have:=nJ g1;simp;omega);have w4:=(qF (st:=aF 3) (b:=wB) hi).trans q2;have ci:=pM 0 (z:=0) (ex (ρ:=[some (.str (S l)),some (.ref H.length),some (.ref H1.length),x3,none]) rfl gw5) (c:=48+n) (by rw[hn0];rfl) hl0;have ci2:=FD ci (by omega);have ct:aD (Mr.f1 iH) (aB (aA 2) aC) [some (.str (S l)),some (.ref H.length),some (.ref H1.length),x3,none] H5=.ok (.tup (qs.map aG)) H5:=by simp[aD,aB,aA,aC,Mr.f1,iH,q3]
   have eo:oA [some (.str (S l)),some (.ref H.length),some (.ref H1.length),x3,none] H5=.ok (.tup [.int n,.tup (qs.map aG)]) H5:=by show cC (aB (aD (Mr.f1 gO) (aB (m2 bT (m2 aN (aA 1) (mC (.int 0))) (mC (.int 0))) aC)) (aB (aD (Mr.f1 iH) (aB (aA 2) aC)) aC)) _ _=_;generalize aD (Mr.f1 gO) (aB (m2 bT (m2 aN (aA 1) (mC (.int 0))) (mC (.int 0))) aC)=M1 at ci2;generalize aD (Mr.f1 iH) (aB (aA 2) aC)=M2 at ct;simp[cC,aB,ci2,ct,aC,lim]
   have w5:aK oA (aF 4) [some (.str (S l)),some (.ref H.length),some (.ref H1.length),x3,none] H5=.nx [some (.str (S l)),some (.ref H.length),some (.ref H1.length),x3,some (.tup [.int n,.tup (qs.map aG)])] H5:=gU eo rfl;obtain⟨H6,i6,f6⟩:=z25 (H:=H5) (d:=.tup [.int n,.tup (qs.map aG)]) (z3m (by omega));rw[<-z3k,z3l (by omega)]at i6;have t6:=z3p (F:=F_qb) (x:=4) (ρ:=[some (.str (S l)),some (.ref H.length),some (.ref H1.length),x3,some (.tup [.int n,.tup (qs.map aG)])]) rfl i6;have htx:l=tx n qs:=by rw[<-zP l,hws,hn0,hwr];exact N1 n qs
   have fin:∀{v:Dv},oR [some (.str (S l)),some (.ref H.length),some (.ref H1.length),x3,some (.tup [.int n,.tup (qs.map aG)])] H5=.rt v H6->F_qc [.str (S l)] H=.ok v H6:=λ{v} h=>by refine open_ ?_;rw[FE,aY w1,aY w2,aY w3,aY w4,aY w5,h];rfl
   refine⟨H6,fH5.trans f6 (by simp), ?_⟩
   cases hB:jC n qs with
   |true=>
    rw[hB]at t6;obtain⟨m,hm,o⟩:=NW hB;have hm':n=m:=by omega
    subst hm';refine .inl ⟨n,qs,o,htx,fin ?_⟩;show aL _ _ _=_;unfold aL;rw[z3n t6];rfl
   |false=>
    rw[hB]at t6;refine .inr ⟨?_,fin ?_⟩
    ·rintro ⟨n',ps',o',e'⟩
     have h1:=E6 o';rw[<-e',hws,hn0,hwr]at h1;injection h1 with a b;have hn:n=n':=by injection a with a1 a2;omega
     have o1:=FF (qs:=ps') λq hq=>by have:=o'.rng q hq;have:=o'.n6;omega
     rw[<-b,<-hwr,q1]at o1;have:qs=ps':=cg o1;rw[this,hn]at hB;rw[o'.b]at hB;cases hB
    ·show aL _ _ _=_;unfold aL;rw[z3o t6];rfl
  ·have fH5:Fr [] H H5:=base.trans q4 (λj hj=>by simp only[ey]at hj;right;omega);rw[pq]at q1;have w4:=(qF (st:=aF 3) (b:=wB) hi).trans q2;refine⟨H5,fH5,.inr ⟨?_, ?_⟩⟩
   ·rintro ⟨n',ps',o',e'⟩
    have h1:=E6 o';rw[<-e',hws]at h1;injection h1 with a b;have o1:=FF (qs:=ps') λq hq=>by have:=o'.rng q hq;have:=o'.n6;omega
    rw[<-b,q1]at o1;cases o1
   ·refine open_ ?_;rw[FE,aY w1,aY w2,aY w3];unfold aJ;rw[w4];rfl
end
open L2.Mr.Cod (dC iR gS ET zF NI)
section
variable{n st:Nat}{ps:List (Int×Int)}{H:Hs}{ρ:Ev}
theorem z3r (hl:ps.length<=900):F_qr 6 [bS n ps,bS n ps] H=.ok (.bl true) H:=by
 refine zF (n:=5) (xs:=[.int n,.tup (ps.map aG)]) (by simp) λx hx=>?_;simp only[ay,ie,or_false]at hx
 rcases hx with rfl|rfl
 ·exact ET
 ·refine zF (n:=4) (by simpa using(by omega:ps.length<=1000)) λy hy=>?_;obtain⟨q,_,rfl⟩:=cb.mp hy;exact NI (n:=2) (xs:=[q.1,q.2]) (by simp)
theorem OI {F:List Dv->Hs->Rs Dv}{d:Dv}{c:Nat}{H':Hs}(e:F [d] H=.ex c H'):aD F (aB (aA 0) aC) ([d].map some) H=.ex c H':=by simp[aD,aB,aA,aC,e]
theorem z3s (o:OrdP n ps):ps.length<=15:=by
 have h15:((uO 6).filter λp=>decide (p.1<p.2)).length=15:=by decide +kernel
 let f:Int×Int->Int×Int:=λp=>if p.1<p.2 then p else(p.2,p.1)
 have nd:ps.Nodup:=rG stoP o.rise;have nd2:(ps.map f).Nodup:=by
  refine ql.mpr (ou (λ{a b} ha hb hne=>?_) nd);intro e;have hs:a=b∨(a.2,a.1)=b:=by
   obtain⟨a1,a2⟩:=a;obtain⟨b1,b2⟩:=b;simp only[f]at e
   split at e <;> split at e <;> simp_all <;> omega
  rcases hs with h|h
  ·exact hne h
  ·have t:=o.tr a ha b hb (by rw[<-h]);rw[<-h]at t;exact o.irr _ t rfl
 have hsub:∀p∈ps.map f,p∈(uO 6).filter λp=>decide (p.1<p.2):=λp hp=>by
  obtain⟨q,hq,rfl⟩:=cb.mp hp;have r:=o.rng q hq;have i:=o.irr q hq;have n6:=o.n6;refine lg.mpr ⟨MX ?_, ?_⟩
  ·simp only[f];split <;> omega
  ·simp only[f,decide_eq_true_eq];split <;> omega
 have:=nd2.length_le_of_subset hsub;rw[h15]at this;simpa using this
theorem z3t (z:Str):(kz z none (some 80)).length<=80:=by
 have h:=slice_to_min_closes (x:=z) (n:=80) (m:=if(z.length:Int)<80 then(z.length:Int)else 80) (by decide) rfl;rw[beq_iff_eq]at h;rw[h];show(List.toArray _).size<=80;rw[au,iq]
 split <;> omega
def iI:MS:=aR (mB (m2 (qB false) (aA 6) (mC .non))) (aR (mB (m2 bC (lR [4] 4 11 kD yB) (aV (aB (mC (.int 8)) aC)))) (aL (mC (.bl false))) aX) (aR (bE (aT (aD (F_qr 6) (aB (aD F_qp (aB (aA 4) aC)) (aB (aA 6) aC))))) (aL (mC (.bl false))) aX)
def iX:M Dv:=fW (aD F_qq (aB (aA 2) (aB (aA 4) aC))) cE (bY (mC (.int 80)))
def iT:MS:=aJ (aK (aD F_qc (aB (aA 4) aC)) (aF 6)) (aJ iI (aK iX (aF 4)))
theorem OJ {l:List Nat}{ρ:Ev}(h2:aA 2 ρ=λH=>.ok (.ref st) H) (h4:aA 4 ρ=λH=>.ok (.str (S l)) H) (hl:l.length<=80) (s:Com.St st H):∃(l':List Nat) (H':Hs),iX ρ H=.ok (.str (S l')) H'/\l'.length<=80/\Com.St st H':=by obtain⟨z,H1,e1,l1,s1,f1⟩:=z39 hl s;have c:=z3t z;have e2:aD F_qq (aB (aA 2) (aB (aA 4) aC)) ρ H=.ok (.str z) H1:=FA (F:=F_qq) (by rw[h2]) (by rw[h4]) e1;refine⟨(kz z none (some 80)).cps.toList,H1, ?_,by simpa[og]using c,s1⟩;rw[E7];unfold iX fW;rw[e2,Rs.bind_ok];show lim _ _=_;unfold lim;rw[if_pos (by omega)]
theorem z3u {l:List Nat}{x0 x1 x3 x5 x6 x7:Option Dv}(hl:l.length<=80) (s:Com.St st H):∃(l':List Nat) (y6:Option Dv) (H':Hs),iT [x0,x1,some (.ref st),x3,some (.str (S l)),x5,x6,x7] H=.nx [x0,x1,some (.ref st),x3,some (.str (S l')),x5,y6,x7] H'/\l'.length<=80/\Com.St st H':=by
 obtain⟨H1,f1,h1⟩:=z3q (H:=H) hl;have s1:=s.fr f1 (by simp)
 rcases h1 with⟨n,ps,o,htx,e1⟩|⟨hno,e1⟩
 ·have w1:aK (aD F_qc (aB (aA 4) aC)) (aF 6) [x0,x1,some (.ref st),x3,some (.str (S l)),x5,x6,x7] H=.nx [x0,x1,some (.ref st),x3,some (.str (S l)),x5,some (bS n ps),x7] H1:=gU (nV (F:=F_qc) rfl e1) rfl;obtain⟨H2,e2,f2⟩:=z2x (H:=H1) o;rw[<-htx]at e2;have c1:=z28 (S:=F_qr 6) (ma:=aD F_qp (aB (aA 4) aC)) (mb:=aA 6) (ρ:=[x0,x1,some (.ref st),x3,some (.str (S l)),x5,some (bS n ps),x7]) (nV (F:=F_qp) rfl e2) rfl (z3r (by have:=o.len;omega));have w2:iI [x0,x1,some (.ref st),x3,some (.str (S l)),x5,some (bS n ps),x7] H1=.nx [x0,x1,some (.ref st),x3,some (.str (S l)),x5,some (bS n ps),x7] H2:=by have t:mB (m2 (qB false) (aA 6) (mC .non)) [x0,x1,some (.ref st),x3,some (.str (S l)),x5,some (bS n ps),x7] H1=.ok false H1:=rfl;unfold iI;rw[kZ t,c1]
  obtain⟨l',H3,e3,l3,s3⟩:=OJ (ρ:=[x0,x1,some (.ref st),x3,some (.str (S l)),x5,some (bS n ps),x7]) rfl rfl hl (s1.fr f2 (by simp));refine⟨l',some (bS n ps),H3, ?_,l3,s3⟩;unfold iT;rw[aY w1,aY w2];exact gU e3 rfl
 ·have w1:aK (aD F_qc (aB (aA 4) aC)) (aF 6) [x0,x1,some (.ref st),x3,some (.str (S l)),x5,x6,x7] H=.nx [x0,x1,some (.ref st),x3,some (.str (S l)),x5,some .non,x7] H1:=gU (nV (F:=F_qc) rfl e1) rfl;obtain⟨H2,e2,f2⟩:=z30 (H:=H1) (l:=l) (by omega) hno;obtain⟨H3,t3,f3⟩:=NR (c:=8) (.inr rfl) (caps:=[4]) (vs:=[.str (S l)]) (me:=yB) (ρ:=[x0,x1,some (.ref st),x3,some (.str (S l)),x5,some .non,x7]) (H0:=H1) (H:=H2) rfl (OI (F:=F_qp) e2) f2;have w2:iI [x0,x1,some (.ref st),x3,some (.str (S l)),x5,some .non,x7] H1=.nx [x0,x1,some (.ref st),x3,some (.str (S l)),x5,some .non,x7] H3:=by have t:mB (m2 (qB false) (aA 6) (mC .non)) [x0,x1,some (.ref st),x3,some (.str (S l)),x5,some .non,x7] H1=.ok true H1:=rfl;unfold iI;rw[nK t];exact(kZ t3).trans rfl
  obtain⟨l',H4,e4,l4,s4⟩:=OJ (ρ:=[x0,x1,some (.ref st),x3,some (.str (S l)),x5,some .non,x7]) rfl rfl hl (s1.fr f3 (by simp));refine⟨l',some .non,H4, ?_,l4,s4⟩;unfold iT;rw[aY w1,aY w2];exact gU e4 rfl
theorem OK {x0 x1 x3 x7:Option Dv}:∀(f k:Nat) (l:List Nat) (x5 x6:Option Dv) (H:Hs),l.length<=80->Com.St st H->∃(l':List Nat) (y5 y6:Option Dv) (H':Hs),eR (eX 0 4) (aF 5) iT f k [x0,x1,some (.ref st),x3,some (.str (S l)),x5,x6,x7] H=.nx [x0,x1,some (.ref st),x3,some (.str (S l')),y5,y6,x7] H'/\Com.St st H'
 |0,k,l,x5,x6,H,hl,s=>⟨l,x5,x6,H,rfl,s⟩
 |f+1,k,l,x5,x6,H,hl,s=>by obtain⟨l1,y6,H1,e1,l1',s1⟩:=z3u (x0:=x0) (x1:=x1) (x3:=x3) (x5:=some (.int k)) (x6:=x6) (x7:=x7) hl s;obtain⟨l2,z5,z6,H2,e2,s2⟩:=OK f (k+1) l1 (some (.int k)) y6 H1 l1' s1;refine⟨l2,z5,z6,H2, ?_,s2⟩;rw[<-e2];exact xA (d:=.int k) (ρ1:=[x0,x1,some (.ref st),x3,some (.str (S l)),some (.int k),x6,x7]) (by simp[eX]) rfl e1
def oM:M Dv:=m2 aN (aV (aB (mC .non) (aB (mC (.int 7)) (aB (cC (aB (mC (.str "1:")) aC)) (aB (aV (aB (mC (.str "1:")) aC)) (aB (mC (.bl true)) (aB (mC .edc) (aB (cC (aB (mC (.int 1)) (aB (cC aC) aC))) aC)))))))) (aD F_qs (aB (aA 2) (aB (mC (.int 7)) aC)))
def sE (i:Nat):List Dv:=[.non,.int 7,.tup [.str "1:"],.ref i,.bl true,.edc,.tup [.int 1,.tup []]]
def OL:Dv->Bool
 | .str _=>false
 | .exc _=>false
 | .scr=>false
 |_=>true
theorem z3v {d:Dv}(h:OL d=true) (hr:∀i,d=.ref i->∃xs,getL H i=some xs):F_qp [d] H=.ex 8 H:=by
 have ti:m1 (aU lT) (aA 0) [some d,none] H=.ok (.bl false) H:=by
  cases d with
  |ref i=>obtain⟨xs,e⟩:=hr i rfl;simp[m1,aU,aA,iA,e,lT]
  |str _=>cases h
  |exc _=>cases h
  |scr=>cases h
  |_=>rfl
 have a:bE (aT (m1 (aU lT) (aA 0))) [some d,none] H=.ok true H:=by generalize m1 (aU lT) (aA 0)=M at ti;simp[bE,aT,ti,cN]
 show bL (rN [some d,none] H)=_;rw[zN];have t1:lJ [some d,none] H=.ok true H:=by unfold lJ;exact qN a
 have w1:aR lJ (jG 8 (aB (mC (.str "this is no text of an order")) aC)) aX [some d,none] H=.ex 8 H:=(nK t1).trans rfl;unfold aJ;rw[w1];rfl
theorem z3w {ρ:Ev}(h2:aA 2 ρ=λH=>.ok (.ref st) H) (s:Com.St st H):∃(d:Dv) (H':Hs),oM ρ H=.ok d H'/\OL d=true/\(∀i,d=.ref i->∃xs,getL H' i=some xs)/\Com.St st H':=by
 obtain⟨H1,hH1⟩:∃H1,H1=(H++[Ob.lst [.str "1:"]])++[Ob.lst (sE H.length)]:=⟨_,rfl⟩
 have e1:aV (aB (mC .non) (aB (mC (.int 7)) (aB (cC (aB (mC (.str "1:")) aC)) (aB (aV (aB (mC (.str "1:")) aC)) (aB (mC (.bl true)) (aB (mC .edc) (aB (cC (aB (mC (.int 1)) (aB (cC aC) aC))) aC))))))) ρ H=.ok (.ref (H++[Ob.lst [.str "1:"]]).length) H1:=by rw[hH1];rfl
 have f1:Fr [] H H1:=by rw[hH1];exact Fr.trans (T:=[]) Fr.app Fr.app (by simp)
 have g1:getL H1 (H++[Ob.lst [.str "1:"]]).length=some (sE H.length):=by rw[hH1];exact dC
 have g0:getL H1 H.length=some [.str "1:"]:=by rw[hH1];exact kY dC
 have lt:=s.lt;obtain⟨r,H2,r0,r1,t,f,s2⟩:=nS 7 (s.fr f1 (by simp));obtain⟨j,rfl⟩:∃j:Nat,r=j:=⟨r.toNat,by omega⟩
 have e2:aD F_qs (aB (aA 2) (aB (mC (.int 7)) aC)) ρ H1=.ok (.int j) H2:=FA (F:=F_qs) (by rw[h2]) (mb:=mC (.int 7)) rfl t;have g2:=f.getL g1 (by simp;omega);have g3:=f.getL g0 (by simp;omega);have hj:j<(sE H.length).length:=by show j<7;omega
 have x:=gS g2 hj;have hm:=dj hj;generalize (sE H.length)[j]=d at x hm;refine⟨d,H2,dW e1 e2 x, ?_, ?_,s2⟩
 ·simp only[sE,ay,ie,or_false]at hm
  rcases hm with rfl|rfl|rfl|rfl|rfl|rfl|rfl <;> rfl
 ·rintro i rfl
  simp only[sE,ay,ie,or_false]at hm
  rcases hm with h|h|h|h|h|h|h <;> cases h
  exact⟨_,g3⟩
def iB:MS:=aR (mB (m2 bC (lR [7] 4 11 kD yC) (aV (aB (mC (.int 8)) aC)))) (aL (mC (.bl false))) aX
theorem z3x (scr:List Int):yD scr=aJ (aK (aD (F_qj scr) (aB (aA 0) (aB (aA 1) aC))) (aF 2)) (aJ (aK (aD F_qi (aB (aA 2) (aB (mC (.int 6)) aC))) (aF 3)) (aJ (aK E2 (aF 4)) (aJ (eS (aS fK (aB (mC (.int 4)) aC)) (aF 5) iT) (aJ (aK oM (aF 7)) iB)))):=rfl
theorem EG (scr:List Int) (k:Nat) (H:Hs) (x2 x3 x4 x5 x6 x7:Option Dv):∃H' y2 y3 y4 y5 y6 y7,yD scr [some .scr,some (.int k),x2,x3,x4,x5,x6,x7] H=.nx [some .scr,some (.int k),y2,y3,y4,y5,y6,y7] H':=by
 obtain⟨H1,h1,f1',s1⟩:=z17 scr k H;have w1:aK (aD (F_qj scr) (aB (aA 0) (aB (aA 1) aC))) (aF 2) [some .scr,some (.int k),x2,x3,x4,x5,x6,x7] H=.nx [some .scr,some (.int k),some (.ref H.length),x3,x4,x5,x6,x7] H1:=by simp[aK,aD,aB,aA,aC,h1,aF]
 obtain⟨n,cs,H2,h2,o,s2,f2⟩:=mM s1;have w2:aK (aD F_qi (aB (aA 2) (aB (mC (.int 6)) aC))) (aF 3) [some .scr,some (.int k),some (.ref H.length),x3,x4,x5,x6,x7] H1=.nx [some .scr,some (.int k),some (.ref H.length),some (bS n cs),x4,x5,x6,x7] H2:=by simp[aK,aD,aB,aA,mC,aC,h2,aF]
 generalize H.length=st at s1 s2 f2 h2 w1 w2;obtain⟨H3,e3,f3⟩:=z2u (H:=H2) (ρ:=[some .scr,some (.int k),some (.ref st),some (bS n cs),x4,x5,x6,x7]) o rfl;have w3:aK E2 (aF 4) [some .scr,some (.int k),some (.ref st),some (bS n cs),x4,x5,x6,x7] H2=.nx [some .scr,some (.int k),some (.ref st),some (bS n cs),some (.str (S (tx n cs))),x5,x6,x7] H3:=gU e3 rfl;have s3:=s2.fr f3 (by simp);have htl:(tx n cs).length<=80:=by have:=z3s o;rw[uU];omega
 obtain⟨l',y5,y6,H4,e4,s4⟩:=OK (x0:=some .scr) (x1:=some (.int k)) (x3:=some (bS n cs)) (x7:=x7) (eX 0 4).n 0 (tx n cs) x5 x6 H3 htl s3;have w4:eS (aS fK (aB (mC (.int 4)) aC)) (aF 5) iT [some .scr,some (.int k),some (.ref st),some (bS n cs),some (.str (S (tx n cs))),x5,x6,x7] H3=.nx [some .scr,some (.int k),some (.ref st),some (bS n cs),some (.str (S l')),y5,y6,x7] H4:=(qF (src:=eX 0 4) rfl).trans e4;obtain⟨d,H5,e5,nd,hr,s5⟩:=z3w (ρ:=[some .scr,some (.int k),some (.ref st),some (bS n cs),some (.str (S l')),y5,y6,x7]) rfl s4;have w5:aK oM (aF 7) [some .scr,some (.int k),some (.ref st),some (bS n cs),some (.str (S l')),y5,y6,x7] H4=.nx [some .scr,some (.int k),some (.ref st),some (bS n cs),some (.str (S l')),y5,y6,some d] H5:=gU e5 rfl;obtain⟨H6,t6,f6⟩:=NR (c:=8) (.inr rfl) (caps:=[7]) (vs:=[d]) (me:=yC) (ρ:=[some .scr,some (.int k),some (.ref st),some (bS n cs),some (.str (S l')),y5,y6,some d]) (H0:=H5) (H:=H5) rfl (OI (F:=F_qp) (z3v nd hr)) Fr.refl;have w6:iB [some .scr,some (.int k),some (.ref st),some (bS n cs),some (.str (S l')),y5,y6,some d] H5=.nx [some .scr,some (.int k),some (.ref st),some (bS n cs),some (.str (S l')),y5,y6,some d] H6:=(kZ t6:aR _ (aL (mC (.bl false))) aX _ _=_).trans rfl;refine⟨H6,some (.ref st),some (bS n cs),some (.str (S l')),y5,y6,some d, ?_⟩;rw[z3x,aY w1,aY w2,aY w3,aY w4,aY w5,w6]
end
theorem loop (scr:List Int) (m:Int):∀(f k:Nat) (H:Hs) (x1 x2 x3 x4 x5 x6 x7:Option Dv),∃ρ' H',eR (eX 0 m) (aF 1) (yD scr) f k [some .scr,x1,x2,x3,x4,x5,x6,x7] H=.nx ρ' H'
 |0,k,H,x1,x2,x3,x4,x5,x6,x7=>⟨_,H,rfl⟩
 |f+1,k,H,x1,x2,x3,x4,x5,x6,x7=>by obtain⟨H1,y2,y3,y4,y5,y6,y7,h⟩:=EG scr k H x2 x3 x4 x5 x6 x7;obtain⟨ρ',H2,h2⟩:=loop scr m f (k+1) H1 (some (.int k)) y2 y3 y4 y5 y6 y7;refine⟨ρ',H2, ?_⟩;rw[<-h2];exact xA (d:=.int k) (ρ1:=[some .scr,some (.int k),x2,x3,x4,x5,x6,x7]) (by simp[eX]) rfl h
theorem z3y (scr:List Int):∃hh,F_q0 scr [.scr] []=.ok (.bl true) hh:=by
 have hi:∃m:Int,aS fK (aB (aD mY (aB (mC (.int 1)) (aB (aD qW (aB (aD (f1 (iU scr)) (aB (aA 0) aC)) (aB (mC (.int 8)) aC))) aC))) aC) [some .scr,none,none,none,none,none,none,none] []=.ok (eX 0 m) []:=by
  generalize hz:(if(8:Int)<scr.length then(8:Int)else scr.length)=z;have z0:0<=z:=by split at hz <;> omega
  have z1:z<=8:=by split at hz <;> omega
  generalize hm:(if z>(1:Int)then z else 1)=m;have m0:1<=m:=by split at hm <;> omega
  have m1':m<=8:=by split at hm <;> omega
  have hr:nA m=true:=by simp[nA];omega
  refine⟨m, ?_⟩;have e1:qW [.int scr.length,.int 8] []=.ok (.int z) []:=by rw[<-hz];rfl
  have e2:mY [.int 1,.int z] []=.ok (.int m) []:=by rw[<-hm];rfl
  simp[aS,aB,aD,mC,aA,aC,f1,iU,hJ,e1,e2,fK,hr]
 obtain⟨m,hi⟩:=hi;obtain⟨ρ',H',h⟩:=loop scr m (eX 0 m).n 0 [] none none none none none none none;refine⟨H', ?_⟩;show bL (yE scr [some .scr,none,none,none,none,none,none,none] [])=_;unfold yE ME;rw[aY ((qF hi).trans h)];rfl
open PySem.Calls PySem.W
theorem mk_of {l:OpenLaw}{w:cq}{K:Frag}{h:cx}{mg:Str->Option af}{fa:ah}(hob:ob K=obE) (hnt:noTabs K=true) (X:K.In h) (G:h.Ns df mg) (hfa:mg "law" = some (.ref fa)):
  ∃(fd:bu) (c P:ah),(∀(s:ag) (u:af),BindsTo s fd ⟨[u],[]⟩ [("_law_script",u)])/\tabIn K "law" = some (c,P)/\noTabs K=true /\
   ∀(base:cx) (a:ah) (ns:List Int),ns.length<=63->K.In base->base.Ns df mg->CodeHd base c P->nE mg base->Lawful l.prog w K mg base 14 fa fd "_law_script" P a ns:=by
 have hc:obF.all (λf=>f K)=true:=congrArg ed hob;have hf:zW K=zX:=congrArg pj hob;have e:=hfa.symm.trans (mg_of X G (v:=.ref 322) (dB hc 26));cases e;refine(λ(z:∀R:Prop,(_->R)->R)=>z _ id) λR hR=>?_;obtain⟨g0,U0,B0,C0,D0⟩:=dR hf hc 166 DI "is_whole" 165 ["thing"] 0 55 82 λ_ _ _ _ _ _=>iK λ_=>rfl;obtain⟨g1,U1,B1,C1,D1⟩:=dR hf hc 173 DJ "is_between" 172 ["thing","low","high"] 1 56 83 λ_ _ _ _ _ _=>XG λ_ _ _=>rfl;obtain⟨g2,U2,B2,C2,D2⟩:=dR hf hc 178 yF "is_rising" 177 ["parts"] 2 57 84 λ_ _ _ _ _ _=>iK λ_=>rfl;obtain⟨g3,U3,B3,C3,D3⟩:=dR hf hc 185 DK "is_thing" 184 ["many","thing"] 3 58 85 λ_ _ _ _ _ _=>kT λ_ _=>rfl;obtain⟨g4,U4,B4,C4,D4⟩:=dR hf hc 190 yG "are_things" 189 ["many","thing"] 4 59 86 λ_ _ _ _ _ _=>kT λ_ _=>rfl;obtain⟨g5,U5,B5,C5,D5⟩:=dR hf hc 197 DL "is_pair" 196 ["many","thing"] 5 60 87 λ_ _ _ _ _ _=>kT λ_ _=>rfl;obtain⟨g6,U6,B6,C6,D6⟩:=dR hf hc 202 yH "are_pairs" 201 ["many","things"] 6 61 88 λ_ _ _ _ _ _=>kT λ_ _=>rfl;obtain⟨g7,U7,B7,C7,D7⟩:=dR hf hc 207 yI "has_alike" 206 ["pairs"] 7 62 89 λ_ _ _ _ _ _=>iK λ_=>rfl;obtain⟨g8,U8,B8,C8,D8⟩:=dR hf hc 212 yJ "is_complete" 211 ["pairs"] 8 63 90 λ_ _ _ _ _ _=>iK λ_=>rfl;obtain⟨g9,U9,B9,C9,D9⟩:=dR hf hc 219 DM "is_order" 218 ["thing"] 9 64 91 λ_ _ _ _ _ _=>iK λ_=>rfl;obtain⟨g10,U10,B10,C10,D10⟩:=dR hf hc 226 DN "need_order" 225 ["order"] 10 65 92 λ_ _ _ _ _ _=>iK λ_=>rfl;obtain⟨g11,U11,B11,C11,D11⟩:=dR hf hc 231 yK "order_text" 230 ["order"] 11 66 93 λ_ _ _ _ _ _=>iK λ_=>rfl;obtain⟨g12,U12,B12,C12,D12⟩:=dR hf hc 236 yL "written_pairs" 235 ["text"] 12 67 94 λ_ _ _ _ _ _=>iK λ_=>rfl;obtain⟨g13,U13,B13,C13,D13⟩:=dR hf hc 243 DO "read_order" 242 ["text"] 13 68 95 λ_ _ _ _ _ _=>iK λ_=>rfl;obtain⟨g14,U14,B14,C14,D14⟩:=dR hf hc 250 DP "_law_cell_at" 249 ["_law_script","_law_k"] 14 69 96 λ_ _ _ _ _ _=>kT λ_ _=>rfl;obtain⟨g15,U15,B15,C15,D15⟩:=dR hf hc 257 DQ "_law_state" 256 ["_law_script","_law_k"] 15 70 97 λ_ _ _ _ _ _=>kT λ_ _=>rfl;obtain⟨g16,U16,B16,C16,D16⟩:=dR hf hc 264 DR "_law_take" 263 ["_law_state_here","_law_many"] 16 71 98 λ_ _ _ _ _ _=>kT λ_ _=>rfl;obtain⟨g17,U17,B17,C17,D17⟩:=dR hf hc 271 DS "_law_mixed_row" 270 ["_law_state_here","_law_things"] 17 72 99 λ_ _ _ _ _ _=>kT λ_ _=>rfl;obtain⟨g18,U18,B18,C18,D18⟩:=dR hf hc 276 yM "_law_closed" 275 ["_law_pairs"] 18 73 100 λ_ _ _ _ _ _=>iK λ_=>rfl;obtain⟨g19,U19,B19,C19,D19⟩:=dR hf hc 281 uN "_law_order" 280 ["_law_state_here","_law_most"] 19 74 101 λ_ _ _ _ _ _=>kT λ_ _=>rfl;obtain⟨g20,U20,B20,C20,D20⟩:=dR hf hc 288 DT "_law_whole" 287 ["_law_thing"] 20 75 102 λ_ _ _ _ _ _=>iK λ_=>rfl;obtain⟨g21,U21,B21,C21,D21⟩:=dR hf hc 293 yN "_law_is_order" 292 ["_law_thing"] 21 76 103 λ_ _ _ _ _ _=>iK λ_=>rfl;obtain⟨g22,U22,B22,C22,D22⟩:=dR hf hc 298 yO "_law_same" 297 ["_law_found","_law_due"] 22 77 104 λ_ _ _ _ _ _=>kT λ_ _=>rfl;obtain⟨g23,U23,B23,C23,D23⟩:=dR hf hc 303 qJ "_law_refused" 302 ["_law_call"] 23 78 105 λ_ _ _ _ _ _=>iK λ_=>rfl;obtain⟨g24,U24,B24,C24,D24⟩:=dR hf hc 310 DU "_law_order_in" 309 ["_law_text"] 24 79 106 λ_ _ _ _ _ _=>iK λ_=>rfl;obtain⟨g25,U25,B25,C25,D25⟩:=dR hf hc 317 DV "_law_bent" 316 ["_law_state_here","_law_text"] 25 80 107 λ_ _ _ _ _ _=>kT λ_ _=>rfl;obtain⟨g26,U26,B26,C26,D26⟩:=dR hf hc 322 rO "law" 321 ["_law_script"] 26 81 108 λ_ _ _ _ _ _=>iK λ_=>rfl;obtain⟨t_FIGURES,c_FIGURES⟩:=OR (n := "FIGURES") (v := "0123456789") (mP hc 110 rfl);obtain⟨t_MOST_THINGS,c_MOST_THINGS⟩:=OP (n := "MOST_THINGS") (v:=6) (mP hc 109 rfl);have ex_NoOrder:ExK K 37:=⟨dB hc 145,dB hc 146,dB hc 147,dB hc 148,dB hc 149,dB hc 150,FG (mP hc 151 rfl)⟩
 have ex_NoText:ExK K 133:=⟨dB hc 152,dB hc 153,dB hc 154,dB hc 155,dB hc 156,dB hc 157,FG (mP hc 158 rfl)⟩
 refine hR ⟨g26,321,319,λs v=>.of_eq (D26 [v] rfl),dB hc 111,hnt,λbase a ns hlen _ _ hC hB=>⟨?_⟩⟩;obtain⟨hh,hl⟩:=z3y ns;refine⟨{ K:=K,cl:=λc=>match c with|0=>37|1=>49|2=>61|3=>73|4=>85|5=>97|6=>109|7=>121|8=>133|9=>145|10=>157|_=>24,scr:=ns,sa:=a,tab:=some 319,lq:=(("law" : Str) ++ ".<locals>.") ++ "<lambda>" },F_q0 ns,hh,rfl,rfl,rfl,rfl,hl, ?_⟩;refine z0q (A:=⟨166,g0,173,g1,178,g2,185,g3,190,g4,197,g5,202,g6,207,g7,212,g8,219,g9,226,g10,231,g11,236,g12,243,g13,250,g14,257,g15,264,g16,271,g17,276,g18,281,g19,288,g20,293,g21,298,g22,303,g23,310,g24,317,g25,322,g26,37,49,61,73,85,97,109,121,133,145,157,t_MOST_THINGS,t_FIGURES,24,321,319⟩) ?_ hC hB;exact⟨rfl,U0,B0,cF X G hc 0,U1,B1,cF X G hc 1,U2,B2,cF X G hc 2,U3,B3,cF X G hc 3,U4,B4,cF X G hc 4,U5,B5,cF X G hc 5,U6,B6,cF X G hc 6,U7,B7,cF X G hc 7,U8,B8,cF X G hc 8,U9,B9,cF X G hc 9,U10,B10,cF X G hc 10,U11,B11,cF X G hc 11,U12,B12,cF X G hc 12,U13,B13,cF X G hc 13,U14,B14,cF X G hc 14,U15,B15,cF X G hc 15,U16,B16,cF X G hc 16,U17,B17,cF X G hc 17,U18,B18,cF X G hc 18,U19,B19,cF X G hc 19,U20,B20,cF X G hc 20,U21,B21,cF X G hc 21,U22,B22,cF X G hc 22,U23,B23,cF X G hc 23,U24,B24,cF X G hc 24,U25,B25,cF X G hc 25,U26,B26,cF X G hc 26,mg_none_of X G (dB hc 39),mg_none_of X G (dB hc 40),mg_none_of X G (dB hc 41),mg_none_of X G (dB hc 42),mg_none_of X G (dB hc 43),mg_none_of X G (dB hc 44),mg_none_of X G (dB hc 45),mg_none_of X G (dB hc 46),mg_none_of X G (dB hc 47),mg_none_of X G (dB hc 48),mg_none_of X G (dB hc 49),mg_none_of X G (dB hc 50),mg_none_of X G (dB hc 51),mg_none_of X G (dB hc 52),mg_none_of X G (dB hc 53),mg_none_of X G (dB hc 54),mg_of X G c_MOST_THINGS,mg_of X G c_FIGURES,cF X G hc 27,cF X G hc 28,cF X G hc 29,cF X G hc 30,cF X G hc 31,cF X G hc 32,cF X G hc 33,cF X G hc 34,cF X G hc 35,cF X G hc 36,cF X G hc 37,dB hc 27,mP hc 159 rfl,rfl,dB hc 35,mP hc 160 rfl,rfl,eY ⟨dB hc 161,ex_NoOrder⟩ (eY ⟨dB hc 162,ex_NoText⟩ jY),eY ⟨dB hc 123,ex_NoOrder⟩ (eY ⟨dB hc 134,ex_NoText⟩ jY),eY ⟨dB hc 124,ex_NoOrder⟩ (eY ⟨dB hc 135,ex_NoText⟩ jY),eY ⟨dB hc 125,ex_NoOrder⟩ (eY ⟨dB hc 136,ex_NoText⟩ jY),eY ⟨dB hc 126,ex_NoOrder⟩ (eY ⟨dB hc 137,ex_NoText⟩ jY),eY ⟨dB hc 127,ex_NoOrder⟩ (eY ⟨dB hc 138,ex_NoText⟩ jY),eY ⟨dB hc 128,ex_NoOrder⟩ (eY ⟨dB hc 139,ex_NoText⟩ jY),eY ⟨dB hc 129,ex_NoOrder⟩ (eY ⟨dB hc 140,ex_NoText⟩ jY),eY ⟨dB hc 130,ex_NoOrder⟩ (eY ⟨dB hc 141,ex_NoText⟩ jY),eY ⟨dB hc 131,ex_NoOrder⟩ (eY ⟨dB hc 142,ex_NoText⟩ jY),eY ⟨dB hc 132,ex_NoOrder⟩ (eY ⟨dB hc 143,ex_NoText⟩ jY),eY ⟨dB hc 133,ex_NoOrder⟩ (eY ⟨dB hc 144,ex_NoText⟩ jY),cF X G hc 38,dB hc 163,dB hc 164,dB hc 165,kU (dB hc 112) (kU (dB hc 113) (kU (dB hc 114) (kU (dB hc 115) (kU (dB hc 116) (kU (dB hc 117) (kU (dB hc 118) (kU (dB hc 119) (kU (dB hc 120) (kU (dB hc 121) (kU (dB hc 122) XH)))))))))),rfl,rfl,C26⟩
end L2.Mr.K91
open PySem PySem.W PyProof.Rows
set_option maxRecDepth 100000 in
set_option maxHeartbeats 0 in
theorem PySem.Challenge.cw_nearorders_k91_texts_that_write_none_holds : PySem.Challenge.rw_nearorders_k91_texts_that_write_none.Holds := by
  w_on; o_law
  refine holds_open (XP := XL L2.Mr.K91.vw []) (YP := L2.Mr.Ys L2.Mr.K91.ob L2.Mr.K91.obE) L2.Mr.K91.left L2.Mr.ys_of L2.Mr.ys_keeps (fun s e => xl_of s (Bool.and_eq_true_iff.mp e).1) XL.keeps (by rfl) (by rfl) (by rfl) (fun s e => recFacts_of (Bool.and_eq_true_iff.mp e).2) (by rfl) (by first | assumption | decide +kernel) (by decide +kernel) ⟨rfl,rfl,rfl,rfl,rfl,by decide +kernel⟩ ?hw ?hc
  case hw => w_witness2
  case hc => exact L2.Mr.walkK (l := PySem.Challenge.rw_nearorders_k91_texts_that_write_none) (n := 63) (k := 14) (x := "_law_script") rfl (by decide) rfl ⟨rfl,by decide,by decide⟩ rfl (fun K w mg fa h hob hnt X G hmg => L2.Mr.K91.mk_of hob hnt X G hmg)
