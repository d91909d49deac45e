import PyProof.Rows.All
import Wide.All
import OpenK.AllK
import Wide.FinOn
import Lean
import PyProof.EqAt
import PyProof.EqKinds
import PyProof.TupleCall
import PyProof.NeKinds
import PyProof.StationsW
import PyProof.ExcClass3
import PyProof.ExcBaseAll.ValueError
import PyProof.ExcArgsOwn
import KE.KIsAll
import PyProof.ZipIter
import PyProof.RulesAs
import KE.KLam
import PyProof.NsDelKeeps
import PyProof.Rows.Range3
import PyProof.SumWalkG
import PyProof.EnumMake
import PyProof.EnumFor
import PyProof.WalkInts
import PyProof.Rows.SortWalk
import KE.KSortAsk
import PySem.SetOps
import KE.KSortTup
import PyProof.Rows.SetFrom
import PyProof.SetRoads
import PyProof.Rows.CallKwBuiltin
import PySem.Challenge.RW_nearorders_k80_orders_put_together
abbrev wo:=List (Int×Int)
abbrev wt:=List (List Int)
abbrev y':=List Int
abbrev A':=List Nat
abbrev Bh:=List PySem.Str
set_option genSizeOf false
set_option compiler.extract_closed false
noncomputable section
open Array renaming getElem?_eq_some_iff->dy,getElem?_eq_getElem->gq,getElem?_setIfInBounds_self_of_lt->jh,getD->lr,getElem?_toList->mq,length_toList->nq,getElem?_eq_none->ui,perm_iff_toList_perm->yp,getElem?_replicate->ze,mem_toList_iff->Ap,forIn_toList->Be
open Bool renaming and_eq_true->cq,false_eq_true->cy,eq_iff_iff->dk,false_ne_true->ic,not_true->qg,and_false->rj,true_and->wg
open Classical renaming em->sr
open False renaming elim->ik
open ForInStep renaming yield->tj
open Int renaming toNat_natCast->fq,add_comm->xq
open List renaming mem_cons_of_mem->au,size_toArray->ax,mem_cons->az,range->ba,getElem?_eq_some_iff->bf,mem_cons_self->bh,getElem?_eq_getElem->bj,length_map->bo,replicate->bu,length_append->bw,mem_range->bx,mem_map->cf,mem_append->cj,filterMap_cons->ck,mem_append_right->cn,mem_of_getElem?->cx,mem_singleton->cz,map_cons->da,pairwise_cons->de,length_cons->di,getElem_mem->dj,getElem?_map->du,all_eq_true->dv,getElem?_append_left->ey,getElem?_set_self->fe,map_append->fh,getElem?_set_ne->fj,getElem?_append_right->gh,mem_filter->ie,pairwise_iff_getElem->ij,replicate_succ->iq,lookup_cons->iz,mem_append_left->ja,map_map->jf,flatMap_cons->jq,nodup_cons->jr,filterMap_eq_map'->jv,length_take->jx,mem_filterMap->ka,flatten_cons->kh,length_range->ki,take_succ_eq_append_getElem->kj,getElem_of_mem->kr,filter_cons->ku,filter_eq_nil_iff->ly,length_set->mm,perm_ext_iff_of_nodup->ni,map_congr_left->nr,length_filterMap_le->nu,append_nil->nv,length_nil->og,getElem_range->oj,append_assoc->oz,pairwise_lt_range->pb,length_filter_le->pq,length_drop->pw,any_eq_true->pz,not_mem_nil->qc,length->qi,mem_of_mem_drop->qk,forIn_cons->qo,getD->qz,getElem?_zip_eq_some->si,pairwise_map->sv,reverse_cons->sy,getElem?_replicate->ua,getElem?_cons_succ->ub,countP_cons->uc,nodup_range->ud,mem_flatMap->ue,take_of_length_le->um,range_succ->uy,mem_iff_getElem->vh,mem_of_mem_take->vj,forall_mem_cons->vk,forall_mem_nil->vv,map_drop->wj,map_nil->wz,ext_getElem?->xg,nodup_append->xh,eraseIdx_eq_take_drop_succ->xm,of_mem_zip->yf,nodup_iff_pairwise_ne->yu,length_eraseIdx_of_lt->yv,mem_or_eq_of_mem_set->zf,getElem?_take_of_lt->zi,map_take->zl,length_eq_zero_iff->zt,range_succ_eq_map->zw,any_map->Aa,drop_of_length_le->Ac,length_replicate->Ah,length_singleton->Aj,take_append_drop->Ao,getElem?_eq_none->As,getElem?_toArray->Au,pairwise_append->Ay,flatMap_append->Bf,mem_map_of_mem->Bg
open List.Pairwise renaming nil->qj,map->vf,imp_of_mem->wx
open List.Perm renaming refl->uh,swap->xj,append_left->yw
open List.cons renaming injEq->Az
open Nat renaming le_refl->aq,lt_of_lt_of_le->aw,ne_of_lt->bc,le_trans->cp,le_of_lt->gr,zero_le->gv,lt_irrefl->ig,lt_or_ge->ji,ne_of_gt->jw,lt_succ_self->jz,lt_succ_of_lt->km,mul_le_mul->lh,succ_ne_self->qh,succ_mul->qw,le_of_eq->rf,le_add_right->ug,le_succ->vm,min_self->Al,zero_add->Am,lt_asymm->Aq
open Ne renaming symm->dh
open Option renaming isSome_iff_exists->yt,isSome_some->Av
open Option.some renaming inj->cw,injEq->zg
open Prod renaming fst->ff,snd->gu
open PyProof.Rows renaming slot_tuple_getitem->df,callWith_type1->kz,IntsAre->lx,get?_update_seq->nh,AllBare->uj,listUpdate_at->uz,size_push'->vp,tupleItemsOf_->xr,assignInOrder_cons->ya,IsTup->yh,lt_int->yj
open PyProof.Rows.IsTup renaming push->yr
open PySem renaming wpAny_bind->aa,Value->af,Shared->ag,Addr->ah,wpAny_pure->ak,starEach->ay,Program->bp,Expr->bq,FuncData->br,Around->cb,sizeLine->cg,World->cm,Heap->cu,mainGlobals->dg,wpAny_newObj_type->dw,bootBuiltins->dz,wpAny_field->fg,Scope->fi,wpAny_call_entry->fv,mem_of_lookup->fz,wpAny_callSpecial?_slot->gn,Stmt->gw,wpAny_holding->gy,IsTupleKey->gz,SetTable->iw,sizeLine_eq->jd,Arguments->jl,wpAny_setField_rec->jm,Comprehension->jo,wpAny_seqItems->jt,wpAny_setState_of->ju,wpAny_mono->kv,NameKind->md,Builtin->mr,wpAny_passesOwn->my,codeAny_builtin->nc,wpAny_truthy_bool->nj,wpAny_typeOf->oh,wpAny_askSetting->oi,wpAny_execs_nil->ou,wpAny_pyIter_tuple->pd,wpAny_Call_Name_kw->pf,codeAny_mono->qd,IsPair->qf,wpAny_execs_cons->qp,wpAny_forIn_list->qr,wpAny_standAt->qv,codeAny_call_builtin->rh,pushCells_keeps->rz,wpAny_rule->tq,wpAny_pyIter_list->uk,IsPart->uv,wpAny_onRaise->uw,wpAny_comprehension_free->ux,wpAny_newList->vc,call_meets->vn,wpAny_updateSeq_pair->wu,wpAny_runValue->wy,TriplesOk->xc,wpAny_setEntries_of->xk,wpAny_attempt->xu,Result->yb,BindsTo->yi,wpAny_sequenceKey->yk,call->ym,boot_len->yn,wpAny_eqBool_int->yx,PassesOwn->yy,noFill_tuple_add->zb,wpAny_isInstance->zd,Model->zh,wpAny_of_eq->zj,IsZip->zk,wpAny_call->Af,DefRec->Ak,wpAny_setField->An,seq_tuple_add->Bb,evalPart_none->Bc
open PySem.Around renaming under_plainId->kd,frames_deeper->zv
open PySem.Builtin.Frozenset renaming updateFrom->ve
open PySem.Builtin.List renaming listExtendWith->lg,listTooLong->mw,listSameRef->xf,listTouch->xv
open PySem.Builtin.Slice renaming slicePlaces->gg,sliceAdjust->jb,sliceApplied->ll,sliceFields->wk
open PySem.Builtin.SmallTypes renaming nextOf->fw,ownedTupleIsFree->sh,stopIteration->tm
open PySem.Builtin.Tuple renaming tupleExact->gp,tupleItemsOf->we
open PySem.Challenge renaming pw_nearorders_k80_orders_put_together->ae
open PySem.Code renaming quiet_builtin->wm
open PySem.EntryCells renaming newEntry->zc
open PySem.F renaming args_tuple_add_2->rn,entry_tuple_add->sj,plainAttrs_list->sk,slot_tuple_add->tu,args_tuple_getitem_2->xl,entry_tuple_getitem->xw,excBase_ValueError->yd,slot_tuple_index->yo
open PySem.Heap renaming get?_push_of_some->ao,lt_size->av,get?_push_size->bg,size_push->gm,SameBut->je,get?_update_ne->jg,get?_update_other->ow,get?_update_self->ph,ExtBut->Ax
open PySem.Heap.IsSliceOf renaming new->yg
open PySem.Heap.SameBut renaming update->pg,refl->vg
open PySem.IsL renaming update->Ai
open PySem.NameKind renaming free->bz,cell->ed
open PySem.Obj renaming mapSeq->qe,data_mapFields->wq,isFreed_of_fields->Aw
open PySem.PassesOwn renaming leaving->zy
open PySem.SeqAt renaming EqAt->lj,RcAt->uf
open PySem.SetTable renaming insertAt->jk,turns->uq,below->ur,sizeAbove->Ab
open PySem.Shared renaming TypeIs->pj
open PySem.Str renaming ofString->mf
open PySem.Value renaming ref->iu,none->jy,isInt_shape->oq,builtin->vt,type->vz,bool->Ba
open PySem.W renaming Frag->ar,kitOne->dm,CodeHd->jc,kla_obj->jn,subIn->kg,keepIn->kq,envX->om,fnOf->ql,kla_fn->qt,tabObj->qu,excIn->sf,nsIn->tw,methodObj->wc,codeIn->yc,kitCls->ye,cellsFrom_some->yz,hideAll_size->zm,hideAll_none->zq,hideAll_get->zu,of_hideAll->Ae,callWith_K->Ag
open PySem.Walks renaming list->Bd
open PySem.pickOrder renaming go->yq
open Sum renaming inl->vq,inr->xi
set_option Elab.async false
set_option linter.all false
set_option maxRecDepth 100000
set_option maxHeartbeats 4000000
open PySem PySem.Spec PyProof.Rows
namespace L2.Mr
open PySem PySem.Spec PySem.Calls PyProof.Rows PySem.W
def TY(o:Obj):Bool:=match o.cls,o.data with
 |.none,.fields _=>false
 |_,_=>true
def pP(h:cu):List ah->Frag
 |[]=>[]
 |a::as=>match h.get? a with
  |some o=>match TY o with
   |true=>(a,o)::pP h as
   |false=>pP h as
  |none=>pP h as
def vV(h:cu):Frag:=pP h (ba h.objs.size)
theorem yW(h:cu):∀as,(pP h as).In h
 |[],_,_,e=>nomatch e
 |a::as,b,o,e=>by
  unfold pP at e
  split at e
  ·rename_i o' q
   split at e
   ·rw[iz]at e
    cases z:b==a with
    |true=>rw[z]at e;cases e;rw[eq_of_beq z];exact q
    |false=>rw[z]at e;exact yW h as b o e
   ·exact yW h as b o e
  ·exact yW h as b o e
theorem yX(h:cu):∀as,noTabs (pP h as)=true
 |[]=>rfl
 |a::as=>by
  unfold pP
  split
  ·split
   ·rename_i q;show(_&&_)=true;rw[cq];refine⟨?_,yX h as⟩;exact q
   ·exact yX h as
  ·exact yX h as
def cT(K:Frag)(f:ah):Option br:=match K.lookup f with
 |some o=>match o.data with
  |.func fd=>some {fd with kwdefaults:=.none,doc:=.none,pyModule:=.none,annotations:=none,closureTuple:=.none}
  |_=>none
 |none=>none
def TZ{K:Frag}(h:cT K f=some (fnOf n q A B S dV .none .none .none none cd .none)):
  ∃(oc:af)(od:Option ah)(kV dc pm:af)(an:Option ah)(ct:af)(sl:Array (Option af)),K.lookup f=some ⟨oc,od,.func (fnOf n q A B S dV kV dc pm an cd ct),sl⟩:=by
 unfold cT at h
 split at h
 ·rename_i o e
  split at h
  ·rename_i fd q;let⟨oc,od,dt,sl⟩:=o;cases fd;simp only[zg,FuncData.mk.injEq]at h;obtain⟨rfl,rfl,rfl,rfl,rfl,rfl,rfl,rfl,_,_,_,_,rfl,_,rfl⟩:=h;simp only at q;subst q;exact⟨_,_,_,_,_,_,_,_,e⟩
  ·cases h
 ·cases h
def mT{F:List (Frag->Bool)}{K:Frag}(h:F.all (λf=>f K)=true)(i:Nat){f:Frag->Bool}(e:F[i]?=some f):f K=true:=dv.mp h f (cx e)
theorem T1{l m:List (Option br)}(h:l=m)(i:Nat){a b:Option br}(e:l[i]?=some a)(e':m[i]?=some b):a=b:=by subst h;rw[e]at e';exact cw e'
def vW(K:Frag)(q:ah):Bool:=match K.lookup q with
 |some ⟨_,_,.cls _,_⟩=>true
 |_=>false
def DK{K:Frag}(h:vW K q=true):∃lo ld lc ls,K.lookup q=some ⟨lo,ld,.cls lc,ls⟩:=by
 unfold vW at h
 split at h
 ·exact⟨_,_,_,_,by assumption⟩
 ·cases h
def DL(K:Frag)(n:Str)(v:Int):Bool:=match nsIn K dg n with
 |some (some (.int i _))=>i==v
 |_=>false
def T3{K:Frag}{v:Int}(h:DL K n v=true):∃t,nsIn K dg n=some (some (.int v t)):=by
 unfold DL at h
 split at h
 ·rename_i i t e;rw[eq_of_beq h]at e;exact⟨t,e⟩
 ·cases h
theorem DM(p:bp)(w:cm)(N:Nat){α:Type}(f:ag->α):(openEnds treeTable p w N).map f=(((Fast.tw10274390034422433532 Fast.tw14364793385576792824 (opening p) w N (PySem.start (opening p)).1 (PySem.start (opening p)).2).bind (Fast.tw14289696077712309145 p)).bind λs₀=>match s₀.heap.isNs dg&&s₀.gens.size==0 with
 |true=>(Fast.tw14082659384304107361 Fast.tw14364793385576792824 p w s₀.heap.objs.size (s₀.heap.nsMap dg "__annotations__") N s₀ (topStub p)).bind λs₁=>match staticsOk (importedModules p.main.body) s₀.heap s₁.heap&&namesBound p s₁.heap&&gensDone s₁&&laidKept s₀.heap s₁.heap with
   |true=>some s₁
   |false=>none
 |false=>none).map f:=by
 rw[<-Fast.te10274390034422433532,<-Fast.te14364793385576792824,<-Fast.te14289696077712309145,<-Fast.te14082659384304107361];rfl
abbrev DN:List af:=[.type "ValueError",.type "Exception",.type "BaseException",.type "object"]
def T4(s:gw)(cd:ah):Option br:=match s with
 |.FunctionDef n a b _ _ _ sc _ _ _=>some (fnOf n n a b sc .none .none .none .none none (.ref cd) .none)
 |_=>none
def fE(p:bp)(i:Nat)(cd:ah):Option br:=T4 (p.main.body.getD i (.Pass ⟨0,0,0,0⟩)) cd
def nR(K:Frag)(n:Str)(a:ah):Bool:=decide (nsIn K dg n=some (some (.ref a)))
def nN(K:Frag)(n:Str):Bool:=decide (nsIn K dg n=some none)
def sI(K:Frag)(a b:af)(v:Bool):Bool:=decide (subIn K a b=some v)
def kI(K:Frag)(a b:ah)(v:Bool):Bool:=decide (kitOne K (.ref a) (.ref b)=some v)
def dA{F:List (Frag->Bool)}{K:Frag}(h:F.all (λf=>f K)=true)(i:Nat){g:Frag->Prop}[∀K,Decidable (g K)](e:F[i]?=some (λK=>decide (g K))):g K:=of_decide_eq_true (mT h i e)
end L2.Mr
namespace L2.Mr.K80
open PySem PySem.Spec PySem.Calls PySem.W PyProof.Rows
def vw:bp:={ae with main:={ae.main with body:=List.filterMap (λi=>ae.main.body[i]?) [1,2,3,4,5,6,7,8,9,10,11,12,14,15,16,18,19,20,21,22,23,24,25,26,27,29,30,32,33,34,35,36,38,39,40,41,42,43,44,45,46,47,48,49,50,51,52]} }
def Xw:ag->Bool:=λs=>xlAt vw [] s&&recOk (RowW.records (OpenRow.toRowW PySem.Challenge.rw_nearorders_k80_orders_put_together.row)) s
def obF:List (Frag->Bool):=[(nR · "is_whole" 166),(nR · "is_between" 173),(nR · "is_rising" 178),(nR · "is_thing" 185),(nR · "are_things" 190),(nR · "is_pair" 197),(nR · "are_pairs" 202),(nR · "has_alike" 207),(nR · "is_complete" 212),(nR · "is_order" 219),(nR · "need_order" 226),(nR · "need_few" 233),(nR · "is_row" 238),(nR · "need_row" 245),(nR · "need_both" 252),(nR · "pairs_of_both" 257),(nR · "stacked" 262),(nR · "side_by" 269),(nR · "rows_stacked" 274),(nR · "_law_cell_at" 281),(nR · "_law_state" 288),(nR · "_law_take" 295),(nR · "_law_mixed_row" 302),(nR · "_law_closed" 307),(nR · "_law_order" 312),(nR · "_law_some_row" 317),(nR · "_law_bent_row" 324),(nR · "_law_whole" 331),(nR · "_law_is_row" 336),(nR · "_law_bad_order" 343),(nR · "_law_same" 348),(nR · "_law_refused" 353),(nR · "_law_refusals_right" 358),(nR · "law" 363),(nR · "NoOrder" 37),(nR · "NoNumber" 49),(nR · "NoPairs" 61),(nR · "Round" 73),(nR · "NoThing" 85),(nR · "NoRow" 97),(nR · "TooMany" 109),(nR · "TooFew" 121),(nR · "NoText" 133),(nR · "NoLine" 145),(nR · "NoDeed" 157),(nR · "NearError" 24),(nN · "ValueError"),(nN · "all"),(nN · "any"),(nN · "bool"),(nN · "int"),(nN · "isinstance"),(nN · "len"),(nN · "list"),(nN · "max"),(nN · "min"),(nN · "range"),(nN · "set"),(nN · "sorted"),(nN · "tuple"),(nN · "zip"),(codeIn · (.ref 165) "is_whole"),(codeIn · (.ref 172) "is_between"),(codeIn · (.ref 177) "is_rising"),(codeIn · (.ref 184) "is_thing"),(codeIn · (.ref 189) "are_things"),(codeIn · (.ref 196) "is_pair"),(codeIn · (.ref 201) "are_pairs"),(codeIn · (.ref 206) "has_alike"),(codeIn · (.ref 211) "is_complete"),(codeIn · (.ref 218) "is_order"),(codeIn · (.ref 225) "need_order"),(codeIn · (.ref 232) "need_few"),(codeIn · (.ref 237) "is_row"),(codeIn · (.ref 244) "need_row"),(codeIn · (.ref 251) "need_both"),(codeIn · (.ref 256) "pairs_of_both"),(codeIn · (.ref 261) "stacked"),(codeIn · (.ref 268) "side_by"),(codeIn · (.ref 273) "rows_stacked"),(codeIn · (.ref 280) "_law_cell_at"),(codeIn · (.ref 287) "_law_state"),(codeIn · (.ref 294) "_law_take"),(codeIn · (.ref 301) "_law_mixed_row"),(codeIn · (.ref 306) "_law_closed"),(codeIn · (.ref 311) "_law_order"),(codeIn · (.ref 316) "_law_some_row"),(codeIn · (.ref 323) "_law_bent_row"),(codeIn · (.ref 330) "_law_whole"),(codeIn · (.ref 335) "_law_is_row"),(codeIn · (.ref 342) "_law_bad_order"),(codeIn · (.ref 347) "_law_same"),(codeIn · (.ref 352) "_law_refused"),(codeIn · (.ref 357) "_law_refusals_right"),(codeIn · (.ref 362) "law"),(keepIn · (.ref 166)),(keepIn · (.ref 173)),(keepIn · (.ref 178)),(keepIn · (.ref 185)),(keepIn · (.ref 190)),(keepIn · (.ref 197)),(keepIn · (.ref 202)),(keepIn · (.ref 207)),(keepIn · (.ref 212)),(keepIn · (.ref 219)),(keepIn · (.ref 226)),(keepIn · (.ref 233)),(keepIn · (.ref 238)),(keepIn · (.ref 245)),(keepIn · (.ref 252)),(keepIn · (.ref 257)),(keepIn · (.ref 262)),(keepIn · (.ref 269)),(keepIn · (.ref 274)),(keepIn · (.ref 281)),(keepIn · (.ref 288)),(keepIn · (.ref 295)),(keepIn · (.ref 302)),(keepIn · (.ref 307)),(keepIn · (.ref 312)),(keepIn · (.ref 317)),(keepIn · (.ref 324)),(keepIn · (.ref 331)),(keepIn · (.ref 336)),(keepIn · (.ref 343)),(keepIn · (.ref 348)),(keepIn · (.ref 353)),(keepIn · (.ref 358)),(keepIn · (.ref 363)),(DL · "MOST_THINGS" 6),λK=>decide (tabIn K "_law_refusals_right"=some (357,355)),λK=>decide (tabIn K "law"=some (362,360)),(excIn · 37 DN "ValueError.__new__"),(excIn · 97 DN "ValueError.__new__"),(excIn · 109 DN "ValueError.__new__"),(sI · (.ref 37) (.ref 24) true),(sI · (.ref 49) (.ref 24) true),(sI · (.ref 61) (.ref 24) true),(sI · (.ref 73) (.ref 24) true),(sI · (.ref 85) (.ref 24) true),(sI · (.ref 97) (.ref 24) true),(sI · (.ref 109) (.ref 24) true),(sI · (.ref 121) (.ref 24) true),(sI · (.ref 133) (.ref 24) true),(sI · (.ref 145) (.ref 24) true),(sI · (.ref 157) (.ref 24) true),(kI · 37 37 true),(kI · 37 49 false),(kI · 37 61 false),(kI · 37 73 false),(kI · 37 85 false),(kI · 37 97 false),(kI · 37 109 false),(kI · 37 121 false),(kI · 37 133 false),(kI · 37 145 false),(kI · 37 157 false),(kI · 97 37 false),(kI · 97 49 false),(kI · 97 61 false),(kI · 97 73 false),(kI · 97 85 false),(kI · 97 97 true),(kI · 97 109 false),(kI · 97 121 false),(kI · 97 133 false),(kI · 97 145 false),(kI · 97 157 false),(kI · 109 37 false),(kI · 109 49 false),(kI · 109 61 false),(kI · 109 73 false),(kI · 109 85 false),(kI · 109 97 false),(kI · 109 109 true),(kI · 109 121 false),(kI · 109 133 false),(kI · 109 145 false),(kI · 109 157 false),λK=>decide (findIn K (.ref 37) "__getattribute__"=some (some (.builtin "BaseException.__getattribute__"))),λK=>decide (findIn K (.ref 37) "__getattr__"=some none),λK=>decide (findIn K (.ref 37) "__class__"=some (some (.builtin "object.__class__"))),λK=>decide (mroIn K 37 (.type "object")=some true),(sI · (.ref 37) (.type "BaseException") true),λK=>decide (kitCls K (.ref 37) (.ref 37)=some true),(vW · 37),λK=>decide (findIn K (.ref 97) "__getattribute__"=some (some (.builtin "BaseException.__getattribute__"))),λK=>decide (findIn K (.ref 97) "__getattr__"=some none),λK=>decide (findIn K (.ref 97) "__class__"=some (some (.builtin "object.__class__"))),λK=>decide (mroIn K 97 (.type "object")=some true),(sI · (.ref 97) (.type "BaseException") true),λK=>decide (kitCls K (.ref 97) (.ref 97)=some true),(vW · 97),λK=>decide (findIn K (.ref 109) "__getattribute__"=some (some (.builtin "BaseException.__getattribute__"))),λK=>decide (findIn K (.ref 109) "__getattr__"=some none),λK=>decide (findIn K (.ref 109) "__class__"=some (some (.builtin "object.__class__"))),λK=>decide (mroIn K 109 (.type "object")=some true),(sI · (.ref 109) (.type "BaseException") true),λK=>decide (kitCls K (.ref 109) (.ref 109)=some true),(vW · 109),λK=>decide (kitOne K (.ref 37) (.type "ValueError")=some true),λK=>decide (kitOne K (.ref 97) (.type "ValueError")=some true),λK=>decide (kitOne K (.ref 109) (.type "ValueError")=some true),(sI · (.ref 24) (.type "BaseException") true),(sI · (.type "type") (.type "tuple") false),λK=>decide (kitCls K (.ref 24) (.ref 24)=some true)]
def DO(K:Frag):List (Option br):=[cT K 166,cT K 173,cT K 178,cT K 185,cT K 190,cT K 197,cT K 202,cT K 207,cT K 212,cT K 219,cT K 226,cT K 233,cT K 238,cT K 245,cT K 252,cT K 257,cT K 262,cT K 269,cT K 274,cT K 281,cT K 288,cT K 295,cT K 302,cT K 307,cT K 312,cT K 317,cT K 324,cT K 331,cT K 336,cT K 343,cT K 348,cT K 353,cT K 358,cT K 363]
def DP:List (Option br):=[fE ae 14 165,fE ae 15 172,fE ae 16 177,fE ae 19 184,fE ae 20 189,fE ae 21 196,fE ae 22 201,fE ae 23 206,fE ae 24 211,fE ae 25 218,fE ae 26 225,fE ae 27 232,fE ae 29 237,fE ae 30 244,fE ae 32 251,fE ae 33 256,fE ae 34 261,fE ae 35 268,fE ae 36 273,fE ae 38 280,fE ae 39 287,fE ae 40 294,fE ae 41 301,fE ae 42 306,fE ae 43 311,fE ae 44 316,fE ae 45 323,fE ae 46 330,fE ae 47 335,fE ae 48 342,fE ae 49 347,fE ae 50 352,fE ae 51 357,fE ae 52 362]
def ob(K:Frag):Bool×List (Option br):=(obF.all (λf=>f K),DO K)
abbrev obE:Bool×List (Option br):=(true,DP)
theorem JP{α β γ:Type}{o:Option α}{f:α->β}{g:α->γ}{a:β}{b:γ}(h1:o.map f=some a)(h2:o.map g=some b):o.map (λs=>(f s,g s))=some (a,b):=by
 cases o with
 |none=>cases h1
 |some s=>cases h1;cases h2;rfl
def T5(w:cm):(openEnds treeTable ae w 8000).map (λs=>openSeen vw [] (importedModules (ae).main.body) Xw true s)=some (openGood vw []):=by rw[DM,Fast.te4187177175401517315];kernel_rfl
def T6(w:cm):(openEnds treeTable ae w 8000).map (λs=>obF.all (λf=>f (vV s.heap)))=some true:=by rw[DM];kernel_rfl
def T7(w:cm):(openEnds treeTable ae w 8000).map (λs=>DO (vV s.heap))=some DP:=by rw[DM];kernel_rfl
def left:LeftO ae vw [] Xw (λs=>ob (vV s.heap)) (λ_=>obE) 8000:=λw=>JP (T5 w) (JP (T6 w) (T7 w))
end L2.Mr.K80
abbrev Hn:PySem.Str:="__debug__"
namespace L2
abbrev iI:=Sum Int Str
def JQ:iI->af->Bool
 |.inl k,v=>Value.isInt k v
 |.inr x,v=>Value.isStrOf x v
def T9(w:cm):iI->Int
 |.inl k=>hashInt k
 |.inr x=>hashStr w x
theorem oJ:∀{k:iI}{v:af},JQ k v=true->(∃i t,k=vq i/\v=Value.int i t)∨(∃x t,k=xi x/\v=Value.str x t)
 |.inl i,v,h=>by let⟨t,e⟩:=oq (k:=i) (v:=v) h;exact .inl ⟨i,t,rfl,e⟩
 |.inr x,v,h=>by let⟨t,e⟩:=Value.isStrOf_shape (x:=x) (v:=v) h;exact .inr ⟨x,t,rfl,e⟩
def UA(a b:Int):decide ((vq a:iI)=vq b)=(a==b):=by
 by_cases e:a=b
 ·subst e;simp
 ·have h:¬(vq a:iI)=vq b:=λq=>e (Sum.inl.inj q);rw[decide_eq_false h];exact(beq_eq_false_iff_ne.mpr e).symm
def UB(a b:Str):decide ((xi a:iI)=xi b)=decide (a=b):=by
 by_cases e:a=b
 ·subst e;simp
 ·have h:¬(xi a:iI)=xi b:=λq=>e (Sum.inr.inj q);rw[decide_eq_false h,decide_eq_false e]
def UC(a:Int)(b:Str):decide ((vq a:iI)=xi b)=false:=decide_eq_false (λq=>nomatch q)
theorem UD(a:Str)(b:Int):decide ((xi a:iI)=vq b)=false:=decide_eq_false (λq=>nomatch q)
def DQ(prog:bp)(w:cm):PySem.KeyKind prog w iI where
 is:=JQ
 hash:=T9 w
 inj:=λv a b ha hb=>by
  rcases oJ ha with⟨i,t,rfl,rfl⟩|⟨x,t,rfl,rfl⟩
  ·rcases oJ hb with⟨j,u,rfl,e⟩|⟨y,u,rfl,e⟩
   ·injection e with e1 _;rw[e1]
   ·exact nomatch e
  ·rcases oJ hb with⟨j,u,rfl,e⟩|⟨y,u,rfl,e⟩
   ·exact nomatch e
   ·injection e with e1 _;rw[e1]
 byValue:=λk v h=>by rcases oJ h with⟨i,t,rfl,rfl⟩|⟨x,t,rfl,rfl⟩<;>rfl
 pyHash:=λhv h=>by
  rcases oJ hv with⟨i,t,rfl,rfl⟩|⟨x,t,rfl,rfl⟩
  ·exact wpAny_pyHash_int h
  ·exact wpAny_pyHash_str h
 eqBool:=λhu hv h=>by
  rcases oJ hu with⟨i,t,rfl,rfl⟩|⟨x,t,rfl,rfl⟩
  ·rcases oJ hv with⟨j,u,rfl,rfl⟩|⟨y,u,rfl,rfl⟩
   ·rw[UA]at h;exact yx h
   ·rw[UC]at h;exact SeqAt.EqAt.int_str i t y u _ _ _ _ h
  ·rcases oJ hv with⟨j,u,rfl,rfl⟩|⟨y,u,rfl,rfl⟩
   ·rw[UD]at h;exact SeqAt.EqAt.str_int x t j u _ _ _ _ h
   ·rw[UB]at h;exact wpAny_eqBool_str h
 «strs»:=λk x t v h=>by
  rcases oJ h with⟨i,u,rfl,e⟩|⟨y,u,rfl,e⟩
  ·exact nomatch e
  ·injection e with e1 _;subst e1
   cases v<;>rfl
inductive V where
 |non|bl (b:Bool)|int (i:Int)|str (x:Str)|byt (b:Array UInt8)|flt (b:UInt64)|ref (a:ah)|ty (n:String)
 deriving DecidableEq
def RelV:V->af->Prop
 |.non,u=>u=jy
 |.bl b,u=>u=Ba b
 |.int i,u=>∃t,u=Value.int i t
 |.str x,u=>∃t,u=Value.str x t
 |.byt b,u=>∃t,u=Value.bytes b t
 |.flt b,u=>∃t,u=Value.float b t
 |.ref a,u=>u=iu a
 |.ty n,u=>u=vz n
abbrev Bs:List V->List af->Prop:=Paired RelV
def Bs.length(r:Bs xs us):xs.length=us.length:=Paired.length r
theorem Bs.get:∀{xs:List V}{us:List af}{i:Nat}{x:V},Bs xs us->xs[i]?=some x->∃u,us[i]?=some u/\RelV x u
 |_,_,_,_,.nil,e=>by simp at e
 |_,_,0,_,.cons r _,e=>by simp at e;subst e;exact⟨_,rfl,r⟩
 |_,_,i+1,x,.cons _ t,e=>by let⟨u,h1,h2⟩:=Bs.get (i:=i) (x:=x) t (by simpa using e);exact⟨u,by simpa using h1,h2⟩
theorem Bs.set(r:RelV x u):∀{xs:List V}{us:List af}(i:Nat),Bs xs us->Bs (xs.set i x) (us.set i u)
 |_,_,_,.nil=>.nil
 |_,_,0,.cons _ t=>.cons r t
 |_,_,i+1,.cons q t=>.cons q (Bs.set r i t)
theorem Bs.append:∀{xs ys:List V}{us ws:List af},Bs xs us->Bs ys ws->Bs (xs++ys) (us++ws)
 |_,_,_,_,.nil,s=>s
 |_,_,_,_,.cons r t,s=>.cons r (Bs.append t s)
theorem Bs.take:∀{xs:List V}{us:List af}(n:Nat),Bs xs us->Bs (xs.take n) (us.take n)
 |_,_,0,_=>.nil
 |_,_,_+1,.nil=>.nil
 |_,_,n+1,.cons r t=>.cons r (Bs.take n t)
theorem Bs.drop:∀{xs:List V}{us:List af}(n:Nat),Bs xs us->Bs (xs.drop n) (us.drop n)
 |_,_,0,r=>r
 |_,_,_+1,.nil=>.nil
 |_,_,n+1,.cons _ t=>Bs.drop n t
def JR:Option V->Option af->Prop
 |some v,some u=>RelV v u
 |none,none=>True
 |_,_=>False
def KV{κ:Type}:List (κ×V)->List (κ×af)->Prop:=Paired λ(p:κ×V)(q:κ×af)=>p.1=q.1/\RelV p.2 q.2
def kV:iI->V
 |.inl i=>.int i
 |.inr x=>.str x
inductive HO where
 |lst (xs:List V)
 |tup (xs:List V)
 |dK (kvs:List (iI×V))|dT (kvs:List (List iI×V))
 |set (S:Int->Bool) (n:Nat)
 |ins (C dx:ah) (fs:List (Str×V))
 |own (x:ah)
 |xd (fs:List (Str×V))
 |met (f x:ah)
 |rng (lo hi:Int)
 |frz (o:Obj) (u:HO)
 |tbl (ps:Array af)
 |ext (φ:cu->Prop)
abbrev Hp:=ah->Option HO
def upd(H:Hp)(a:ah)(o:HO):Hp:=λb=>if b=a then some o else H b
def cU:upd H a o a=some o:=by unfold upd;rw[if_pos rfl]
def bT{H:Hp}(h:b≠a):upd H a o b=H b:=by unfold upd;rw[if_neg h]
def oK{H:Hp}(h:H a=some o)(h':H b=some u)(d:o≠u):a≠b:=by intro e;subst e;rw[h]at h';exact d (cw h')
def gF{H:Hp}(h:H a=some o)(h':H b=none):a≠b:=by intro e;subst e;rw[h]at h';cases h'
def Ck(h:cu)(a:ah)(items:Array af):Prop:=∃o,h.get? a=some o/\o.cls=.type "tuple"/\o.dict=none/\∃n,o.data=.seq items n
def Ck.tup(x:Ck h a items):yh h a items:=let ⟨o,e,c,_,d⟩:=x;⟨o,e,c,d⟩
def Ck.lt(x:Ck h a items):a<h.objs.size:=let ⟨_,e,_⟩:=x;av e
def Ck.new(h:cu)(items:Array af):Ck (h.push {cls:=.type "tuple",data:=.seq items}) h.objs.size items:=⟨_,bg _ rfl,rfl,rfl,_,rfl⟩
section
variable(P:bp) (w:cm)
def Bv(H:Hp)(h:cu)(a:ah):HO->Prop
 |.lst xs=>xs.length<=cg/\∃(its:List af)(n:Nat),Bs xs its/\h.get? a=some {cls:=.type "list",data:=.seq its.toArray n}
 |.tup xs=>xs.length<=cg/\∃its:List af,Bs xs its/\Ck h a its.toArray
 |.dK kvs=>kvs.length<=cg/\(a==sysModules)=false/\∃vs,KV kvs vs/\h.DictOf (DQ P w) a vs
 |.dT kvs=>kvs.length<=cg/\(a==sysModules)=false/\∃xs:List (List iI×ah×af),
   Paired (λ(p:List iI×V)(q:List iI×ah×af)=>p.1=q.1/\H q.2.1=some (.tup (p.1.map kV))/\RelV p.2 q.2.2) kvs xs/\
   ∃o es ep,h.get? a=some o/\o.ExactDict/\o.data=.dict es ep/\es.toList=xs.map (entryOfKey (tupleKind (DQ P w)))/\(xs.map (·.1)).Nodup
 |.set S n=>h.SetOf (intKind P w) a S n
 |.ins C dx fs=>H dx=some (.own a)/\fs.length<=1000/\dx≠a/\h.get? a=some (PySem.W.instObj C dx)/\
   ∃mA,h.Ns1 dx mA/\(∀f,JR (fs.lookup f) (mA f))/\PySem.Within mA (fs.map (·.1))
 |.own _=>∃o,h.get? a=some o
 |.xd fs=>∃mA,h.Ns1 a mA/\∀f,JR (fs.lookup f) (mA f)
 |.rng lo hi=>∃t u v,h.get? a=some {cls:=.type "range",data:=.fields #[.int lo t,.int hi u,.int 1 v]}
 |.frz o u=>h.get? a=some o/\Bv H h a u
 |.tbl ps=>h.get? a=some {cls:=.none,data:=.fields ps}
 |.met f x=>h.get? a=some (wc (.ref f) (.ref x))
 |.ext φ=>φ h/\(∃o,h.get? a=some o)/\∀h1 h2:cu,φ h1->(∀o,h1.get? a=some o->h2.get? a=some o)->φ h2
def Cz(H:Hp)(h:cu):Prop:=∀a o,H a=some o->Bv P w H h a o
end
section
variable{P:bp}{w:cm}{H H':Hp}{h h':cu}{a:ah}{o:HO}
def Bv.lt(x:Bv P w H h a o):a<h.objs.size:=by
 cases o with
 |lst xs=>let⟨_,_,_,_,e⟩:=x;exact av e
 |tup xs=>let⟨_,_,_,p⟩:=x;exact p.lt
 |dK kvs=>let⟨_,_,_,_,o,_,_,e,_⟩:=x;exact av e
 |dT kvs=>let⟨_,_,_,_,o,_,_,e,_⟩:=x;exact av e
 |set S n=>let⟨o,_,_,_,e,_⟩:=x;exact av e
 |ins C dx fs=>let⟨_,_,_,e,_⟩:=x;exact av e
 |own y=>let⟨_,e⟩:=x;exact av e
 |xd fs=>let⟨_,⟨_,_,_,e,_⟩,_⟩:=x;exact av e
 |rng lo hi=>let⟨_,_,_,e⟩:=x;exact av e
 |frz ob u=>let⟨e,_⟩:=x;exact av e
 |tbl ps=>exact av (show h.get? a=some _ from x)
 |met f y=>exact av (show h.get? a=some _ from x)
 |ext φ=>let⟨_,⟨_,e⟩,_⟩:=x;exact av e
theorem Paired.mapP{α β:Type}{F G:α->β->Prop}:∀{l₁:List α}{l₂:List β},Paired F l₁ l₂->(∀a b,F a b->G a b)->Paired G l₁ l₂
 |_,_,.nil,_=>.nil
 |_,_,.cons r t,f=>.cons (f _ _ r) (Paired.mapP t f)
def Bv.stay(x:Bv P w H h a o)(k:∀b u,(b=a∨H b=some (.own a))->h.get? b=some u->h'.get? b=some u)(ho:∀b,H b=some (.own a)->H' b=some (.own a))(ht:∀b xs,H b=some (.tup xs)->H' b=some (.tup xs)):Bv P w H' h' a o:=by
 induction o with
 |lst xs=>let⟨z,its,n,r,e⟩:=x;exact⟨z,its,n,r,k _ _ (.inl rfl) e⟩
 |tup xs=>let⟨z,its,r,ob,e,c⟩:=x;exact⟨z,its,r,ob,k _ _ (.inl rfl) e,c⟩
 |dK kvs=>let⟨z,y,vs,r,ob,es,ep,e,c⟩:=x;exact⟨z,y,vs,r,ob,es,ep,k _ _ (.inl rfl) e,c⟩
 |dT kvs=>let⟨z,y,xs,r,ob,es,ep,e,c⟩:=x;exact⟨z,y,xs,Paired.mapP r λp q z=>⟨z.1,ht _ _ z.2.1,z.2.2⟩,ob,es,ep,k _ _ (.inl rfl) e,c⟩
 |set S n=>let⟨ob,es,ep,t,e,c⟩:=x;exact⟨ob,es,ep,t,k _ _ (.inl rfl) e,c⟩
 |ins C dx fs=>let⟨d,z,ne,e,mA,⟨od,es,ep,e2,c⟩,r⟩:=x;exact⟨ho _ d,z,ne,k _ _ (.inl rfl) e,mA,⟨od,es,ep,k _ _ (.inr d) e2,c⟩,r⟩
 |own y=>let⟨ob,e⟩:=x;exact⟨ob,k _ _ (.inl rfl) e⟩
 |xd fs=>let⟨mA,⟨od,es,ep,e,c⟩,r⟩:=x;exact⟨mA,⟨od,es,ep,k _ _ (.inl rfl) e,c⟩,r⟩
 |rng lo hi=>let⟨t,u,v,e⟩:=x;exact⟨t,u,v,k _ _ (.inl rfl) e⟩
 |frz ob u ih=>let⟨e,q⟩:=x;exact⟨k _ _ (.inl rfl) e,ih q⟩
 |tbl ps=>have e:h.get? a=some {cls:=.none,data:=.fields ps}:=x;show h'.get? a=some {cls:=.none,data:=.fields ps};exact k a _ (.inl rfl) e
 |met f y=>have e:h.get? a=some (wc (.ref f) (.ref y)):=x;show h'.get? a=some (wc (.ref f) (.ref y));exact k a _ (.inl rfl) e
 |ext φ=>let⟨p,⟨o,e⟩,st⟩:=x;exact⟨st _ _ p λo q=>k _ _ (.inl rfl) q,⟨o,k _ _ (.inl rfl) e⟩,st⟩
def Cz.lt(x:Cz P w H h)(e:H a=some o):a<h.objs.size:=(x a o e).lt
def Cz.fresh(x:Cz P w H h)(e:h.objs.size<=a):H a=none:=by
 cases q:H a with
 |none=>rfl
 |some u=>exact absurd (aw (x.lt q) e) (ig _)
def Cz.kept(x:Cz P w H h)(k:∀b u,h.get? b=some u->h'.get? b=some u):Cz P w H h':=λa o e=>(x a o e).stay (λb u _ q=>k b u q) (λ_ q=>q) λ_ _ q=>q
def Cz.laid(x:Cz P w H h)(k:∀b u,h.get? b=some u->h'.get? b=some u)(hp:h.objs.size<=a)(new:Bv P w (upd H a o) h' a o):Cz P w (upd H a o) h':=λb u e=>by
 have hn:=x.fresh hp
 by_cases hb:b=a
 ·subst hb;rw[cU]at e;cases e;exact new
 ·rw[bT hb]at e;exact(x b u e).stay (λc v _ q=>k c v q) (λc q=>by rw[bT (gF q hn)];exact q) λc xs q=>by rw[bT (gF q hn)];exact q
end
def Rd(H:Hp)(a:ah)(u:HO):Prop:=H a=some u∨∃o,H a=some (.frz o u)
def Rd.ok(r:Rd H a u)(x:Cz P w H h):Bv P w H h a u:=by
 rcases r with r|⟨o,r⟩
 ·exact x a u r
 ·let⟨_,q⟩:=x a _ r;exact q
def yY:Option HO->Prop
 |some (.lst _)=>True
 |some (.dK _)=>True
 |some (.dT _)=>True
 |some (.set _ _)=>True
 |some (.ins _ _ _)=>True
 |some (.ext _)=>True
 |_=>False
section
variable{P:bp}{w:cm}{H:Hp}{h h':cu}{x e:ah}{o':HO}
def Cz.write(ok:Cz P w H h)(mu:yY (H x))(he:e=x∨H e=some (.own x))(k:∀b u,b≠e->h.get? b=some u->h'.get? b=some u)(heo:∃u,h'.get? e=some u)(new:Bv P w (upd H x o') h' x o'):Cz P w (upd H x o') h':=λb u q=>by
 have nown:∀c y,H c=some (.own y)->c≠x:=λc y r z=>by subst z;rw[r]at mu;exact mu
 have ntup:∀c xs,H c=some (.tup xs)->c≠x:=λc xs r z=>by subst z;rw[r]at mu;exact mu
 by_cases hb:b=x
 ·subst hb;rw[cU]at q;cases q;exact new
 ·rw[bT hb]at q
  by_cases hbe:b=e
  ·have q':H b=some (.own x):=by
    rcases he with z|z
    ·exact absurd (hbe.trans z) hb
    ·rw[hbe];exact z
   rw[q]at q';cases q';let⟨v,hv⟩:=heo;exact⟨v,by rw[hbe];exact hv⟩
  ·refine(ok b u q).stay (λc v hc r=>k c v ?_ r) (λc r=>by rw[bT (nown c b r)];exact r) λc xs r=>by rw[bT (ntup c xs r)];exact r
   rcases hc with rfl|hc
   ·exact hbe
   ·rintro rfl
    rcases he with z|z
    ·exact nown c b hc z
    ·rw[hc]at z;cases z;exact hb rfl
end
structure Un(fs ex:List ah)(H H':Hp)(h h':cu):Prop where
 keep:∀b o,h.get? b=some o->H b=none->b∉fs->b∉ex->h'.get? b=some o
 slot:∀b o,h.get? b=some o->H b=none->b∈fs->b∉ex->∃sl,h'.get? b=some {o with slots:=sl}
 free:∀b o,h.get? b=some o->H b=none->b∉ex->H' b=none
 there:∀b o,h.get? b=some o->b∉ex->∃o',h'.get? b=some o'
 tups:∀b xs,H b=some (.tup xs)->H' b=some (.tup xs)
 frzs:∀b o u,H b=some (.frz o u)->H' b=some (.frz o u)
 tbls:∀b ps,H b=some (.tbl ps)->∃more,H' b=some (.tbl (ps++more))
section
variable{fs fs' ex ex':List ah}{H H1 H2:Hp}{h h1 h2 h':cu}{a x e:ah}{o:HO}
def Un.any(u:Un fs ex H H1 h h1){ob:Obj}(q:h.get? b=some ob)(n:H b=none)(hx:b∉ex):∃sl,h1.get? b=some {ob with slots:=sl}:=by
 by_cases hb:b∈fs
 ·exact u.slot b ob q n hb hx
 ·exact⟨ob.slots,u.keep b ob q n hb hx⟩
def Un.kept(k:∀b u,h.get? b=some u->h'.get? b=some u):Un fs ex H H h h':=⟨λb ob q _ _ _=>k b ob q,λb ob q _ _ _=>⟨ob.slots,k b ob q⟩,λ_ _ _ n _=>n,λb ob q _=>⟨ob,k b ob q⟩,λ_ _ q=>q,λ_ _ _ q=>q,λ_ ps q=>⟨#[],by rw[q];simp⟩⟩
def Un.refl:Un fs ex H H h h:=Un.kept λ_ _ q=>q
def Un.laid(k:∀b u,h.get? b=some u->h'.get? b=some u)(hp:h.objs.size<=a)(hn:H a=none):Un fs ex H (upd H a o) h h' where
 keep:=λb u q _ _ _=>k b u q
 slot:=λb u q _ _ _=>⟨u.slots,k b u q⟩
 free:=λb u q n _=>by rw[bT (bc (aw (av q) hp))];exact n
 there:=λb u q _=>⟨u,k b u q⟩
 tups:=λb xs q=>by rw[bT (gF q hn)];exact q
 frzs:=λb u xs q=>by rw[bT (gF q hn)];exact q
 tbls:=λb ps q=>⟨#[],by rw[bT (gF q hn),q];simp⟩
def Un.write(mu:yY (H x))(he:e=x∨H e=some (.own x))(k:∀b u,b≠e->h.get? b=some u->h'.get? b=some u)(heo:∃u,h'.get? e=some u):Un fs ex H (upd H x o) h h':=by
 have hx:∀b,H b=none->b≠x:=λb n z=>by subst z;rw[n]at mu;exact mu
 have hb:∀b,H b=none->b≠e:=λb n z=>by
  subst z
  rcases he with r|r
  ·exact hx b n r
  ·rw[n]at r;cases r
 have hm:∀b u,H b=some u->¬yY (some u)->b≠x:=λb u q nm z=>by subst z;rw[q]at mu;exact nm mu
 refine⟨λb u q n _ _=>k b u (hb b n) q,λb u q n _ _=>⟨u.slots,k b u (hb b n) q⟩,λb u q n _=>by rw[bT (hx b n)];exact n,λb u q _=>?_,
  λb xs q=>by rw[bT (hm b _ q λz=>z)];exact q,λb u xs q=>by rw[bT (hm b _ q λz=>z)];exact q,λb ps q=>⟨#[],by rw[bT (hm b _ q λz=>z),q];simp⟩⟩
 by_cases hbe:b=e
 ·subst hbe;exact heo
 ·exact⟨u,k b u hbe q⟩
end
def yZ(h:cu)(H:Hp):List ah:=(ba h.objs.size).filter λa=>(H a).isSome
def lV(h:cu)(H:Hp):cu:=PySem.W.hideAll h (yZ h H)
def UE(h:cu)(H:Hp):(lV h H).objs.size=h.objs.size:=zm _ _
def UG{h:cu}{H:Hp}(e:h.get? b=some o)(n:H b=none):(lV h H).get? b=some o:=zu _ e λhm=>by have q:(H b).isSome=true:=(ie.mp hm).2;rw[n]at q;simp at q
def UH{H:Hp}(e:(lV h H).get? b=some o):h.get? b=some o/\H b=none:=by
 have e':h.get? b=some o:=Ae (yZ h H) e;refine⟨e',?_⟩
 cases q:H b with
 |none=>rfl
 |some x=>have hm:b∈yZ h H:=ie.mpr ⟨bx.mpr (av e'),by simp[q]⟩;have z:(lV h H).get? b=none:=zq (yZ h H) hm;rw[z]at e;cases e
structure Mod(K:ar)(mg:Str->Option af)(base:cu):Prop where
 kin:K.In base
 glob:base.Ns dg mg
 blt:∃mb,base.Ns builtinsNs mb/\∀x:Str,x≠"__name__"->mb x=dz x
 nolimit:base.NoLimit
structure Cx where
 prog:bp
 w:cm
 K:ar
 mg:Str->Option af
 base:cu
 A:cb
 N:Bh
 s₀:ag
 H₀:Hp
 env:Env
 outer:List Env
 stack:List Env
 ex:List ah
 fn:Str->Bool
 calm:Bool
 pn:List (ah×Obj)
 xe:af->ag->Prop
def dR(l:List Env):List ah:=l.filterMap (·.frame)
abbrev Cx.fs(X:Cx):List ah:=dR X.outer
def mU(sc:fi)(x:Str):Prop:=sc.names.lookup x=some .local∨sc.names.lookup x=some .cell∨sc.names.lookup x=some .free
def mV(sc:fi)(x:Str):Prop:=sc.names.lookup x=some .local∨sc.names.lookup x=some .cell
def JS(env:Env)(h:cu)(m:Str->Option af)(x:Str)(u:af):Prop:=(env.kindOf x=some .local/\m x=some u)∨((env.kindOf x=some .cell∨env.kindOf x=some .free)/\∃c,env.cells.lookup x=some c/\h.IsCell c (some u))
structure Cx.Ok(X:Cx):Prop where
 mod:Mod X.K X.mg X.base
 kind:X.env.scope.kind=.function
 glob:X.env.globals=dg
 blt:X.env.builtins=builtinsNs
 above:X.s₀.heap.objs.size<=X.env.locals
 inj:∀x y c,X.env.cells.lookup x=some c->X.env.cells.lookup y=some c->x=y
 has:∀x,(X.env.kindOf x=some .cell∨X.env.kindOf x=some .free)->∃c,X.env.cells.lookup x=some c
 cab:∀x c,X.fn x=true->X.env.cells.lookup x=some c->X.s₀.heap.objs.size<=c
 hd:X.calm=true->X.A.handled=none
 frames:X.A.frames=some X.stack
 stk:X.stack=X.outer∨(X.stack=X.env::X.outer/\X.env.frame=some X.env.locals)
 exf:∀b∈X.ex,b≠X.env.locals/\∀x c,X.env.cells.lookup x=some c->c≠b
 bs:∀b o,X.base.get? b=some o->X.s₀.heap.get? b=some o/\X.H₀ b=none
 bsz:X.base.objs.size<=X.s₀.heap.objs.size
 noex:∀b o,X.base.get? b=some o->b∉X.ex
 exfs:∀b∈X.ex,b∉X.fs
 funs:X.s₀.heap.FunFrames X.base X.outer
 frf:∀b∈X.fs,X.H₀ b=none
structure Inv(X:Cx)(pins:List (ah×Obj))(σ:List (Option V))(H:Hp)(s:ag):Prop where
 ok:X.Ok
 os:s.os=X.s₀.os
 bare:uj s.gens
 base:Un X.fs X.ex X.H₀ H X.s₀.heap s.heap
 loc:∃m,s.heap.Ns X.env.locals m/\∀(i:Nat)(x:Str)(v:V),X.N[i]?=some x->σ[i]?=some (some v)->mU X.env.scope x->∃u,RelV v u/\JS X.env s.heap m x u
 cell:∀x c,X.env.cells.lookup x=some c->∃v,s.heap.IsCell c v
 free:H X.env.locals=none
 freeC:∀x c,X.env.cells.lookup x=some c->H c=none
 pin:∀p∈X.pn++pins,s.heap.get? p.1=some p.2/\H p.1=none/\p.1≠X.env.locals/\p.1∉X.fs/\∀v,p.2.data≠.cell v
 hok:Cz X.prog X.w H s.heap
 len:σ.length=X.N.length
section
variable{X:Cx}{pins:List (ah×Obj)}{σ:List (Option V)}{H H':Hp}{s:ag}{h':cu}
theorem Cx.Ok.nofr(ok:X.Ok){b:ah}{o:Obj}(e:X.base.get? b=some o):b∉X.fs:=λhb=>by have:=(ok.funs.mem hb).1;rw[e]at this;cases this
def Inv.bs(I:Inv X pins σ H s):∀b o,X.base.get? b=some o->s.heap.get? b=some o/\H b=none:=λb o e=>⟨I.base.keep b o (I.ok.bs b o e).1 (I.ok.bs b o e).2 (I.ok.nofr e) (I.ok.noex b o e),I.base.free b o (I.ok.bs b o e).1 (I.ok.bs b o e).2 (I.ok.noex b o e)⟩
def Inv.bk(I:Inv X pins σ H s):∀b o,X.base.get? b=some o->s.heap.get? b=some o:=λb o e=>(I.bs b o e).1
def Inv.mod(I:Inv X pins σ H s):Mod X.K X.mg X.base:=I.ok.mod
def Inv.kIn(I:Inv X pins σ H s):X.K.In s.heap:=I.ok.mod.kin.keeps I.bk
def Inv.lt(I:Inv X pins σ H s):X.env.locals<s.heap.objs.size:=let ⟨_,hn,_⟩:=I.loc;hn.lt
def Inv.sz(I:Inv X pins σ H s):X.s₀.heap.objs.size<=s.heap.objs.size:=cp I.ok.above (gr I.lt)
def Inv.nofs(I:Inv X pins σ H s)(h:s.heap.objs.size<=a):a∉X.fs:=λhb=>by let⟨_,o,ho,_⟩:=I.ok.funs.mem hb;exact absurd (aw (av ho) (cp I.sz h)) (ig _)
def Inv.cne(I:Inv X pins σ H s):∀x c,X.env.cells.lookup x=some c->c≠X.env.locals:=λx c e z=>by let⟨v,o,ho,hd⟩:=I.cell x c e;let⟨m,⟨o',es,ep,Ey,Ej,_⟩,_⟩:=I.loc;rw[z,Ey]at ho;cases ho;rw[Ej]at hd;cases hd
def Inv.funs(I:Inv X pins σ H s):s.heap.FunFrames X.base X.outer:=by
 have all:∀(l:List Env),(∀b∈dR l,b∈X.fs)->X.s₀.heap.FunFrames X.base l->s.heap.FunFrames X.base l:=by
  intro l
  induction l with
  |nil=>intro _ _;trivial
  |cons env r ih=>intro hs hl;let⟨hk,⟨L,o,hf,hn,ho,hd⟩,hr⟩:=hl;have hL:L∈X.fs:=hs L (by unfold dR;rw[ck,hf];exact bh);let⟨sl,e⟩:=I.base.slot L o ho (I.ok.frf L hL) hL λz=>I.ok.exfs L z hL;exact⟨hk,⟨L,_,hf,hn,e,hd⟩,ih (λb hb=>hs b (by unfold dR;rw[ck,hf];exact au _ hb)) hr⟩
 exact all X.outer (λ_ hb=>hb) I.ok.funs
def Inv.stack(I:Inv X pins σ H s):s.heap.FunFrames X.base X.stack:=by
 rcases I.ok.stk with e|⟨e,hf⟩
 ·rw[e];exact I.funs
 ·rw[e];let⟨m,hn,_⟩:=I.loc;refine .cons (by rw[I.ok.kind];decide) hf hn ?_ I.funs;exact Heap.get?_none_of_le (cp I.ok.bsz I.ok.above)
def Inv.stkSub(I:Inv X pins σ H s):∀b∈dR X.stack,b∈X.env.locals::X.fs:=λb hb=>by
 rcases I.ok.stk with e|⟨e,hf⟩
 ·rw[e]at hb;exact au _ hb
 ·rw[e]at hb;unfold dR at hb;rw[ck,hf]at hb;exact hb
def Inv.stkFree(I:Inv X pins σ H s):∀b∈dR X.stack,H b=none:=λb hb=>by
 rcases az.mp (I.stkSub b hb)with e|hb
 ·rw[e];exact I.free
 ·let⟨_,o,ho,_⟩:=I.ok.funs.mem hb;exact I.base.free b o ho (I.ok.frf b hb) λz=>I.ok.exfs b z hb
theorem Inv.step{g':Array GenState}{t':Nat}{d':Drawn}{ch:List ah}(I:Inv X pins σ H s)(Ez:∀b∈ch,(b∈X.ex∨X.s₀.heap.objs.size<=b)/\b≠X.env.locals/\(∀x c,X.env.cells.lookup x=some c->c≠b)/\∀p∈X.pn++pins,p.1≠b)(keep:∀b o,b≠X.env.locals->b∉X.fs->b∉ch->s.heap.get? b=some o->H b=none->h'.get? b=some o)(slot:∀b o,b≠X.env.locals->b∈X.fs->b∉ch->s.heap.get? b=some o->H b=none->∃sl,h'.get? b=some {o with slots:=sl})(free:∀b o,b∉ch->s.heap.get? b=some o->H b=none->H' b=none)(there:∀b o,b∉ch->s.heap.get? b=some o->∃o',h'.get? b=some o')(tups:∀b xs,H b=some (.tup xs)->H' b=some (.tup xs))(frzs:∀b o u,H b=some (.frz o u)->H' b=some (.frz o u))(tbls:∀b ps,H b=some (.tbl ps)->∃more,H' b=some (.tbl (ps++more)))(ns:∀m,s.heap.Ns X.env.locals m->h'.Ns X.env.locals m)(hok:Cz X.prog X.w H' h')(hg:uj g'):
  Inv X pins σ H' {s with heap:=h',gens:=g',drawn:=d',toks:=t'}:=by
 have neL:∀b o,X.s₀.heap.get? b=some o->b≠X.env.locals:=λb o e=>bc (aw (av e) I.ok.above);have neC:∀b o,X.s₀.heap.get? b=some o->b∉X.ex->b∉ch:=λb o e hx hb=>by
  rcases(Ez b hb).1 with z|z
  ·exact hx z
  ·exact absurd (aw (av e) z) (ig _)
 have cellK:∀x c,X.env.cells.lookup x=some c->∀v,s.heap.IsCell c v->h'.IsCell c v:=λx c e v⟨o,ho,hd⟩=>by
  have nch:c∉ch:=λz=>(Ez c z).2.2.1 x c e rfl
  by_cases hc:c∈X.fs
  ·obtain⟨sl,q⟩:=slot c o (I.cne x c e) hc nch ho (I.freeC x c e);exact⟨_,q,hd⟩
  ·exact⟨o,keep c o (I.cne x c e) hc nch ho (I.freeC x c e),hd⟩
 refine⟨I.ok,I.os,hg,⟨λb o e n hb hx=>?_,λb o e n hb hx=>?_,λb o e n hx=>?_,λb o e hx=>?_,λb xs e=>tups b xs (I.base.tups b xs e),λb o xs e=>frzs b o xs (I.base.frzs b o xs e),λb ps e=>?_⟩,?_,λx c e=>?_,?_,λx c e=>?_,λp hp=>?_,hok,I.len⟩
 ·exact keep b o (neL b o e) hb (neC b o e hx) (I.base.keep b o e n hb hx) (I.base.free b o e n hx)
 ·obtain⟨sl,e1⟩:=I.base.slot b o e n hb hx;obtain⟨sl',e2⟩:=slot b _ (neL b o e) hb (neC b o e hx) e1 (I.base.free b o e n hx);exact⟨sl',e2⟩
 ·obtain⟨o',e1⟩:=I.base.there b o e hx;exact free b o' (neC b o e hx) e1 (I.base.free b o e n hx)
 ·obtain⟨o',e1⟩:=I.base.there b o e hx;exact there b o' (neC b o e hx) e1
 ·obtain⟨m1,e1⟩:=I.base.tbls b ps e;obtain⟨m2,e2⟩:=tbls b _ e1;exact⟨m1++m2,by rw[e2,Array.append_assoc]⟩
 ·obtain⟨m,hn,hl⟩:=I.loc;refine⟨m,ns m hn,λi x v e1 e2 e3=>?_⟩;obtain⟨u,r,l⟩:=hl i x v e1 e2 e3;refine⟨u,r,?_⟩
  rcases l with l|⟨k,c,e,z⟩
  ·exact .inl l
  ·exact .inr ⟨k,c,e,cellK x c e _ z⟩
 ·obtain⟨v,z⟩:=I.cell x c e;exact⟨v,cellK x c e v z⟩
 ·obtain⟨m,⟨o,_,_,ho,_⟩,_⟩:=I.loc;exact free _ o (λz=>(Ez _ z).2.1 rfl) ho I.free
 ·obtain⟨v,o,ho,hd⟩:=I.cell x c e;exact free c o (λz=>(Ez c z).2.2.1 x c e rfl) ho (I.freeC x c e)
 ·obtain⟨e,n,ne,nf,d⟩:=I.pin p hp;have nch:p.1∉ch:=λz=>(Ez p.1 z).2.2.2 p hp rfl;exact⟨keep p.1 p.2 ne nf nch e n,free p.1 p.2 nch e n,ne,nf,d⟩
theorem Inv.un{t':Nat}(I:Inv X pins σ H s)(u:Un X.fs [] H H' s.heap h')(hok:Cz X.prog X.w H' h'):Inv X pins σ H' {s with heap:=h',toks:=t'}:=by obtain⟨m,⟨o,es,ep,ho,r⟩,_⟩:=id I.loc;obtain⟨sl,hL⟩:=u.any ho I.free (by simp);exact I.step (g':=s.gens) (d':=s.drawn) (ch:=[]) (λ_ z=>nomatch z) (λb o _ hb _ e n=>u.keep b o e n hb (by simp)) (λb o _ hb _ e n=>u.slot b o e n hb (by simp)) (λb o _ e n=>u.free b o e n (by simp)) (λb o _ e=>u.there b o e (by simp)) u.tups u.frzs u.tbls (λm' hm=>by obtain⟨o',es',ep',Ey,r'⟩:=hm;rw[ho]at Ey;cases Ey;exact⟨_,es',ep',hL,r'⟩) hok I.bare
theorem Inv.call{g':Array GenState}{t':Nat}{d':Drawn}{ch:List ah}(I:Inv X pins σ H s)(u:Un (dR X.stack) ch H H' s.heap h')(hok:Cz X.prog X.w H' h')(hg:uj g')(Ez:∀b∈ch,(b∈X.ex∨X.s₀.heap.objs.size<=b)/\b≠X.env.locals/\(∀x c,X.env.cells.lookup x=some c->c≠b)/\∀p∈X.pn++pins,p.1≠b):
  Inv X pins σ H' {s with heap:=h',gens:=g',drawn:=d',toks:=t'}:=by
 obtain⟨m,⟨o,es,ep,ho,r⟩,_⟩:=id I.loc;obtain⟨sl,hL⟩:=u.any ho I.free λz=>(Ez _ z).2.1 rfl;exact I.step (ch:=ch) Ez (λb o hL hb hc e n=>u.keep b o e n (λz=>(az.mp (I.stkSub b z)).elim hL hb) hc) (λb o _ _ hc e n=>u.any e n hc) (λb o hc e n=>u.free b o e n hc) (λb o hc e=>u.there b o e hc) u.tups u.frzs u.tbls (λm' hm=>by obtain⟨o',es',ep',Ey,r'⟩:=hm;rw[ho]at Ey;cases Ey;exact⟨_,es',ep',hL,r'⟩) hok hg
theorem Inv.turned{t':Nat}{it:ah}(I:Inv X pins σ H s)(k:∀b o,b≠it->s.heap.get? b=some o->h'.get? b=some o)(hn:H it=none)(hL:it≠X.env.locals)(h1:it∈X.ex∨X.s₀.heap.objs.size<=it)(h2:∀x c,X.env.cells.lookup x=some c->c≠it)(h3:∀p∈X.pn++pins,p.1≠it):Inv X pins σ H {s with heap:=h',toks:=t'}:=by
 have nit:∀b u,H b=some u->b≠it:=λb u e z=>by rw[z,hn]at e;cases e
 refine I.step (g':=s.gens) (d':=s.drawn) (ch:=[it]) (λb hb=>?_) (λb o _ _ hc e _=>k b o (λz=>hc (by simp[z])) e) (λb o _ _ hc e _=>⟨o.slots,k b o (λz=>hc (by simp[z])) e⟩) (λ_ _ _ _ n=>n)
  (λb o hc e=>⟨o,k b o (λz=>hc (by simp[z])) e⟩) (λ_ _ e=>e) (λ_ _ _ e=>e) (λb ps e=>⟨#[],by rw[e];simp⟩) (λm hm=>?_) (λb u e=>?_) I.bare
 ·have e:b=it:=by simpa using hb
  subst e;exact⟨h1,hL,h2,h3⟩
 ·obtain⟨o,es,ep,ho,r⟩:=hm;exact⟨o,es,ep,k _ o (dh hL) ho,r⟩
 ·refine(I.hok b u e).stay (λc v hc q=>k c v ?_ q) (λ_ q=>q) λ_ _ q=>q
  rcases hc with z|z
  ·rw[z];exact nit b u e
  ·exact nit c _ z
def Inv.tok(I:Inv X pins σ H s)(t:Nat):Inv X pins σ H {s with toks:=t}:=I.un (h':=s.heap) (t':=t) Un.refl I.hok
def Inv.kept(I:Inv X pins σ H s)(k:∀b u,s.heap.get? b=some u->h'.get? b=some u):Inv X pins σ H {s with heap:=h',toks:=t'}:=I.un (Un.kept k) (I.hok.kept k)
def Inv.laid(I:Inv X pins σ H s)(k:∀b u,s.heap.get? b=some u->h'.get? b=some u)(hp:s.heap.objs.size<=a)(new:Bv X.prog X.w (upd H a o) h' a o):
  Inv X pins σ (upd H a o) {s with heap:=h',toks:=t'}:=I.un (Un.laid k hp (I.hok.fresh hp)) (I.hok.laid k hp new)
def Inv.write(I:Inv X pins σ H s)(mu:yY (H x))(he:e=x∨H e=some (.own x))(k:∀b u,b≠e->s.heap.get? b=some u->h'.get? b=some u)(heo:∃u,h'.get? e=some u)(new:Bv X.prog X.w (upd H x o) h' x o):Inv X pins σ (upd H x o) {s with heap:=h',toks:=t'}:=I.un (Un.write mu he k heo) (I.hok.write mu he k heo new)
def Inv.pins_of(I:Inv X pins σ H s)(h:∀p∈pins',s.heap.get? p.1=some p.2/\H p.1=none/\p.1≠X.env.locals/\p.1∉X.fs/\∀v,p.2.data≠.cell v):Inv X pins' σ H s:=⟨I.ok,I.os,I.bare,I.base,I.loc,I.cell,I.free,I.freeC,λp hp=>(cj.mp hp).elim (λz=>I.pin p (ja _ z)) (h p),I.hok,I.len⟩
theorem DR{N:Bh}(hN:N.Nodup){i j:Nat}{x:Str}(a:N[i]?=some x)(b:N[j]?=some x):i=j:=by obtain⟨h1,e1⟩:=bf.mp a;obtain⟨h2,e2⟩:=bf.mp b;exact(List.getElem_inj hN).mp (e1.trans e2.symm)
theorem JT{M:zh}{A:cb}{E:af->ag->Prop}{i:Nat}{x:Str}{v:V}{u:af}{Q:Unit->ag->Prop}(I:Inv X pins σ H s)(hN:X.N.Nodup)(hi:X.N[i]?=some x)(hx:mV X.env.scope x)(r:RelV v u)(h:∀s',Inv X pins (σ.set i (some v)) H s'->(∃a,je a s.heap s'.heap/\(a=X.env.locals∨X.env.cells.lookup x=some a))->Q () s')(hf:X.fn x=true∨X.env.scope.names.lookup x=some .local:=by first|exact .inl rfl|exact .inr rfl|assumption):wpAny M A (storeName X.env x u) Q E s:=by
 obtain⟨m,hn,hl⟩:=id I.loc;have hcls:(X.env.scope.kind==.class||(X.env.scope.kind==.module&&X.env.locals !=X.env.globals))=false:=by rw[I.ok.kind];rfl
 have hiσ:i<σ.length:=by rw[I.len];exact(bf.mp hi).1
 have cne:=I.cne;have tracked:∀{a:ah}{h':cu},(∃o,s.heap.get? a=some o/\H a=none)->je a s.heap h'->Cz X.prog X.w H h':=λ{a h'}ha hs b ob e=>by
  obtain⟨_,_,hfree⟩:=ha;refine(I.hok b ob e).stay (λc w' hc q=>(hs.2 c ?_).trans q) (λ_ q=>q) λ_ _ q=>q
  rintro rfl
  rcases hc with rfl|hc
  ·rw[hfree]at e;cases e
  ·rw[hfree]at hc;cases hc
 rcases hx with hk|hk
 ·refine wpAny_storeName_local hk hn (λh' hn' hs=>?_) hcls;obtain⟨oL,_,_,hoL,_⟩:=id hn;refine h _ ⟨I.ok,I.os,I.bare,⟨λb o e n hb hx=>?_,λb o e n hb hx=>?_,I.base.free,λb o e hx=>?_,I.base.tups,I.base.frzs,I.base.tbls⟩,⟨_,hn',λj y v' e1 e2 e3=>?_⟩,λy c e=>?_,I.free,I.freeC,λp hp=>?_,tracked ⟨oL,hoL,I.free⟩ hs,by simpa using I.len⟩ ⟨_,hs,.inl rfl⟩
  ·exact(hs.2 b (bc (aw (av e) I.ok.above))).trans (I.base.keep b o e n hb hx)
  ·obtain⟨sl,e1⟩:=I.base.slot b o e n hb hx;exact⟨sl,(hs.2 b (bc (aw (av e) I.ok.above))).trans e1⟩
  ·obtain⟨o',e1⟩:=I.base.there b o e hx;exact⟨o',(hs.2 b (bc (aw (av e) I.ok.above))).trans e1⟩
  ·by_cases hj:j=i
   ·subst hj;rw[hi]at e1;cases e1;rw[fe hiσ]at e2;cases e2;exact⟨u,r,.inl ⟨hk,by simp⟩⟩
   ·rw[fj (dh hj)]at e2;obtain⟨u',r',q⟩:=hl j y v' e1 e2 e3;refine⟨u',r',?_⟩
    rcases q with⟨k,e⟩|⟨k,c,e,z⟩
    ·refine .inl ⟨k,?_⟩;have:y≠x:=λe=>hj (DR hN e1 (e▸hi));simp[this,e]
    ·exact .inr ⟨k,c,e,z.sameBut hs (cne y c e)⟩
  ·obtain⟨w',z⟩:=I.cell y c e;exact⟨w',z.sameBut hs (cne y c e)⟩
  ·obtain⟨e,n,ne,nf,d⟩:=I.pin p hp;exact⟨(hs.2 p.1 ne).trans e,n,ne,nf,d⟩
 ·have hfn:X.fn x=true:=by
   rcases hf with z|z
   ·exact z
   ·rw[z]at hk;cases hk
  obtain⟨c,hc⟩:=I.ok.has x (.inl hk);obtain⟨w',z⟩:=I.cell x c hc;refine wpAny_storeName_cell I.ok.kind hk hc z (λh' hc' hs=>?_);obtain⟨oc,hoc,hocd⟩:=id z;refine h {s with heap:=h'} ⟨I.ok,I.os,I.bare,⟨λb o e n hb hx=>?_,λb o e n hb hx=>?_,I.base.free,λb o e hx=>?_,I.base.tups,I.base.frzs,I.base.tbls⟩,⟨m,hn.sameBut hs (dh (cne x c hc)),λj y v' e1 e2 e3=>?_⟩,λy c' e=>?_,I.free,I.freeC,λp hp=>?_,tracked ⟨oc,hoc,I.freeC x c hc⟩ hs,by simpa using I.len⟩ ⟨c,hs,.inr hc⟩
  ·exact(hs.2 b (bc (aw (av e) (I.ok.cab x c hfn hc)))).trans (I.base.keep b o e n hb hx)
  ·obtain⟨sl,e1⟩:=I.base.slot b o e n hb hx;exact⟨sl,(hs.2 b (bc (aw (av e) (I.ok.cab x c hfn hc)))).trans e1⟩
  ·obtain⟨o',e1⟩:=I.base.there b o e hx;exact⟨o',(hs.2 b (bc (aw (av e) (I.ok.cab x c hfn hc)))).trans e1⟩
  ·by_cases hj:j=i
   ·subst hj;rw[hi]at e1;cases e1;rw[fe hiσ]at e2;cases e2;exact⟨u,r,.inr ⟨.inl hk,c,hc,hc'⟩⟩
   ·rw[fj (dh hj)]at e2;obtain⟨u',r',q⟩:=hl j y v' e1 e2 e3;refine⟨u',r',?_⟩
    rcases q with q|⟨k,c',e,z'⟩
    ·exact .inl q
    ·refine .inr ⟨k,c',e,z'.sameBut hs ?_⟩
     rintro rfl
     exact hj (DR hN e1 (I.ok.inj _ _ _ e hc▸hi))
  ·by_cases hcc:c'=c
   ·subst hcc;exact⟨_,hc'⟩
   ·obtain⟨w2,z2⟩:=I.cell y c' e;exact⟨w2,z2.sameBut hs hcc⟩
  ·obtain⟨e,n,ne,nf,d⟩:=I.pin p hp;refine⟨(hs.2 p.1 ?_).trans e,n,ne,nf,d⟩;intro q;rw[q,hoc]at e;have q':oc=p.2:=cw e;exact d w' (by rw[<-q'];exact hocd)
def vX{M:zh}{v:V}{Q:Unit->ag->Prop}(I:Inv X pins σ H s)(hN:X.N.Nodup)(hi:X.N[i]?=some x)(hx:mV X.env.scope x)(r:RelV v u)(h:∀s',Inv X pins (σ.set i (some v)) H s'->Q () s')(hf:X.fn x=true∨X.env.scope.names.lookup x=some .local:=by first|exact .inl rfl|exact .inr rfl|assumption):wpAny M A (storeName X.env x u) Q E s:=
 JT I hN hi hx r (λs' I' _=>h s' I') hf
def Inv.call'{s':ag}(I:Inv X pins σ H s)(ho:s'.os=s.os)(u:Un (dR X.stack) ch H H' s.heap s'.heap)(hok:Cz X.prog X.w H' s'.heap)(hg:uj s'.gens)(Ez:∀b∈ch,(b∈X.ex∨X.s₀.heap.objs.size<=b)/\b≠X.env.locals/\(∀x c,X.env.cells.lookup x=some c->c≠b)/\∀p∈X.pn++pins,p.1≠b):Inv X pins σ H' s':=by
 let⟨h',g',d',t',o'⟩:=s';have e:o'=s.os:=ho;subst e;exact I.call (g':=g') (t':=t') (d':=d') u hok hg Ez
end
abbrev XK:=af->Option ah->Hp->Prop
abbrev St:=List (Option V)
abbrev VK:=V->Hp->Prop
abbrev TE:=St->Hp->VK->Prop
abbrev TT:=St->Hp->(Bool->Hp->Prop)->Prop
abbrev TA:=St->Hp->(List V->Hp->Prop)->Prop
structure Ends where
 nx:St->Hp->Prop
 rt:VK
 bk:St->Hp->Prop:=λ_ _=>False
 ct:St->Hp->Prop:=λ_ _=>False
abbrev TS:=Ends->St->Hp->Prop
def EP(X:Cx)(pins:List (ah×Obj))(σ:St)(Q:VK)(u:af)(s':ag):Prop:=∃v H',Inv X pins σ H' s'/\RelV v u/\Q v H'
def TP(X:Cx)(pins:List (ah×Obj))(σ:St)(Q:Bool->Hp->Prop)(b:Bool)(s':ag):Prop:=∃H',Inv X pins σ H' s'/\Q b H'
def AP(X:Cx)(pins:List (ah×Obj))(σ:St)(Q:List V->Hp->Prop)(us:List af)(s':ag):Prop:=∃vs H',Inv X pins σ H' s'/\Bs vs us/\Q vs H'
def SP(X:Cx)(pins:List (ah×Obj))(D:Ends)(f:Flow)(s':ag):Prop:=
 match f with
 |.next=>∃σ' H',Inv X pins σ' H' s'/\D.nx σ' H'
 |.brk=>∃σ' H',Inv X pins σ' H' s'/\D.bk σ' H'
 |.cont=>∃σ' H',Inv X pins σ' H' s'/\D.ct σ' H'
 |.ret u=>∃v σ' H',Inv X pins σ' H' s'/\RelV v u/\D.rt v H'
def PE(X:Cx)(e:bq)(t:TE):Prop:=∀(pins:List (ah×Obj))(s:ag)(σ:St)(H:Hp)(Q:VK),Inv X pins σ H s->t σ H Q->wpAny (model X.prog X.w) X.A (eval e X.env) (EP X pins σ Q) X.xe s
def PT(X:Cx)(e:bq)(t:TT):Prop:=∀(pins:List (ah×Obj))(s:ag)(σ:St)(H:Hp)(Q:Bool->Hp->Prop),Inv X pins σ H s->t σ H Q->wpAny (model X.prog X.w) X.A (isTrue e X.env (eval e X.env)) (TP X pins σ Q) X.xe s
def PW(X:Cx)(e:bq)(t:TT):Prop:=∀(whole:Sem af)(pins:List (ah×Obj))(s:ag)(σ:St)(H:Hp)(Q:Bool->Hp->Prop),Inv X pins σ H s->t σ H Q->wpAny (model X.prog X.w) X.A (isTrue e X.env whole) (TP X pins σ Q) X.xe s
def PW.pt(h:PW X e t):PT X e t:=h _
def PA(X:Cx)(es:List bq)(t:TA):Prop:=∀(pos:Pos)(pins:List (ah×Obj))(s:ag)(σ:St)(H:Hp)(Q:List V->Hp->Prop),Inv X pins σ H s->t σ H Q->wpAny (model X.prog X.w) X.A (spliced (backTo pos (ay es X.env))) (AP X pins σ Q) X.xe s
def PS(X:Cx)(st:gw)(t:TS):Prop:=∀(pins:List (ah×Obj))(s:ag)(σ:St)(H:Hp)(D:Ends),Inv X pins σ H s->t D σ H->wpAny (model X.prog X.w) X.A (exec st X.env) (SP X pins D) X.xe s
def Gf(X:Cx)(st:List gw)(t:TS):Prop:=∀(pins:List (ah×Obj))(s:ag)(σ:St)(H:Hp)(D:Ends),Inv X pins σ H s->t D σ H->wpAny (model X.prog X.w) X.A (execs st X.env) (SP X pins D) X.xe s
theorem aY{α:Type}{t:Sem α}{Q Q':α->ag->Prop}{M:zh}{A:cb}{E:af->ag->Prop}{s:ag}(h:wpAny M A t Q E s)(hQ:∀a s,Q a s->Q' a s):wpAny M A t Q' E s:=kv h hQ λ_ _ x=>x
section
variable{X:Cx}
def UI(i:Nat):TE:=λσ H Q=>∃v,σ[i]?=some (some v)/\Q v H
def tC(v:V):TE:=λ_ H Q=>Q v H
def zA(hN:X.N[i]?=some x)(hv:mU X.env.scope x)(hd:(x==Hn)=false:=by decide)(hcd:(x==("__classdict__":Str))=false:=by decide):PE X (.Name x pos) (UI i):=by
 intro pins s σ H Q I h;let⟨v,e,h⟩:=h;let⟨m,hn,hl⟩:=I.loc;let⟨u,r,l⟩:=hl i x v hN e hv;have fin:EP X pins σ Q u s:=⟨v,H,I,r,h⟩
 rcases l with⟨hk,hm⟩|⟨hk,c,hc,hcell⟩
 ·exact wpAny_Name (wpAny_loadName_local I.ok.kind hk hn hm fin) hd
 ·rcases hk with hk|hk
  ·exact wpAny_Name (wpAny_loadName_cell I.ok.kind hk hc hcell fin) hd
  ·exact wpAny_Name (wpAny_loadName_free I.ok.kind hk hc hcell fin hcd) hd
def UJ{i j pos}:PE X (.Constant (.int i) j pos) (tC (.int i)):=λ_ _ _ H _ I h=>wpAny_Constant_int ⟨.int i,H,I.tok _,⟨_,rfl⟩,h⟩
def UK{b j pos}:PE X (.Constant (.bool b) j pos) (tC (.bl b)):=λ_ _ _ H _ I h=>Constant_bool ⟨.bl b,H,I,rfl,h⟩
def JU{j pos}:PE X (.Constant .none j pos) (tC .non):=λ_ _ _ H _ I h=>Constant_none ⟨.non,H,I,rfl,h⟩
def UL{x j pos}:PE X (.Constant (.str x) j pos) (tC (.str x)):=λ_ _ _ H _ I h=>Calls.Constant_str ⟨.str x,H,I.tok _,⟨_,rfl⟩,h⟩
def Gl(X:Cx)(x:Str):Prop:=X.env.kindOf x=some .globalImplicit
def vY{Q:af->ag->Prop}(I:Inv X pins σ H s)(hg:Gl X x)(hm:X.mg x=some u)(h:Q u s)(hd:(x==Hn)=false:=by decide):wpAny (model X.prog X.w) X.A (eval (.Name x pos) X.env) Q E s:=
 Calls.Name_function_global I.ok.kind hg (Calls.loadGlobal_global (by rw[I.ok.glob];exact I.mod.glob.keeps I.bk) hm h) hd
def tH{Q:af->ag->Prop}(I:Inv X pins σ H s)(hg:Gl X x)(hm:X.mg x=none)(hv:dz x=some u)(h:Q u s)(hn:x≠"__name__":=by decide)(hd:(x==Hn)=false:=by decide):wpAny (model X.prog X.w) X.A (eval (.Name x pos) X.env) Q E s:=by
 let⟨mb,h1,h2⟩:=I.mod.blt;exact Calls.Name_function_global I.ok.kind hg (Calls.loadGlobal_builtin (by rw[I.ok.glob];exact I.mod.glob.keeps I.bk) hm (by rw[I.ok.blt];exact h1.keeps I.bk) ((h2 x hn).trans hv) h) hd
def JV{v:V}(hg:Gl X x)(hm:X.mg x=some u)(r:RelV v u)(hd:(x==Hn)=false:=by decide):PE X (.Name x pos) (tC v):=λ_ _ _ H _ I h=>vY I hg hm ⟨v,H,I,r,h⟩ hd
variable{a b:bq}{ta tb:TE}{pos:Pos}
def tB(t:TE):TT:=λσ H Q=>t σ H λx H1=>∃c,x=.bl c/\Q c H1
variable{tA tB':TT}{rest:List bq}
def JW(t u:TT):TT:=λσ H Q=>t σ H λc H1=>if c=true then u σ H1 Q else Q false H1
def JX(t u:TT):TT:=λσ H Q=>t σ H λc H1=>if c=true then Q true H1 else u σ H1 Q
def UM(t:TT):TT:=λσ H Q=>t σ H λc H1=>Q (!c) H1
def UN(ha:PT X a tA):PW X (.BoolOp .And [a] pos) tA:=by
 intro wh pins s σ H Q I h;refine isTrue_and (aY (ha pins s σ H Q I h) λc s1 e=>?_)
 cases c with
 |true=>exact isTrue_and_nil e
 |false=>exact e
def UO(ha:PT X a tA):PW X (.BoolOp .Or [a] pos) tA:=by
 intro wh pins s σ H Q I h;refine isTrue_or (aY (ha pins s σ H Q I h) λc s1 e=>?_)
 cases c with
 |false=>exact isTrue_or_nil e
 |true=>exact e
theorem UP(ha:PT X a tA)(hb:PW X (.BoolOp .And (b::rest) pos) tB'):PW X (.BoolOp .And (a::b::rest) pos) (JW tA tB'):=by
 intro wh pins s σ H Q I h;refine isTrue_and (aY (ha pins s σ H _ I h) λc s1⟨H1,I1,q1⟩=>?_)
 cases c with
 |true=>exact hb wh pins s1 σ H1 Q I1 q1
 |false=>exact⟨H1,I1,q1⟩
theorem UQ(ha:PT X a tA)(hb:PW X (.BoolOp .Or (b::rest) pos) tB'):PW X (.BoolOp .Or (a::b::rest) pos) (JX tA tB'):=by
 intro wh pins s σ H Q I h;refine isTrue_or (aY (ha pins s σ H _ I h) λc s1⟨H1,I1,q1⟩=>?_)
 cases c with
 |true=>exact⟨H1,I1,q1⟩
 |false=>exact hb wh pins s1 σ H1 Q I1 q1
def UR(ha:PT X a tA):PT X (.UnaryOp .Not a pos) (UM tA):=by intro pins s σ H Q I h;exact isTrue_not (ha pins s σ H (λc H1=>Q (!c) H1) I h)
def US(ta tb:TE):TE:=λσ H Q=>ta σ H λx H1=>∃c,x=.bl c/\if c=true then tb σ H1 Q else Q (.bl false) H1
def UT(ta:TE):TE:=λσ H Q=>ta σ H λx H1=>∃c,x=.bl c/\Q (.bl (!c)) H1
def UU{op}(h:PE X a t):PE X (.BoolOp op [a] pos) t:=λpins s σ H Q I hw=>BoolOp_one (h pins s σ H Q I hw)
theorem UW(ha:PE X a ta)(hb:PE X (.BoolOp .And (b::rest) pos) tb):PE X (.BoolOp .And (a::b::rest) pos) (US ta tb):=by
 intro pins s σ H Q I h;refine BoolOp_and (aY (ha pins s σ H _ I h) λv s1⟨x,H1,I1,r1,q1⟩=>?_);obtain⟨c,rfl,q1⟩:=q1;cases r1;refine nj ?_
 cases c with
 |true=>exact hb pins s1 σ H1 Q I1 q1
 |false=>exact⟨.bl false,H1,I1,rfl,q1⟩
def UX(ha:PE X a ta):PE X (.UnaryOp .Not a pos) (UT ta):=by intro pins s σ H Q I h;refine UnaryOp_ (aY (ha pins s σ H _ I h) λv s1⟨x,H1,I1,r1,q1⟩=>?_);obtain⟨c,rfl,q1⟩:=q1;cases r1;exact not_of (nj ⟨.bl (!c),H1,I1,rfl,q1⟩)
end
def Cu(K:ar)(H:Hp)(a:ah)(xs:List V):Prop:=
 Rd H a (.lst xs) ∨
  ∃(o:Obj)(its:Array af)(n:Nat),K.lookup a=some o/\o.cls=.type "list"/\o.dict=none/\o.data=.seq its n/\its.size<=cg/\Bs xs its.toList
def Cd(K:ar)(H:Hp)(a:ah)(xs:List V):Prop:=
 Rd H a (.tup xs) ∨
  ∃(o:Obj)(its:Array af)(n:Nat),K.lookup a=some o/\o.cls=.type "tuple"/\o.data=.seq its n/\its.size<=cg/\Bs xs its.toList
def UY:af->Option V
 |.none=>some .non
 |.bool b=>some (.bl b)
 |.int i _=>some (.int i)
 |.str x _=>some (.str x)
 |.bytes b _=>some (.byt b)
 |.float b _=>some (.flt b)
 |.ref a=>some (.ref a)
 |.type n=>some (.ty n)
 |_=>none
def RelV.abs(r:RelV x u):UY u=some x:=by
 cases x with
 |non=>cases r;rfl
 |bl _=>cases r;rfl
 |int _=>obtain⟨t,rfl⟩:=r;rfl
 |str _=>obtain⟨t,rfl⟩:=r;rfl
 |byt _=>obtain⟨t,rfl⟩:=r;rfl
 |flt _=>obtain⟨t,rfl⟩:=r;rfl
 |ref _=>cases r;rfl
 |ty _=>cases r;rfl
def RelV.inj(r:RelV x u)(q:RelV y u):x=y:=cw (r.abs.symm.trans q.abs)
theorem Bs.inj:∀{xs ys:List V}{us:List af},Bs xs us->Bs ys us->xs=ys
 |_,_,_,.nil,.nil=>rfl
 |_,_,_,.cons r t,.cons r' t'=>by rw[r.inj r',Bs.inj t t']
section
variable{X:Cx}{pins:List (ah×Obj)}{σ:St}{H:Hp}{s:ag}{a:ah}{xs ys:List V}
def Cu.of{K:ar}(h:H a=some (.lst xs)):Cu K H a xs:=.inl (.inl h)
def Cd.of{K:ar}(h:H a=some (.tup xs)):Cd K H a xs:=.inl (.inl h)
def Inv.list(I:Inv X pins σ H s)(h:Cu X.K H a xs):∃its:List af,Bs xs its/\PlainL s.heap a its.toArray/\xs.length<=cg:=by
 rcases h with h|⟨o,its,n,hk,hc,hd,hs,hz,r⟩
 ·let⟨z,its,n,r,e⟩:=h.ok I.hok;exact⟨its,r,⟨_,n,e,rfl,rfl,rfl⟩,z⟩
 ·refine⟨its.toList,r,⟨o,n,I.kIn a o hk,hc,hd,by simpa using hs⟩,?_⟩;have e:=r.length;simp only[nq]at e;omega
def Inv.tuple(I:Inv X pins σ H s)(h:Cd X.K H a xs):∃its:List af,Bs xs its/\yh s.heap a its.toArray/\xs.length<=cg:=by
 rcases h with h|⟨o,its,n,hk,hc,hs,hz,r⟩
 ·let⟨z,its,r,p⟩:=h.ok I.hok;exact⟨its,r,p.tup,z⟩
 ·refine⟨its.toList,r,⟨o,I.kIn a o hk,hc,n,by simpa using hs⟩,?_⟩;have e:=r.length;simp only[nq]at e;omega
def Inv.list_inj(I:Inv X pins σ H s)(h:Cu X.K H a xs)(h':Cu X.K H a ys):xs=ys:=by
 let⟨its,r,⟨o,n,e,_,_,d⟩,_⟩:=I.list h;let⟨its',r',⟨o',n',e',_,_,d'⟩,_⟩:=I.list h';rw[e]at e';cases e';rw[d]at d';injection d' with d1 _;have:its=its':=by simpa using congrArg Array.toList d1
 subst this;exact r.inj r'
def Inv.tuple_inj(I:Inv X pins σ H s)(h:Cd X.K H a xs)(h':Cd X.K H a ys):xs=ys:=by
 let⟨its,r,⟨o,e,_,n,d⟩,_⟩:=I.tuple h;let⟨its',r',⟨o',e',_,n',d'⟩,_⟩:=I.tuple h';rw[e]at e';cases e';rw[d]at d';injection d' with d1 _;have:its=its':=by simpa using congrArg Array.toList d1
 subst this;exact r.inj r'
end
abbrev Cx.wish(X:Cx)(E:af->ag->Prop):Cx:={X with xe:=E}
abbrev Cx.nox(X:Cx):Cx:=X.wish λ_ _=>False
def Cx.Ok.wish{X:Cx}(ok:X.Ok)(E:af->ag->Prop):(X.wish E).Ok:=⟨ok.mod,ok.kind,ok.glob,ok.blt,ok.above,ok.inj,ok.has,ok.cab,ok.hd,ok.frames,ok.stk,ok.exf,ok.bs,ok.bsz,ok.noex,ok.exfs,ok.funs,ok.frf⟩
def Cx.Ok.unwish{X:Cx}(ok:(X.wish E).Ok):X.Ok:=⟨ok.mod,ok.kind,ok.glob,ok.blt,ok.above,ok.inj,ok.has,ok.cab,ok.hd,ok.frames,ok.stk,ok.exf,ok.bs,ok.bsz,ok.noex,ok.exfs,ok.funs,ok.frf⟩
section
variable{X:Cx}{pins:List (ah×Obj)}{σ:St}{H:Hp}{s:ag}{E:af->ag->Prop}
def Inv.wish(I:Inv X pins σ H s)(E:af->ag->Prop):Inv (X.wish E) pins σ H s:=⟨I.ok.wish E,I.os,I.bare,I.base,I.loc,I.cell,I.free,I.freeC,I.pin,I.hok,I.len⟩
def Inv.unwish(I:Inv (X.wish E) pins σ H s):Inv X pins σ H s:=⟨I.ok.unwish,I.os,I.bare,I.base,I.loc,I.cell,I.free,I.freeC,I.pin,I.hok,I.len⟩
end
section
variable{X:Cx}{st:gw}{rest:List gw}{t u:TS}{e:bq}{te:TE}{pos:Pos}
def UZ:TS:=λD σ H=>D.nx σ H
def VA(t u:TS):TS:=λD σ H=>t {D with nx:=u D} σ H
def VB:Gf X [] UZ:=λ_ _ σ H _ I h=>ou ⟨σ,H,I,h⟩
theorem VC(h1:PS X st t)(h2:Gf X rest u):Gf X (st::rest) (VA t u):=by
 intro pins s σ H D I h;refine qp (aY (h1 pins s σ H {D with nx:=u D} I h) λf s1 q=>?_)
 cases f with
 |next=>obtain⟨σ',H',I',q⟩:=q;exact h2 pins s1 σ' H' D I' q
 |ret v=>exact q
 |brk=>exact q
 |cont=>exact q
def JY(h1:PS X st t):Gf X [st] t:=by
 intro pins s σ H D I h;refine qp (aY (h1 pins s σ H D I h) λf s1 q=>?_)
 cases f with
 |next=>exact ou q
 |ret v=>exact q
 |brk=>exact q
 |cont=>exact q
def Inv.quiet(I:Inv X pins σ H s):interactive X.env=false:=by simp[interactive,I.ok.kind]
def VD(te:TE):TS:=λD σ H=>te σ H λ_ H1=>D.nx σ H1
theorem VE(he:PE X e te)(hs:swapsWith e none pos.line X.env=pure false:=by rfl):PS X (.Expr e pos) (VD te):=by intro pins s σ H D I h;exact wpAny_Expr_any (aY (he pins s σ H _ I h) λv s1⟨x,H1,I1,r1,q1⟩=>⟨σ,H1,I1,q1⟩) I.quiet hs
def VF(te:TE):TS:=λD σ H=>te σ H D.rt
def VG(he:PE X e te):PS X (.Return (some e) pos) (VF te):=by intro pins s σ H D I h;exact wpAny_Return_some (aY (he pins s σ H _ I h) λv s1⟨x,H1,I1,r1,q1⟩=>⟨x,σ,H1,I1,r1,q1⟩)
def VH(c:TT)(t u:TS):TS:=λD σ H=>c σ H λb H1=>if b=true then t D σ H1 else u D σ H1
theorem VI{c:bq}{a b:List gw}{tc:TT}(hc:PT X c tc)(ha:Gf X a t)(hb:Gf X b u):PS X (.If c a b pos) (VH tc t u):=by
 intro pins s σ H D I h;refine wpAny_If (aY (hc pins s σ H _ I h) λd s1⟨H1,I1,q1⟩=>?_)
 cases d with
 |true=>exact ha pins s1 σ H1 D I1 q1
 |false=>exact hb pins s1 σ H1 D I1 q1
end
abbrev TG:=V->St->Hp->(St->Hp->Prop)->Prop
abbrev oM:=List V->St->Hp->(St->Hp->Prop)->Prop
def PG(X:Cx)(target:bq)(t:TG):Prop:=
 ∀(pins:List (ah×Obj))(s:ag)(σ:St)(H:Hp)(v:V)(u:af)(Q:St->Hp->Prop),Inv X pins σ H s->RelV v u->t v σ H Q->
  wpAny (model X.prog X.w) X.A (assign target X.env u) (λ_ s'=>∃σ' H',Inv X pins σ' H' s'/\Q σ' H') X.xe s
def PGs(X:Cx)(ts:List bq)(t:oM):Prop:=
 ∀(pins:List (ah×Obj))(s:ag)(σ:St)(H:Hp)(vs:List V)(us:List af)(Q:St->Hp->Prop),Inv X pins σ H s->Bs vs us->t vs σ H Q->
  wpAny (model X.prog X.w) X.A (assignInOrder ((assignEach ts X.env).map (·.2)) us) (λ_ s'=>∃σ' H',Inv X pins σ' H' s'/\Q σ' H') X.xe s
abbrev DS:=V->V->V->Hp->(Hp->Prop)->Prop
def JZ(X:Cx)(t:DS):Prop:=
 ∀(pins:List (ah×Obj))(s:ag)(σ:St)(H:Hp)(o i v:V)(ov iv u:af)(Q:Hp->Prop),Inv X pins σ H s->RelV o ov->RelV i iv->RelV v u->t o i v H Q->
  wpAny (model X.prog X.w) X.A (setItem ov iv u) (λ_ s'=>∃H',Inv X pins σ H' s'/\Q H') X.xe s
section
variable{X:Cx}{pos:Pos}
def DT(i:Nat):TG:=λv σ H Q=>Q (σ.set i (some v)) H
def VJ(hN:X.N.Nodup)(hi:X.N[i]?=some x)(hx:mV X.env.scope x)(hf:X.fn x=true∨X.env.scope.names.lookup x=some .local:=by first|exact .inl rfl|exact .inr rfl|assumption):PG X (.Name x pos) (DT i):=by intro pins s σ H v u Q I r h;exact wpAny_assign_Name (vX I hN hi hx r (λs' I'=>⟨_,H,I',h⟩) hf)
def VL:oM:=λvs σ H Q=>vs=[]/\Q σ H
def VM(t:TG)(u:oM):oM:=λvs σ H Q=>∃v r,vs=v::r/\t v σ H λσ' H'=>u r σ' H' Q
theorem J0:PGs X [] VL:=by intro pins s σ H vs us Q I r h;obtain⟨e,h⟩:=h;subst e;cases r;exact assignInOrder_nil ⟨σ,H,I,h⟩
theorem DU{e:bq}{es:List bq}{t:TG}{u:oM}(h1:PG X e t)(h2:PGs X es u)(hs:(assignEach (e::es) X.env).map (·.2)=assign e X.env::(assignEach es X.env).map (·.2):=by rfl):PGs X (e::es) (VM t u):=by
 intro pins s σ H vs us Q I r h;obtain⟨v,vr,e1,h⟩:=h;subst e1
 cases r with
 |cons r rr=>rw[hs];refine ya (aY (h1 pins s σ H _ _ _ I r h) λ_ s1⟨σ1,H1,I1,q1⟩=>?_);exact h2 pins s1 σ1 H1 _ _ Q I1 rr q1
def VN(K:ar)(n:Nat)(t:oM):TG:=λv σ H Q=>∃a xs,v=.ref a/\Cd K H a xs/\xs.length=n/\t xs σ H Q
theorem J1{es:List bq}{k:Nat}{t:oM}{n:Nat}(hc:X.calm=true)(h:PGs X es t)(hn:(assignEach es X.env).length=n:=by rfl)(F':(assignEach es X.env).findIdx? (·.1)=none:=by rfl):PG X (.Tuple es k pos) (VN X.K n t):=by
 intro pins s σ H v u Q I r hw;obtain⟨a,xs,e1,hq,hl,hw⟩:=hw;subst e1;cases r;obtain⟨its,rv,ht,hz⟩:=I.tuple hq;refine assign_Tuple_tuple (I.ok.hd hc) ht (by simp[hn,<-hl,rv.length]) F' λh' hx=>?_;have I1:Inv X pins σ H {s with heap:=h'}:=I.kept (t':=s.toks) λb o e=>hx b o (bc (av e)) e;exact h pins _ σ H xs _ Q I1 (by simpa using rv) hw
def VO(to ti:TE)(t:DS):TG:=λv σ H Q=>to σ H λo H1=>ti σ H1 λi H2=>t o i v H2 λH3=>Q σ H3
theorem DV{o i:bq}{to ti:TE}{t:DS}(ho:PE X o to)(hi:PE X i ti)(hs:JZ X t)(ha:∀v,assign (.Subscript o i pos) X.env v=(do
   let ov <-holding [v] (eval o X.env)
   let iv <-holding [v,ov] (eval i X.env)
   standAt pos
   holding [v,ov,iv] (setItem ov iv v)
   release [v,ov,iv] []):=by intro _;rfl):PG X (.Subscript o i pos) (VO to ti t):=by
 intro pins s σ H v u Q I r h;rw[ha];refine aa (gy (aY (ho pins s σ H _ I h) λov s1⟨x,H1,I1,r1,q1⟩=>?_));refine aa (gy (aY (hi pins s1 σ H1 _ I1 q1) λiv s2⟨y,H2,I2,r2,q2⟩=>?_));refine aa (qv (aa (gy (aY (hs pins s2 σ H2 x y v ov iv u _ I2 r1 r2 r q2) λ_ s3⟨H3,I3,q3⟩=>?_))));exact wpAny_release ⟨σ,H3,I3,q3⟩
def zB(te:TE)(g:TG):TS:=λD σ H=>te σ H λx H1=>g x σ H1 D.nx
theorem DW{tg e:bq}{te:TE}{g:TG}(he:PE X e te)(hg:PG X tg g)(hs:swapsWithSole [tg] e pos.line X.env=pure false:=by rfl)(hw:swappedStores [tg] e X.env=pure none:=by rfl)(h1:(assignEach [tg] X.env).map (·.2)=[assign tg X.env]:=by rfl):PS X (.Assign [tg] e pos) (zB te g):=by
 intro pins s σ H D I h;refine wpAny_Assign_stores (aY (he pins s σ H _ I h) λv s1⟨x,H1,I1,r1,q1⟩=>?_) hs hw;rw[h1];exact aY (hg pins s1 σ H1 x v _ I1 r1 q1) λ_ s2 q=>q
theorem DX{i:Nat}{x:Str}{e:bq}{te:TE}{pos':Pos}(hN:X.N.Nodup)(hi:X.N[i]?=some x)(hx:mV X.env.scope x)(he:PE X e te)(hs:swapsWith e (some (.Name x pos')) pos.line X.env=pure false:=by rfl)(hf:X.fn x=true∨X.env.scope.names.lookup x=some .local:=by first|exact .inl rfl|exact .inr rfl|assumption):
  PS X (.Assign [.Name x pos'] e pos) (zB te (DT i)):=by
 intro pins s σ H D I h;refine wpAny_Assign_Name (aY (he pins s σ H _ I h) λv s1⟨y,H1,I1,r1,q1⟩=>?_) hs;exact vX I1 hN hi hx r1 (λs2 I2=>⟨_,H1,I2,q1⟩) hf
def VP(i j:Nat)(ta:TA):TS:=λD σ H=>ta σ H λvs H1=>∃v w,vs=[v,w]/\D.nx ((σ.set i (some v)).set j (some w)) H1
theorem VQ{i j:Nat}{x y:Str}{a b:bq}{ta:TA}{px py pt:Pos}{kt k2 pt2}(hc:X.calm=true)(hN:X.N.Nodup)(hi:X.N[i]?=some x)(hj:X.N[j]?=some y)(Dg:i≠j)(hx:X.env.scope.names.lookup x=some .local)(hy:X.env.scope.names.lookup y=some .local)(ha:PA X [a,b] ta)(hw:swappedStores [.Tuple [.Name x px,.Name y py] kt pt] (.Tuple [a,b] k2 pt2) X.env=pure (some [x,y]))(hs:swapsWithSole [.Tuple [.Name x px,.Name y py] kt pt] (.Tuple [a,b] k2 pt2) pos.line X.env=pure false:=by rfl):
  PS X (.Assign [.Tuple [.Name x px,.Name y py] kt pt] (.Tuple [a,b] k2 pt2) pos) (VP i j ta):=by
 intro pins s σ H D I h;rw[exec_Assign_arm];refine aa (qv ?_);rw[hs];refine aa (ak ?_);rw[if_neg (by decide)];refine aa (Tuple_ (aY (ha _ pins s σ H _ I h) λus s1⟨vs,H1,I1,r1,q1⟩=>?_));obtain⟨v,w,e1,q1⟩:=q1;subst e1;obtain⟨u1,u2,rfl,rv,rw'⟩:∃u1 u2,us=[u1,u2]/\RelV v u1/\RelV w u2:=by
  cases r1 with
  |cons p q=>
   cases q with
   |cons p' q'=>cases q';exact⟨_,_,rfl,p,p'⟩
 refine dw ?_ (by show 2<=cg;decide);have I2:Inv X pins σ H1 {s1 with heap:=s1.heap.push {cls:=.type "tuple",data:=.seq [u1,u2].toArray} }:=I1.kept (t':=s1.toks) λb o e=>ao _ e;rw[hw];refine aa (ak ?_);show wpAny (model X.prog X.w) X.A (do rule "assign.swapped-stores"; let items <-unpackItems (.ref s1.heap.objs.size) 2 none;assignInOrder [λv=>bindName X.env y v,λv=>bindName X.env x v] items.reverse;pure Flow.next) _ _ _;refine aa (tq (aa (unpackItems_tuple (items:=#[u1,u2]) (I.ok.hd hc) (IsTup.new s1.heap _) λh' Fz=>?_)));have I3:=I2.kept (h':=h') (t':=s1.toks) λb o e=>Fz b o (bc (av e)) e;show wpAny _ _ (assignInOrder [λv=>bindName X.env y v,λv=>bindName X.env x v] [u2,u1] >>=λ_=>pure Flow.next) _ _ _;refine aa (ya (wpAny_bindName (vX I3 hN hj (.inl hy) rw' (λs2 I4=>?_) (.inr hy))));refine ya (wpAny_bindName (vX I4 hN hi (.inl hx) rv (λs3 I5=>assignInOrder_nil (ak ?_)) (.inr hx)));rw[List.set_comm _ _ (dh Dg)]at I5;exact⟨_,H1,I5,q1⟩
end
section
variable{X:Cx}{pos:Pos}
def VR(c:TT)(tb:TS):TS:=λD σ H=>∃W:Nat->St->Hp->Prop,(∃m,W m σ H)/\∀m σ H,W m σ H->
 c σ H λb H1=>if b=true then ∃N:St->Hp->Prop,(∀σ' H',N σ' H'->∃m',m'<m/\W m' σ' H')/\tb {D with nx:=N,ct:=N,bk:=D.nx} σ H1 else D.nx σ H1
theorem VS{c:bq}{body:List gw}{tc:TT}{tb:TS}(hp:yy (model X.prog X.w) X.A X.env X.xe)(hc:PT X c tc)(hb:Gf X body tb):PS X (.While c body [] pos) (VR tc tb):=by
 intro pins s σ H D I h;obtain⟨W,⟨m0,w0⟩,turn⟩:=h;refine wpAny_While (codeAny_whileLoop (λn s'=>∃σ' H',Inv X pins σ' H' s'/\W n σ' H') ?_ m0 ⟨σ,H,I,w0⟩)
 rintro n s1 ⟨σ1,H1,I1,w1⟩
 refine my hp (aY (hc pins s1 σ1 H1 _ I1 (turn n σ1 H1 w1)) λb s2⟨H2,I2,q2⟩=>?_)
 cases b with
 |true=>
  obtain⟨N,hN,q2⟩:=q2;rw[if_pos rfl];refine my hp (aY (hb pins s2 σ1 H2 _ I2 q2) λf s3 q3=>?_)
  cases f with
  |next=>obtain⟨σ3,H3,I3,n3⟩:=q3;obtain⟨m',hm,w3⟩:=hN σ3 H3 n3;exact⟨m',hm,σ3,H3,I3,w3⟩
  |cont=>obtain⟨σ3,H3,I3,n3⟩:=q3;obtain⟨m',hm,w3⟩:=hN σ3 H3 n3;exact⟨m',hm,σ3,H3,I3,w3⟩
  |brk=>exact q3
  |ret v=>exact q3
 |false=>rw[if_neg ic];exact ou ⟨σ1,H2,I2,q2⟩
end
structure It where
 go:Nat->Hp->Prop
 yld:Nat->Hp->V->Hp->Prop
 stop:Nat->Hp->Prop
def dC(X:Cx)(pins:List (ah×Obj))(H:Hp)(b:ah):Prop:=H b=none/\b≠X.env.locals/\b∉X.fs/\(b∈X.ex∨X.s₀.heap.objs.size<=b)/\(∀x c,X.env.cells.lookup x=some c->c≠b)/\∀p∈X.pn++pins,p.1≠b
def Inv.fpOk{H H':Hp}(I:Inv X pins σ H s)(hb:s.heap.objs.size<=b)(hn:H' b=none):dC X pins H' b:=by
 refine⟨hn,jw (aw I.lt hb),I.nofs hb,.inr (cp I.sz hb),λx c e z=>?_,λp hp z=>?_⟩
 ·let⟨v,q⟩:=I.cell x c e;exact absurd (aw q.lt (by rw[z];exact hb)) (ig _)
 ·exact absurd (aw (av (I.pin p hp).1) (by rw[z];exact hb)) (ig _)
structure Turn(P:bp)(w:cm)(K:ar)(tg:bq)(J:It)(fp:List ah)(it:ah)(tn:Nat->cu->Prop):Prop where
 mem:it∈fp
 obj:∀i h,tn i h->∀b∈fp,∃o,h.get? b=some o/\∀v,o.data≠.cell v
 keep:∀i h h',tn i h->(∀b∈fp,∀o,h.get? b=some o->h'.get? b=some o)->tn i h'
 item:∀(X:Cx),X.prog=P->X.w=w->X.K=K->X.calm=true->∀(i:Nat)(pins:List (ah×Obj))(s:ag)(σ:St)(H:Hp)(E:af->ag->Prop),Inv X pins σ H s->(∀b∈fp,dC X pins H b)->tn i s.heap->J.go i H->
  wpAny (model P w) X.A (pyNext (.ref it)) (λr s1=>∃u,r=some u/\
   wpAny (model P w) X.A (letOwnedTupleGo tg (.ref it) u) (λ_ s2=>∃x H',Inv X pins σ H' s2/\RelV x u/\J.yld i H x H'/\tn (i+1) s2.heap/\∀b∈fp,H' b=none) E s1) E s
 done:∀(X:Cx),X.prog=P->X.w=w->X.K=K->X.calm=true->∀(i:Nat)(pins:List (ah×Obj))(s:ag)(σ:St)(H:Hp)(E:af->ag->Prop),Inv X pins σ H s->(∀b∈fp,dC X pins H b)->tn i s.heap->J.stop i H->
  wpAny (model P w) X.A (pyNext (.ref it)) (λr s1=>r=none/\Inv X pins σ H s1) E s
 self:∀(A:cb)(i:Nat)(s:ag)(Q:af->ag->Prop)(E:af->ag->Prop),tn i s.heap->Q (.ref it) s->wpAny (model P w) A (pyIter (.ref it)) Q E s
abbrev TI:=St->Hp->(It->Hp->Prop)->Prop
def J2(X:Cx)(pins:List (ah×Obj))(σ:St)(tg:bq)(R:It->Hp->Prop)(itv:af)(s2:ag):Prop:=∃(it:ah)(fp:List ah)(tn:Nat->cu->Prop)(J:It)(H':Hp),itv=.ref it/\Inv X pins σ H' s2/\Turn X.prog X.w X.K tg J fp it tn/\tn 0 s2.heap/\(∀b∈fp,dC X pins H' b)/\R J H'
def PI(X:Cx)(tg iter:bq)(wi:TI):Prop:=
 ∀(pins:List (ah×Obj))(s:ag)(σ:St)(H:Hp)(R:It->Hp->Prop),Inv X pins σ H s->wi σ H R->
  wpAny (model X.prog X.w) X.A (eval iter X.env) (λv s1=>wpAny (model X.prog X.w) X.A (pyIter v) (J2 X pins σ tg R) X.xe s1) X.xe s
def DY{M:zh}{s:ag}{Q:Unit->ag->Prop}(ho:s.heap.get? it=some o)(hc:o.cls=.type n)(hd:o.data=.fields vs)(hn:["enumerate","zip","dict_itemiterator","dict_reverseitemiterator","odict_iterator","itertools.zip_longest","itertools.pairwise"].contains n=false)(hQ:Q () s):wpAny M A (letOwnedTupleGo tg (.ref it) u) Q E s:=by
 unfold letOwnedTupleGo
 cases tg<;>first
  |exact ak hQ
  |(cases u<;>first
    |exact ak hQ
    |(refine aa (wpAny_load ho ?_);rw[hc,hd];show wpAny M A (if(["enumerate","zip","dict_itemiterator","dict_reverseitemiterator","odict_iterator","itertools.zip_longest","itertools.pairwise"].contains n&&vs[0]?==some (rawInt _))=true then _ else _) Q E s;rw[if_neg (by intro h;rw[hn,Bool.false_and]at h;cases h)];exact ak hQ))
def J3(K:ar)(a:ah):It:=⟨λi H=>∃xs x,Cu K H a xs/\xs[i]?=some x,λi H x H'=>H'=H/\∀xs,Cu K H a xs->xs[i]?=some x,λi H=>∃xs,Cu K H a xs/\xs.length<=i⟩
def DZ(K:ar)(a:ah):It:=⟨λi H=>∃xs x,Cd K H a xs/\xs[i]?=some x,λi H x H'=>H'=H/\∀xs,Cd K H a xs->xs[i]?=some x,λi H=>∃xs,Cd K H a xs/\xs.length<=i⟩
def vZ(lo:Int)(n:Nat):It:=⟨λi _=>i<n,λi H x H'=>H'=H/\x=.int (lo+i),λi _=>n<=i⟩
def VT{K:ar}(a it:ah):Turn P w K tg (J3 K a) [it] it (λi h=>h.IsListIter it a i) where
 mem:=by simp
 obj:=λi h st b hb=>by
  have e:b=it:=by simpa using hb
  subst e;let⟨o,e,c,d⟩:=st;exact⟨o,e,λv z=>by rw[d]at z;cases z⟩
 keep:=λi h h' st k=>st.at λo e=>k it (by simp) o e
 item:=by intro X hP hw hK hc i pins s σ H E I hf st hg;subst hP hw hK;let⟨xs,x,hq,hx⟩:=hg;let⟨its,rv,p,hz⟩:=I.list hq;let⟨u,hu,ru⟩:=rv.get hx;let⟨f0,f1,f2,f3,f4,f5⟩:=hf it (by simp);refine wpAny_pyNext_list_item st p.isList (x:=u) (by simpa using hu) λh' En sb=>?_;have I1:Inv X pins σ H {s with heap:=h'}:=I.turned (t':=s.toks) (λb o hb e=>(sb.2 b hb).trans e) f0 f1 f3 f4 f5;let⟨o,e,c,d⟩:=id En;exact⟨u,rfl,DY (s:={s with heap:=h'}) e c d (by decide) ⟨x,H,I1,ru,⟨rfl,λys hy=>by rw[I.list_inj hy hq];exact hx⟩,En,λb hb=>(hf b hb).1⟩⟩
 done:=by intro X hP hw hK hc i pins s σ H E I hf st hg;subst hP hw hK;let⟨xs,hq,hx⟩:=hg;let⟨its,rv,p,hz⟩:=I.list hq;let⟨f0,f1,f2,f3,f4,f5⟩:=hf it (by simp);have hl:=rv.length;exact wpAny_pyNext_list_end (I.ok.hd hc) st p.isList (by simp;omega) λh' eb=>⟨rfl,I.turned (t':=s.toks) (λb o hb e=>eb b o hb e) f0 f1 f3 f4 f5⟩
 self:=λ_ _ _ _ _ st h=>wpAny_pyIter_listiter st h
def VU{K:ar}(a it:ah):Turn P w K tg (DZ K a) [it] it (λi h=>h.IsTupleIter it a i) where
 mem:=by simp
 obj:=λi h st b hb=>by
  have e:b=it:=by simpa using hb
  subst e;let⟨o,e,c,d⟩:=st;exact⟨o,e,λv z=>by rw[d]at z;cases z⟩
 keep:=λi h h' st k=>st.at λo e=>k it (by simp) o e
 item:=by intro X hP hw hK hc i pins s σ H E I hf st hg;subst hP hw hK;let⟨xs,x,hq,hx⟩:=hg;let⟨its,rv,p,hz⟩:=I.tuple hq;let⟨u,hu,ru⟩:=rv.get hx;let⟨f0,f1,f2,f3,f4,f5⟩:=hf it (by simp);refine wpAny_pyNext_tuple_item st (show s.heap.IsTuple a its.toArray from p) (x:=u) (by simpa using hu) λh' En sb=>?_;have I1:Inv X pins σ H {s with heap:=h'}:=I.turned (t':=s.toks) (λb o hb e=>(sb.2 b hb).trans e) f0 f1 f3 f4 f5;let⟨o,e,c,d⟩:=id En;exact⟨u,rfl,DY (s:={s with heap:=h'}) e c d (by decide) ⟨x,H,I1,ru,⟨rfl,λys hy=>by rw[I.tuple_inj hy hq];exact hx⟩,En,λb hb=>(hf b hb).1⟩⟩
 done:=by intro X hP hw hK hc i pins s σ H E I hf st hg;subst hP hw hK;let⟨xs,hq,hx⟩:=hg;let⟨its,rv,p,hz⟩:=I.tuple hq;let⟨f0,f1,f2,f3,f4,f5⟩:=hf it (by simp);have hl:=rv.length;exact wpAny_pyNext_tuple_end (I.ok.hd hc) st (show s.heap.IsTuple a its.toArray from p) (by simp;omega) λh' eb=>⟨rfl,I.turned (t':=s.toks) (λb o hb e=>eb b o hb e) f0 f1 f3 f4 f5⟩
 self:=λ_ _ _ _ _ st h=>wpAny_pyIter_tupleiter st h
def VV{K:ar}(it:ah)(lo:Int)(n:Nat):Turn P w K tg (vZ lo n) [it] it (λi h=>IsRangeIter h it (lo+(i:Nat)*1) ((n:Int)-(i:Nat)) 1) where
 mem:=by simp
 obj:=λi h st b hb=>by
  have e:b=it:=by simpa using hb
  subst e;exact⟨_,st,λv z=>by
   have z':Data.fields _=Data.cell v:=z
   cases z'⟩
 keep:=λi h h' st k=>k it (by simp) _ st
 item:=by intro X hP hw hK hc i pins s σ H E I hf st hg;subst hP hw hK;let⟨f0,f1,f2,f3,f4,f5⟩:=hf it (by simp);have W:=Walks.range (prog:=X.prog) (w:=X.w) (I.ok.hd hc) it lo 1 n;refine W.item i s _ _ hg st λv h' tk hv En kk=>?_;obtain⟨t,rfl⟩:=hv;have I1:Inv X pins σ H {s with heap:=h',toks:=tk}:=I.turned (λb o hb e=>kk b o (by simpa using hb) e) f0 f1 f3 f4 f5;refine⟨_,rfl,DY (s:={s with heap:=h',toks:=tk}) (n:="range_iterator") En rfl rfl (by decide) ⟨.int (lo+i),H,I1,⟨t,?_⟩,⟨rfl,rfl⟩,En,λb hb=>(hf b hb).1⟩⟩;rw[Int.mul_one]
 done:=by intro X hP hw hK hc i pins s σ H E I hf st hg;subst hP hw hK;let⟨f0,f1,f2,f3,f4,f5⟩:=hf it (by simp);exact wpAny_pyNext_range_end (I.ok.hd hc) st (by have:n<=i:=hg;omega) λh' eb=>⟨rfl,I.turned (t':=s.toks) (λb o hb e=>eb b o hb e) f0 f1 f3 f4 f5⟩
 self:=λ_ _ _ _ _ st h=>wpAny_pyIter_rangeiter st h
section
variable{X:Cx}{tg:bq}
def VW(K:ar)(tl:TE):TI:=λσ H R=>tl σ H λx H1=>∃a,x=.ref a/\(∃xs,Cu K H1 a xs)/\R (J3 K a) H1
def VX(K:ar)(tl:TE):TI:=λσ H R=>tl σ H λx H1=>∃a,x=.ref a/\(∃xs,Cd K H1 a xs)/\R (DZ K a) H1
theorem VY{l:bq}{tl:TE}(hl:PE X l tl):PI X tg l (VW X.K tl):=by
 intro pins s σ H R I h;refine aY (hl pins s σ H _ I h) λv s1⟨x,H1,I1,r1,q1⟩=>?_;obtain⟨a,e,⟨xs,hq⟩,q⟩:=q1;subst e;cases r1;obtain⟨its,rv,p,hz⟩:=I1.list hq;refine uk p.isList ?_;refine⟨s1.heap.objs.size,[s1.heap.objs.size],_,_,H1,rfl,I1.kept (t':=s1.toks) λb o e=>ao _ e,VT a _,⟨_,bg _ rfl,rfl,rfl⟩,λb hb=>?_,q⟩;have e:b=s1.heap.objs.size:=by simpa using hb
 subst e;exact I1.fpOk (aq _) (I1.hok.fresh (aq _))
theorem VZ{l:bq}{tl:TE}(hl:PE X l tl):PI X tg l (VX X.K tl):=by
 intro pins s σ H R I h;refine aY (hl pins s σ H _ I h) λv s1⟨x,H1,I1,r1,q1⟩=>?_;obtain⟨a,e,⟨xs,hq⟩,q⟩:=q1;subst e;cases r1;obtain⟨its,rv,p,hz⟩:=I1.tuple hq;refine pd (show s1.heap.IsTuple a its.toArray from p) ?_;refine⟨s1.heap.objs.size,[s1.heap.objs.size],_,_,H1,rfl,I1.kept (t':=s1.toks) λb o e=>ao _ e,VU a _,⟨_,bg _ rfl,rfl,rfl⟩,λb hb=>?_,q⟩;have e:b=s1.heap.objs.size:=by simpa using hb
 subst e;exact I1.fpOk (aq _) (I1.hok.fresh (aq _))
def J4{R:It->Hp->Prop}{lo hi:Int}{t u v:Tok}(I:Inv X pins σ H s)(h1:-(2^62)<=lo)(h2:lo<2^62)(h3:-(2^62)<=hi)(h4:hi<2^62)(q:R (vZ lo (hi-lo).toNat) H):wpAny (model X.prog X.w) X.A (pyIter (.ref s.heap.objs.size)) (J2 X pins σ tg R) E {s with heap:=s.heap.push {cls:=.type "range",data:=.fields #[.int lo t,.int hi u,.int 1 v]},toks:=tk}:=by
 refine wpAny_pyIter_range (IsRange.new ..) (small_one h1 h2 h3 h4) ?_;have I1:Inv X pins σ H {s with heap:=s.heap.push {cls:=.type "range",data:=.fields #[.int lo t,.int hi u,.int 1 v]},toks:=tk}:=I.kept λb o e=>ao _ e;refine⟨(s.heap.push {cls:=.type "range",data:=.fields #[.int lo t,.int hi u,.int 1 v]}).objs.size,[(s.heap.push {cls:=.type "range",data:=.fields #[.int lo t,.int hi u,.int 1 v]}).objs.size],_,_,H,rfl,
  I1.kept (t':=tk) λb o e=>ao _ e,VV _ lo (hi-lo).toNat,?_,λb hb=>?_,q⟩
 ·have e1:lo+((0:Nat):Int)*1=lo:=by simp
  have e2:(((hi-lo).toNat:Nat):Int)-((0:Nat):Int)=Builtin.Range.rangeSize lo hi 1:=by rw[rangeSize_one];split<;>omega
  show IsRangeIter _ _ (lo+((0:Nat):Int)*1) ((((hi-lo).toNat:Nat):Int)-((0:Nat):Int)) 1;rw[e1,e2];exact bg _ rfl
 ·have e:b=(s.heap.push {cls:=.type "range",data:=.fields #[.int lo t,.int hi u,.int 1 v]}).objs.size:=by simpa using hb
  subst e;exact I1.fpOk (aq _) (I1.hok.fresh (aq _))
def V0(ta:TA):TI:=λσ H R=>ta σ H λvs H1=>∃j:Int,vs=[.int j]/\-(2^62)<=j/\j<2^62/\R (vZ 0 j.toNat) H1
def V1(ta:TA):TI:=λσ H R=>ta σ H λvs H1=>∃i j:Int,vs=[.int i,.int j]/\(-(2^62)<=i/\i<2^62/\-(2^62)<=j/\j<2^62)/\R (vZ i (j-i).toNat) H1
theorem V2{a:bq}{ta:TA}{p pos:Pos}(hg:Gl X "range")(hm:X.mg "range"=none)(ha:PA X [a] ta)(hs:ay [a] X.env=[(false,eval a X.env)]:=by rfl):PI X tg (.Call (.Name "range" p) [a] [] pos) (V0 ta):=by
 intro pins s σ H R I h;refine Call_ (tH I hg hm boot_range (kz (aY (ha pos pins s σ H _ I h) λus s1⟨vs,H1,I1,r1,q1⟩=>?_) hs rfl));obtain⟨j,e,q1,q2,q⟩:=q1;subst e
 cases r1 with
 |cons r rr=>cases rr;obtain⟨t,rfl⟩:=r;exact call_range_1 (J4 I1 (by omega) (by omega) q1 q2 (by simpa using q))
theorem V3{a b:bq}{ta:TA}{p pos:Pos}(hg:Gl X "range")(hm:X.mg "range"=none)(ha:PA X [a,b] ta)(hs:ay [a,b] X.env=[(false,eval a X.env),(false,eval b X.env)]:=by rfl)(hs2:ay [b] X.env=[(false,eval b X.env)]:=by rfl):
  PI X tg (.Call (.Name "range" p) [a,b] [] pos) (V1 ta):=by
 intro pins s σ H R I h;refine Call_ (tH I hg hm boot_range (kz (aY (ha pos pins s σ H _ I h) λus s1⟨vs,H1,I1,r1,q1⟩=>?_) (by rw[hs,hs2]) (by rw[hs2];rfl)));obtain⟨i,j,e,⟨q1,q2,q3,q4⟩,q⟩:=q1;subst e
 cases r1 with
 |cons r rr=>
  cases rr with
  |cons r' rr=>cases rr;obtain⟨t,rfl⟩:=r;obtain⟨t',rfl⟩:=r';exact call_range_2 (J4 I1 q1 q2 q3 q4 q)
def V4(wi:TI)(g:TG)(tb:TS):TS:=λD σ H=>wi σ H λJ H1=>∃W:Nat->Nat->St->Hp->Prop,(∃m,W 0 m σ H1)/\∀i m σ H,W i m σ H->
 (J.stop i H/\D.nx σ H)∨(J.go i H/\∃N:St->Hp->Prop,(∀σ' H',N σ' H'->∃m',m'<m/\W (i+1) m' σ' H')/\∀x H',J.yld i H x H'->g x σ H' λσ2 H2=>tb {D with nx:=N,ct:=N,bk:=D.nx} σ2 H2)
def kW(fp:List ah)(h:cu):List (ah×Obj):=fp.filterMap λb=>(h.get? b).map λo=>(b,o)
def tI{h:cu}(hb:b∈fp)(e:h.get? b=some o):(b,o)∈kW fp h:=ka.mpr ⟨b,hb,by rw[e];rfl⟩
def EA(hp:p∈kW fp h):p.1∈fp/\h.get? p.1=some p.2:=by
 let⟨b,hb,e⟩:=ka.mp hp
 cases q:h.get? b with
 |none=>rw[q]at e;cases e
 |some o=>rw[q]at e;have e':(b,o)=p:=cw e;subst e';exact⟨hb,q⟩
def Inv.pinned(I:Inv X pins σ H s)(hf:∀b∈fp,dC X pins H b)(ho:∀b∈fp,∃o,s.heap.get? b=some o/\∀v,o.data≠.cell v):Inv X (pins++kW fp s.heap) σ H s:=I.pins_of λp hp=>(cj.mp hp).elim (λz=>I.pin p (cn _ z)) λz=>by let⟨hb,e⟩:=EA z;let⟨f0,f1,f2,_⟩:=hf p.1 hb;let⟨o,e',d⟩:=ho p.1 hb;rw[e]at e';cases e';exact⟨e,f0,f1,f2,d⟩
def Inv.unpinned(I:Inv X (pins++pl) σ H s):Inv X pins σ H s:=I.pins_of λp hp=>I.pin p (cn _ (ja _ hp))
theorem V5{iter:bq}{body:List gw}{wi:TI}{g:TG}{tb:TS}{pos:Pos}(hp:yy (model X.prog X.w) X.A X.env X.xe)(hc:X.calm=true)(hi:PI X tg iter wi)(hg:PG X tg g)(hb:Gf X body tb)(hs:∀x,foldedSetIterable iter X.env x=pure x:=by intro _;rfl):PS X (.For tg iter body [] pos) (V4 wi g tb):=by
 intro pins s σ H D I h;refine wpAny_For (aY (hi pins s σ H _ I h) λv s1 h1=>aY h1 λitv s2 h2=>?_) hs;obtain⟨it,fp,tn,J,H2,e,I2,T,st2,f2,W,⟨m0,w0⟩,turn⟩:=h2;subst e;have stat:∀{H':Hp},(∀b∈fp,H' b=none)->∀b∈fp,dC X pins H' b:=λhn b hb=>⟨hn b hb,(f2 b hb).2⟩
 refine codeAny_forLoop_any (λn s'=>∃i σ' H',Inv X pins σ' H' s'/\tn i s'.heap/\(∀b∈fp,H' b=none)/\W i n σ' H') ?_ m0 ⟨0,σ,H2,I2,st2,λb hb=>(f2 b hb).1,w0⟩
 rintro n s3 ⟨i,σ3,H3,I3,st3,fr3,w3⟩
 rcases turn i n σ3 H3 w3 with⟨stop,qn⟩|⟨go,N,hN,step⟩
 ·refine my hp (aY (T.done X rfl rfl rfl hc i pins s3 σ3 H3 X.xe I3 (stat fr3) st3 stop) λr s4⟨hr,I4⟩=>?_);subst hr;exact ou ⟨σ3,H3,I4,qn⟩
 ·refine my hp (aY (T.item X rfl rfl rfl hc i pins s3 σ3 H3 X.xe I3 (stat fr3) st3 go) λr s4⟨u,hr,h4⟩=>?_);subst hr;refine my hp (aY h4 λ_ s5⟨x,H5,I5,r5,y5,st5,fr5⟩=>?_);have I5':=I5.pinned (stat fr5) (T.obj _ _ st5);refine my hp (aY (hg _ s5 σ3 H5 x u _ I5' r5 (step x H5 y5)) λ_ s6⟨σ6,H6,I6,q6⟩=>?_);refine my hp (aY (hb _ s6 σ6 H6 _ I6 q6) λf s7 q7=>?_);have again:∀{σ7:St}{H7:Hp},Inv X (pins++kW fp s5.heap) σ7 H7 s7->N σ7 H7->∃m,m<n/\∃i σ' H',Inv X pins σ' H' s7/\tn i s7.heap/\(∀b∈fp,H' b=none)/\W i m σ' H':=λ{σ7 H7}I7 n7=>by obtain⟨m',hm,w7⟩:=hN σ7 H7 n7;refine⟨m',hm,i+1,σ7,H7,I7.unpinned,T.keep _ _ _ st5 λb hb o e=>(I7.pin (b,o) (cn _ (cn _ (tI hb e)))).1,λb hb=>?_,w7⟩;obtain⟨o,e,d⟩:=T.obj _ _ st5 b hb;exact(I7.pin (b,o) (cn _ (cn _ (tI hb e)))).2.1
  cases f with
  |next=>obtain⟨σ7,H7,I7,n7⟩:=q7;exact again I7 n7
  |cont=>obtain⟨σ7,H7,I7,n7⟩:=q7;exact again I7 n7
  |brk=>obtain⟨σ7,H7,I7,q7⟩:=q7;exact⟨σ7,H7,I7.unpinned,q7⟩
  |ret v=>obtain⟨x7,σ7,H7,I7,r7,q7⟩:=q7;exact⟨x7,σ7,H7,I7.unpinned,r7,q7⟩
end
abbrev R2:=V->V->Hp->VK->Prop
def Cw(X:Cx)(f:af->af->Sem af)(r:R2):Prop:=
 ∀(pins:List (ah×Obj))(s:ag)(σ:St)(H:Hp)(x y:V)(v u:af)(Q:VK),Inv X pins σ H s->RelV x v->RelV y u->r x y H Q->
  wpAny (model X.prog X.w) X.A (f v u) (EP X pins σ Q) X.xe s
def zC(X:Cx)(f:af->Sem af)(r:V->Hp->VK->Prop):Prop:=
 ∀(pins:List (ah×Obj))(s:ag)(σ:St)(H:Hp)(x:V)(v:af)(Q:VK),Inv X pins σ H s->RelV x v->r x H Q->
  wpAny (model X.prog X.w) X.A (f v) (EP X pins σ Q) X.xe s
def Bx(X:Cx)(f:af)(r:List V->Hp->VK->Prop):Prop:=
 ∀(pins:List (ah×Obj))(s:ag)(σ:St)(H:Hp)(xs:List V)(us:List af)(Q:VK),Inv X pins σ H s->Bs xs us->r xs H Q->
  wpAny (model X.prog X.w) X.A (call f us) (EP X pins σ Q) X.xe s
def V6(X:Cx)(r:V->Hp->(Bool->Hp->Prop)->Prop):Prop:=
 ∀(pins:List (ah×Obj))(s:ag)(σ:St)(H:Hp)(x:V)(v:af)(Q:Bool->Hp->Prop),Inv X pins σ H s->RelV x v->r x H Q->
  wpAny (model X.prog X.w) X.A (truthy v) (TP X pins σ Q) X.xe s
def wB(r:R2)(ta tb:TE):TE:=λσ H Q=>ta σ H λx H1=>tb σ H1 λy H2=>r x y H2 Q
def V7(r:V->Hp->VK->Prop)(ta:TE):TE:=λσ H Q=>ta σ H λx H1=>r x H1 Q
def rI(C:Int->Int->Prop)(g:Int->Int->V):R2:=λx y H Q=>∃i j,x=.int i/\y=.int j/\C i j/\Q (g i j) H
def kX(g:Int->Int->V):R2:=λx y H Q=>∃i j,x=.int i/\y=.int j/\Q (g i j) H
def rU(g:Int->V):V->Hp->VK->Prop:=λx H Q=>∃i,x=.int i/\Q (g i) H
section
variable{X:Cx}{a b c:bq}{ta tb tc:TE}{pos:Pos}
theorem EC(ha:PE X a ta)(hb:PE X b tb){pins:List (ah×Obj)}{s:ag}{σ:St}{H:Hp}{R:V->V->Hp->Prop}(I:Inv X pins σ H s)(h:ta σ H λx H1=>tb σ H1 λy H2=>R x y H2){Q:af->ag->Prop}{f:af->af->Sem af}(hf:∀v u s2 x y H2,Inv X pins σ H2 s2->RelV x v->RelV y u->R x y H2->wpAny (model X.prog X.w) X.A (f v u) Q X.xe s2):
  wpAny (model X.prog X.w) X.A (eval a X.env) (λv s₁=>wpAny (model X.prog X.w) X.A (eval b X.env) (λu s₂=>wpAny (model X.prog X.w) X.A (f v u) Q X.xe s₂) X.xe s₁) X.xe s:=by
 refine aY (ha pins s σ H _ I h) λv s1⟨x,H1,I1,r1,q1⟩=>?_;refine aY (hb pins s1 σ H1 _ I1 q1) λu s2⟨y,H2,I2,r2,q2⟩=>?_;exact hf v u s2 x y H2 I2 r1 r2 q2
def V8(ho:Cw X (binaryOp op) r)(ha:PE X a ta)(hb:PE X b tb):PE X (.BinOp a op b pos) (wB r ta tb):=by intro pins s σ H Q I h;exact wpAny_BinOp (EC ha hb I h λv u s2 x y H2 I2 rx ry q=>ho pins s2 σ H2 x y v u Q I2 rx ry q)
theorem V9{op:UnaryOp}{r:V->Hp->VK->Prop}(ho:zC X (unaryOp op) r)(ha:PE X a ta):PE X (.UnaryOp op a pos) (V7 r ta):=by intro pins s σ H Q I h;exact UnaryOp_ (aY (ha pins s σ H _ I h) λv s1⟨x,H1,I1,r1,q1⟩=>ho pins s1 σ H1 x v Q I1 r1 q1)
def zD{f:af->af->Sem af}{C:Int->Int->Prop}{g:Int->Int->Int}(rule:∀(i j:Int)(t u:Tok)(s:ag)(Q:af->ag->Prop)(E:af->ag->Prop),C i j->Q (.int (g i j) s.toks) {s with toks:=s.toks+1}->wpAny (model X.prog X.w) X.A (f (.int i t) (.int j u)) Q E s):
  Cw X f (rI C λi j=>.int (g i j)):=by
 intro pins s σ H x y v u Q I rx ry h;obtain⟨i,j,rfl,rfl,hc,q⟩:=h;obtain⟨t,rfl⟩:=rx;obtain⟨t',rfl⟩:=ry;exact rule i j t t' s _ _ hc ⟨.int (g i j),H,I.tok _,⟨_,rfl⟩,q⟩
def J5{f:af->af->Sem af}{g:Int->Int->Int}(rule:∀(i j:Int)(t u:Tok)(s:ag)(Q:af->ag->Prop)(E:af->ag->Prop),Q (.int (g i j) s.toks) {s with toks:=s.toks+1}->wpAny (model X.prog X.w) X.A (f (.int i t) (.int j u)) Q E s):
  Cw X f (kX λi j=>.int (g i j)):=by
 intro pins s σ H x y v u Q I rx ry h;obtain⟨i,j,rfl,rfl,q⟩:=h;obtain⟨t,rfl⟩:=rx;obtain⟨t',rfl⟩:=ry;exact rule i j t t' s _ _ ⟨.int (g i j),H,I.tok _,⟨_,rfl⟩,q⟩
def zE{f:af->af->Sem af}{g:Int->Int->Bool}(rule:∀(i j:Int)(t u:Tok)(s:ag)(Q:af->ag->Prop)(E:af->ag->Prop),Q (.bool (g i j)) s->wpAny (model X.prog X.w) X.A (f (.int i t) (.int j u)) Q E s):
  Cw X f (kX λi j=>.bl (g i j)):=by
 intro pins s σ H x y v u Q I rx ry h;obtain⟨i,j,rfl,rfl,q⟩:=h;obtain⟨t,rfl⟩:=rx;obtain⟨t',rfl⟩:=ry;exact rule i j t t' s _ _ ⟨.bl (g i j),H,I,rfl,q⟩
def ED(i j:Int):Prop:=0<=j/\j<=1000000/\i.natAbs<2^64
def CMul(i j:Int):Prop:=(-(2^64)<i/\i<2^64)∨(-(2^64)<j/\j<2^64)
def CMul.ok(h:CMul i j):IntMulOk i j:=by
 rcases h with⟨h1,h2⟩|⟨h1,h2⟩
 ·exact .of_left (intBits_le_64 h1 h2)
 ·exact .of_right (intBits_le_64 h1 h2)
def op_add:Cw X (binaryOp .Add) (kX λi j=>.int (i+j)):=J5 λ_ _ _ _ _ _ _ q=>add_int q
def WA:Cw X (binaryOp .Sub) (kX λi j=>.int (i-j)):=J5 λ_ _ _ _ _ _ _ q=>sub_int q
def WB:Cw X (binaryOp .Mult) (rI CMul λi j=>.int (i*j)):=zD λ_ _ _ _ _ _ _ hc q=>mul_int q hc.ok
def WC:Cw X (binaryOp .Mod) (rI (λ_ j=>0<j) λi j=>.int (i%j)):=zD λi j _ _ _ _ _ hc q=>by have h1:(0:Int)<j:=hc;exact mod_int' (by omega) (by rw[Int.fmod_eq_emod_of_nonneg i (by omega)];exact q)
def WD:Cw X (binaryOp .Pow) (rI ED λi j=>.int (i^j.toNat)):=zD λ_ _ _ _ _ _ _ hc q=>pow_int_small hc.1 hc.2.1 hc.2.2 q
def WE{f:af->Sem af}{g:Int->Int}(rule:∀(i:Int)(t:Tok)(s:ag)(Q:af->ag->Prop)(E:af->ag->Prop),Q (.int (g i) s.toks) {s with toks:=s.toks+1}->wpAny (model X.prog X.w) X.A (f (.int i t)) Q E s):
  zC X f (rU λi=>.int (g i)):=by
 intro pins s σ H x v Q I rx h;obtain⟨i,rfl,q⟩:=h;obtain⟨t,rfl⟩:=rx;exact rule i t s _ _ ⟨.int (g i),H,I.tok _,⟨_,rfl⟩,q⟩
def WG:zC X (unaryOp .USub) (rU λi=>.int (-i)):=WE λ_ _ _ _ _ q=>neg_int q
end
section
variable{X:Cx}{a b c:bq}{ta tb tc:TE}{pos:Pos}
def J6:Cw X (compareOp .Lt) (kX λi j=>.bl (decide (i<j))):=zE λ_ _ _ _ _ _ _ q=>lt_int q
def J7:Cw X (compareOp .LtE) (kX λi j=>.bl (decide (i<=j))):=zE λ_ _ _ _ _ _ _ q=>le_int q
def J8:Cw X (compareOp .Gt) (kX λi j=>.bl (decide (j<i))):=zE λ_ _ _ _ _ _ _ q=>gt_int q
def WH:Cw X (compareOp .GtE) (kX λi j=>.bl (decide (j<=i))):=zE λ_ _ _ _ _ _ _ q=>ge_int q
def Cw.or{r r':R2}(h:Cw X f r)(h':Cw X f r'):Cw X f (λx y H Q=>r x y H Q∨r' x y H Q):=by
 intro pins s σ H x y v u Q I rx ry q
 rcases q with q|q
 ·exact h pins s σ H x y v u Q I rx ry q
 ·exact h' pins s σ H x y v u Q I rx ry q
def pQ(b:bq)(h:op≠.In:=by decide)(h2:op≠.NotIn:=by decide):behindInMarks op b=false:=by
 have e1:(op==CmpOp.In)=false:=by cases op<;>first|rfl|exact absurd rfl h
 have e2:(op==CmpOp.NotIn)=false:=by cases op<;>first|rfl|exact absurd rfl h2
 cases b<;>simp[behindInMarks,e1,e2]
def WI(ho:Cw X (compareOp op) r)(ha:PE X a ta)(hb:PE X b tb)(hm:behindInMarks op b=false):PE X (.Compare a [op] [b] pos) (wB r ta tb):=by intro pins s σ H Q I h;exact wpAny_Compare1 (EC ha hb I h λv u s2 x y H2 I2 rx ry q=>ho pins s2 σ H2 x y v u Q I2 rx ry q) hm
def WJ(t:TE):TT:=λσ H Q=>t σ H λx H'=>∃k,x=.bl k/\Q k H'
theorem WK{op:CmpOp}{r:R2}(ho:Cw X (compareOp op) r)(ha:PE X a ta)(hb:PE X b tb)(hm:behindInMarks op b=false):PT X (.Compare a [op] [b] pos) (WJ (wB r ta tb)):=by intro pins s σ H Q I h;refine wpAny_isTrue_Compare1 (aY (ha pins s σ H _ I h) λv s1⟨x,H1,I1,r1,q1⟩=>aY (hb pins s1 σ H1 _ I1 q1) λu s2⟨y,H2,I2,r2,q2⟩=>aY (ho pins s2 σ H2 x y v u _ I2 r1 r2 q2) λc s3⟨z,H3,I3,r3,k,e,q3⟩=>?_) hm;subst e;cases r3;exact nj ⟨H3,I3,q3⟩
def J9(r r':R2)(ta tb tc:TE):TE:=λσ H Q=>ta σ H λx H1=>tb σ H1 λy H2=>r x y H2 λz H3=>∃k,z=.bl k/\
 (if k=true then tc σ H3 λw' H4=>r' y w' H4 Q else Q (.bl false) H3)
theorem WL{op op':CmpOp}{r r':R2}(ho:Cw X (compareOp op) r)(Ey:Cw X (compareOp op') r')(ha:PE X a ta)(hb:PE X b tb)(hc:PE X c tc)(hm:lastMarks [op,op'] [b,c]=false:=by with_unfolding_all rfl):PE X (.Compare a [op,op'] [b,c] pos) (J9 r r' ta tb tc):=by
 intro pins s σ H Q I h;refine Compare_chain (aY (ha pins s σ H _ I h) λv s1⟨x,H1,I1,r1,q1⟩=>chain_link (aY (hb pins s1 σ H1 _ I1 q1) λu s2⟨y,H2,I2,r2,q2⟩=>aY (ho pins s2 σ H2 x y v u _ I2 r1 r2 q2) λd s3⟨z,H3,I3,r3,k,e,q3⟩=>?_)) hm;subst e;cases r3;refine nj ?_
 cases k with
 |false=>exact ite_ff ⟨.bl false,H3,I3,rfl,q3⟩
 |true=>exact ite_tt (chain_last (aY (hc pins s3 σ H3 _ I3 q3) λw' s4⟨z',H4,I4,r4,q4⟩=>Ey pins s4 σ H4 y z' u w' Q I4 r2 r4 q4))
def KC(K:ar)(x:V)(H:Hp)(k:Bool):Prop:=
 match x with
 |.non=>k=false
 |.bl b=>k=b
 |.int i=>k=(i !=0)
 |.str y=>y.length<=cg/\k=((y.length:Int) !=0)
 |.byt y=>y.size<=cg/\k=((y.size:Int) !=0)
 |.ref p=>(∃xs,Cu K H p xs/\k=!xs.isEmpty)∨(∃xs,Cd K H p xs/\k=!xs.isEmpty)∨∃kvs,H p=some (.dK kvs)/\k=!kvs.isEmpty
 |_=>False
theorem WM{κ:Type}{kvs:List (κ×V)}{vs:List (κ×af)}(r:KV kvs vs):(!vs.isEmpty)=!kvs.isEmpty:=by cases r<;>rfl
def KD(r:Bs xs its):(!its.toArray.isEmpty)=!xs.isEmpty:=by cases r<;>simp
def tJ:(cg:Nat)<2^63:=by rw[jd];decide
theorem WN:V6 X (λx H Q=>∃k,KC X.K x H k/\Q k H):=by
 intro pins s σ H x v Q I rx h;obtain⟨k,e,q⟩:=h;have hl:=tJ;have hs:cg=16777216:=jd
 cases x with
 |non=>cases rx;have e':k=false:=e;subst e';exact truthy_none ⟨H,I,q⟩
 |bl b=>cases rx;have e':k=b:=e;subst e';exact nj ⟨H,I,q⟩
 |int i=>obtain⟨t,rfl⟩:=rx;have e':k=(i !=0):=e;subst e';exact PySem.P.truthy_int ⟨H,I,q⟩
 |str y=>obtain⟨t,rfl⟩:=rx;obtain⟨hy,e'⟩:y.length<=cg/\k=((y.length:Int) !=0):=e;subst e';exact PySem.P.truthy_str (by omega) ⟨H,I.tok _,q⟩
 |byt y=>obtain⟨t,rfl⟩:=rx;obtain⟨hy,e'⟩:y.size<=cg/\k=((y.size:Int) !=0):=e;subst e';exact PySem.W.truthy_bytes (by omega) ⟨H,I.tok _,q⟩
 |ref p=>
  cases rx;have e':(∃xs,Cu X.K H p xs/\k=!xs.isEmpty)∨(∃xs,Cd X.K H p xs/\k=!xs.isEmpty)∨∃kvs,H p=some (.dK kvs)/\k=!kvs.isEmpty:=e
  rcases e' with⟨xs,hx,e'⟩|⟨xs,hx,e'⟩|⟨kvs,hx,e'⟩
  ·subst e';obtain⟨its,r,pl,hz⟩:=I.list hx;have hlen:=r.length;exact wpAny_truthy_list pl.isList (by simp only[ax];omega) ⟨H,I.tok _,by rw[KD r];exact q⟩
  ·subst e';obtain⟨its,r,pl,hz⟩:=I.tuple hx;have hlen:=r.length;exact truthy_tuple pl (by simp only[ax];omega) ⟨H,I.tok _,by rw[KD r];exact q⟩
  ·subst e';obtain⟨hz,hS,vs,r,m⟩:kvs.length<=cg/\(p==sysModules)=false/\∃vs,KV kvs vs/\s.heap.DictOf (DQ X.prog X.w) p vs:=I.hok p _ hx;have hlen:kvs.length=vs.length:=Paired.length r;exact wpAny_truthy_dict hS m (by omega) ⟨H,I.tok _,by rw[WM r];exact q⟩
 |_=>exact(show False from e).elim
theorem WO(ha:PE X a ta)(he:∀whole,isTrue a X.env whole=(do let v <-whole;standAt a.pos;holding [v] (truthy v))):
  PT X a (λσ H Q=>ta σ H λx H'=>∃k,KC X.K x H' k/\Q k H'):=by
 intro pins s σ H Q I h;exact isTrue_plain (aY (ha pins s σ H _ I h) λv s1⟨x,H1,I1,r1,q1⟩=>WN pins s1 σ H1 x v Q I1 r1 q1) (he _)
def jB(r:Bs [x] us):∃u,us=[u]/\RelV x u:=by
 cases r with
 |cons r1 r2=>cases r2;exact⟨_,rfl,r1⟩
def wC(r:Bs [x,y] us):∃u w',us=[u,w']/\RelV x u/\RelV y w':=by
 cases r with
 |cons r1 r2=>
  cases r2 with
  |cons r3 r4=>cases r4;exact⟨_,_,rfl,r1,r3⟩
def WQ(hc:X.calm=true):Bx X (.builtin "max") (λxs H Q=>∃i j,xs=[.int i,.int j]/\Q (.int (if j>i then j else i)) H):=by
 intro pins s σ H xs us Q I r h;obtain⟨i,j,rfl,q⟩:=h;obtain⟨u,w',rfl,⟨t,rfl⟩,⟨t',rfl⟩⟩:=wC r;refine max_two_ints (I.ok.hd hc) λh' tk k=>⟨_,H,I.kept k,?_,q⟩
 by_cases hj:j>i
 ·rw[if_pos hj,if_pos hj];exact⟨_,rfl⟩
 ·rw[if_neg hj,if_neg hj];exact⟨_,rfl⟩
def WR(hc:X.calm=true):Bx X (.builtin "min") (λxs H Q=>∃i j,xs=[.int i,.int j]/\Q (.int (if j<i then j else i)) H):=by
 intro pins s σ H xs us Q I r h;obtain⟨i,j,rfl,q⟩:=h;obtain⟨u,w',rfl,⟨t,rfl⟩,⟨t',rfl⟩⟩:=wC r;refine min_two_ints (I.ok.hd hc) λh' tk k=>⟨_,H,I.kept k,?_,q⟩
 by_cases hj:j<i
 ·rw[if_pos hj,if_pos hj];exact⟨_,rfl⟩
 ·rw[if_neg hj,if_neg hj];exact⟨_,rfl⟩
end
structure Ci(k:Nat)(A:cb):Prop where
 hd:A.handled=none
 dp:A.depth+3*k+5<recursionLimit
 un:A.units+16*k+200<cLine
def Ci.mono(r:Ci k A)(h:j<=k):Ci j A:=⟨r.hd,by have:=r.dp;omega,by have:=r.un;omega⟩
def Ci.deeper(r:Ci (k+1) A)(env:Env):Ci k (A.deeper env):=⟨r.hd,by have:=r.dp;show A.depth+1+3*k+5<_;omega,by have:=r.un;show A.units+3+16*k+200<_;omega⟩
def Ci.depth(r:Ci k A):A.depth<recursionLimit:=by have:=r.dp;omega
def Ci.units(r:Ci k A):A.units+64<cLine:=by have:=r.un;omega
def KG:TA:=λ_ H Q=>Q [] H
def KH(ta:TE)(tr:TA):TA:=λσ H Q=>ta σ H λx H1=>tr σ H1 λxs H2=>Q (x::xs) H2
section
variable{X:Cx}{e:bq}{es:List bq}{te:TE}{t:TA}{pos:Pos}
def jI:PA X [] KG:=λ_ _ _ _ H Q I h=>Calls.spliced_nil ⟨[],H,I,.nil,h⟩
theorem hY(ha:PE X e te)(hr:PA X es t)(hs:ay (e::es) X.env=(false,eval e X.env)::ay es X.env:=by rfl):PA X (e::es) (KH te t):=by intro pos pins s σ H Q I h;rw[hs];show wpAny _ _ (spliced ((false,eval e X.env)::backTo pos (ay es X.env))) _ _ s;refine Calls.spliced_cons (aY (ha pins s σ H _ I h) λu s1⟨x,H1,I1,r1,q1⟩=>?_);exact aY (hr pos pins s1 σ H1 _ I1 q1) λus s2⟨xs,H2,I2,r2,q2⟩=>⟨x::xs,H2,I2,.cons r1 r2,q2⟩
def WS(t:TA):TE:=λσ H Q=>t σ H λxs H1=>xs.length<=cg/\∀p,H1 p=none->Q (.ref p) (upd H1 p (.tup xs))
def WT(t:TA):TE:=λσ H Q=>t σ H λxs H1=>xs.length<=cg/\∀p,H1 p=none->Q (.ref p) (upd H1 p (.lst xs))
theorem KI{x1}(h:PA X es t):PE X (.Tuple es x1 pos) (WS t):=by intro pins s σ H Q I hq;refine wpAny_Tuple_spliced (aY (h pos pins s σ H _ I hq) λus s1⟨xs,H1,I1,r,z,q⟩=>⟨by rw[<-r.length];exact z,?_⟩);have hf:H1 s1.heap.objs.size=none:=I1.hok.fresh (aq _);refine⟨.ref s1.heap.objs.size,upd H1 s1.heap.objs.size (.tup xs),I1.laid (t':=s1.toks) (λb u e=>ao _ e) (aq _) ?_,rfl,q _ hf⟩;exact⟨z,us,r,⟨_,bg _ rfl,rfl,rfl,_,rfl⟩⟩
def WU(h:PA X es t):PE X (.List es pos) (WT t):=by intro pins s σ H Q I hq;refine wpAny_List_spliced (aY (h pos pins s σ H _ I hq) λus s1⟨xs,H1,I1,r,z,q⟩=>⟨by rw[<-r.length];exact z,?_⟩);have hf:H1 s1.heap.objs.size=none:=I1.hok.fresh (aq _);refine⟨.ref s1.heap.objs.size,upd H1 s1.heap.objs.size (.lst xs),I1.laid (t':=s1.toks) (λb u e=>ao _ e) (aq _) ?_,rfl,q _ hf⟩;exact⟨z,us,0,r,bg _ rfl⟩
end
abbrev Sp:=List V->Hp->VK->XK->Prop
abbrev mW:=List Env->Hp->ag->XK->af->ag->Prop
structure Gg(P:bp)(w:cm)(K:ar)(mg:Str->Option af)(base:cu)(A:cb)(outer:List Env)(s:ag)(H:Hp):Prop where
 frames:A.frames=some outer
 mod:Mod K mg base
 bs:∀b o,base.get? b=some o->s.heap.get? b=some o/\H b=none
 bsz:base.objs.size<=s.heap.objs.size
 funs:s.heap.FunFrames base outer
 frf:∀b∈dR outer,H b=none
 hok:Cz P w H s.heap
 bare:uj s.gens
def CE(outer:List Env)(P:bp)(w:cm)(H:Hp)(s:ag)(Q:VK)(u:af)(s':ag):Prop:=∃v H',s'.os=s.os/\uj s'.gens/\Un (dR outer) [] H H' s.heap s'.heap/\Cz P w H' s'.heap/\RelV v u/\Q v H'
def CR(CX:mW)(outer:List Env)(P:bp)(w:cm)(H:Hp)(s:ag)(Q:VK)(E:XK)(r:yb)(s':ag):Prop:=
 match r with
 |.ok (.ret u)=>CE outer P w H s Q u s'
 |.ok _=>False
 |.error e=>CX outer H s E e s'
structure Bu(P:bp)(w:cm)(K:ar)(mg:Str->Option af)(base:cu)(CX:mW)(k:Nat)(f:ah)(fd:br)(ps:Bh)(sp:Sp):Prop where
 len:∀vs H Q E,sp vs H Q E->vs.length=ps.length
 run:∀(A:cb)(outer:List Env)(s:ag)(H:Hp)(args:Args)(us:List af)(vs:List V)(Q:VK)(E:XK),Ci k A->Gg P w K mg base A outer s H->yi s fd args (ps.zip us)->Bs vs us->sp vs H Q E->
  codeAny (model P w) A (.call (.ref f) args) (CR CX outer P w H s Q E) s
def Bu.imp{K:ar}{sp sp':Sp}(F:Bu P w K mg base CX k f fd ps sp)(h:∀vs H Q E,sp' vs H Q E->sp vs H Q E):Bu P w K mg base CX k f fd ps sp':=
 ⟨λvs H Q E q=>F.len vs H Q E (h _ _ _ _ q),λA outer s H args us vs Q E hr he hb hv hs=>F.run A outer s H args us vs Q E hr he hb hv (h _ _ _ _ hs)⟩
section
variable{X:Cx}{pins:List (ah×Obj)}{σ:St}{H:Hp}{s s':ag}
def Inv.env0(I:Inv X pins σ H s):Gg X.prog X.w X.K X.mg X.base X.A X.stack s H:=⟨I.ok.frames,I.ok.mod,I.bs,cp I.ok.bsz I.sz,I.stack,I.stkFree,I.hok,I.bare⟩
def Inv.after(I:Inv X pins σ H s)(h:CE X.stack X.prog X.w H s Q u s'):EP X pins σ Q u s':=by let⟨v,H',os,bare,un,hok,r,q⟩:=h;let⟨hh,g,d,t,os'⟩:=s';obtain rfl:os'=s.os:=os;exact⟨v,H',I.call (h':=hh) (g':=g) (d':=d) (t':=t) (ch:=[]) un hok bare (λb z=>absurd z (by simp)),r,q⟩
end
def WV(sp:Sp)(dvs:List V)(E:XK)(t:TA):TE:=λσ H Q=>t σ H λvs H1=>sp (vs++dvs) H1 Q E
def Binds(K:ar)(fd:br)(ps:Bh)(ds:List af):Prop:=∀(s:ag)(us:List af),K.In s.heap->(us++ds).length=ps.length->yi s fd ⟨us,[]⟩ (ps.zip (us++ds))
def Binds.all{K:ar}{ps:Bh}(h:∀us:List af,us.length=ps.length->bindArgs fd ⟨us,[]⟩=pure (ps.zip us)):Binds K fd ps []:=λs us _ hl=>by rw[nv]at hl⊢;exact .of_eq (h us hl)
def EE(CX:mW)(X:Cx)(E:XK):Prop:=∀(pins:List (ah×Obj))(σ:St)(H:Hp)(s:ag)(e:af)(s':ag),Inv X pins σ H s->CX X.stack H s E e s'->X.xe e s'
section
variable{X:Cx}{CX:mW}{k:Nat}{f C:ah}{fd:br}{ps:Bh}{sp:Sp}{dvs:List V}{ds:List af}{E:XK}{x m:Str}{p pos apos:Pos}{e o:bq}{es:List bq}{ta:TE}{t:TA}
def WW(F:Bu X.prog X.w X.K X.mg X.base CX k f fd ps sp)(hr:Ci k X.A)(hb:Binds X.K fd ps ds)(hd:Bs dvs ds)(hx:EE CX X E)(I:Inv X pins σ H s)(r:Bs vs us)(h:sp (vs++dvs) H Q E):wpAny (model X.prog X.w) X.A (call (.ref f) us) (EP X pins σ Q) X.xe s:=by
 have r2:Bs (vs++dvs) (us++ds):=r.append hd;have hl:(us++ds).length=ps.length:=by rw[<-r2.length];exact F.len _ _ _ _ h
 refine Af (qd (F.run X.A X.stack s H ⟨us,[]⟩ (us++ds) (vs++dvs) Q E hr I.env0 (hb s us I.kIn hl) r2 h) λr s' hq=>?_)
 cases r with
 |error e=>exact hx pins σ H s e s' I hq
 |ok fl=>
  cases fl with
  |ret u=>exact I.after hq
  |next=>exact ik hq
  |brk=>exact ik hq
  |cont=>exact ik hq
theorem KJ(F:Bu X.prog X.w X.K X.mg X.base CX k f fd ps sp)(hr:Ci k X.A)(hg:Gl X x)(hm:X.mg x=some (.ref f))(hk:kq X.K (.ref f)=true)(hb:Binds X.K fd ps ds)(hd:Bs dvs ds)(hx:EE CX X E)(ha:PA X (e::es) t)(Dw:(x==Hn)=false:=by decide)(he:ay (e::es) X.env=(false,eval e X.env)::ay es X.env:=by rfl)(Df:(backTo pos (ay es X.env)).any (·.1)=false:=by rfl):
  PE X (.Call (.Name x p) (e::es) [] pos) (WV sp dvs E t):=by
 intro pins s σ H Q I h;refine pf (vY I hg hm ?_ Dw);refine Ag (h₀:=X.base) I.ok.mod.kin hk (aY (ha pos pins s σ H _ I h) λus s1⟨vs,H1,I1,r,q⟩=>⟨I1.kIn,?_⟩) he Df;exact WW F hr hb hd hx I1 r q
end
structure Br(N P:Bh)(sc:fi):Prop where
 kind:sc.kind=.function
 co:sc.isCoroutine=false
 gen:sc.isGenerator=false
 nd:N.Nodup
 pre:N.take P.length=P
 par:∀x∈P,sc.names.lookup x=some .local∨sc.names.lookup x=some .cell
 nofree:∀y∈sc.names,y.2≠.free
theorem KL{kindOf:Str->Option md}:∀{binds:List (Str×af)}{m:Str->Option af},(∀v,(x,v)∉binds)->bindL kindOf binds m x=m x
 |[],_,_=>rfl
 |(n,v)::r,m,h=>by
  unfold bindL;rw[KL λw hw=>h w (au _ hw)]
  split
  ·have:x≠n:=by rintro rfl;exact h v bh
   simp[this]
  ·rfl
theorem KN{kindOf:Str->Option md}:∀{binds:List (Str×af)}{m:Str->Option af},(∀v,(x,v)∉binds)->bindC kindOf binds m x=m x
 |[],_,_=>rfl
 |(n,v)::r,m,h=>by
  unfold bindC;rw[KN λw hw=>h w (au _ hw)]
  split
  ·rfl
  ·have:x≠n:=by rintro rfl;exact h v bh
   simp[this]
theorem KO{kindOf:Str->Option md}{v:af}:∀{P:Bh}{vs:List af}{i:Nat}{m:Str->Option af},P.Nodup->P[i]?=some x->vs[i]?=some v->kindOf x=some .local->
  bindL kindOf (P.zip vs) m x=some v
 |[],_,_,_,_,h,_,_=>by simp at h
 |_::_,[],_,_,_,_,h,_=>by simp at h
 |p::P,w::vs,0,m,nd,h1,h2,hk=>by simp at h1 h2;subst h1;subst h2;show bindL kindOf ((p,w)::P.zip vs) m p=_;unfold bindL;rw[KL λv hv=>(jr.mp nd).1 (yf hv).1,if_pos hk];simp
 |p::P,w::vs,i+1,m,nd,h1,h2,hk=>by show bindL kindOf ((p,w)::P.zip vs) m x=_;unfold bindL;exact KO (i:=i) (jr.mp nd).2 (by simpa using h1) (by simpa using h2) hk
theorem KQ{kindOf:Str->Option md}{v:af}:∀{P:Bh}{vs:List af}{i:Nat}{m:Str->Option af},P.Nodup->P[i]?=some x->vs[i]?=some v->kindOf x≠some .local->
  bindC kindOf (P.zip vs) m x=some v
 |[],_,_,_,_,h,_,_=>by simp at h
 |_::_,[],_,_,_,_,h,_=>by simp at h
 |p::P,w::vs,0,m,nd,h1,h2,hk=>by simp at h1 h2;subst h1;subst h2;show bindC kindOf ((p,w)::P.zip vs) m p=_;unfold bindC;rw[KN λv hv=>(jr.mp nd).1 (yf hv).1,if_neg hk];simp
 |p::P,w::vs,i+1,m,nd,h1,h2,hk=>by show bindC kindOf ((p,w)::P.zip vs) m x=_;unfold bindC;exact KQ (i:=i) (jr.mp nd).2 (by simpa using h1) (by simpa using h2) hk
def start(N:Bh)(vs:List V):St:=vs.map some++bu (N.length-vs.length) none
def fU(CX:mW)(P:bp)(w:cm)(K:ar)(mg:Str->Option af)(base:cu)(N:Bh)(qual:Str)(scope:fi)(f:ah)(cd:af)(A:cb)(outer:List Env)(s:ag)(H:Hp)(E:XK):Cx where
 prog:=P
 w:=w
 K:=K
 mg:=mg
 base:=base
 A:=A.deeper (envOfC qual scope s.heap.objs.size f cd)
 N:=N
 s₀:=s
 H₀:=H
 env:=envOfC qual scope s.heap.objs.size f cd
 outer:=outer
 stack:=envOfC qual scope s.heap.objs.size f cd::outer
 ex:=[]
 calm:=true
 fn:=λ_=>true
 pn:=[]
 xe:=λe s'=>wpAny (model P w) (A.deeper (envOfC qual scope s.heap.objs.size f cd)) (leaving (envOfC qual scope s.heap.objs.size f cd) e) (λ_ s''=>CX outer H s E e s'') (λe' s''=>CX outer H s E e' s'') s'
def KR{sc:fi}(h:sc.names.lookup x=some .cell):∃c,(cellsFrom n sc.names []).lookup x=some c:=by have q:=yz sc.names n [] (.inl h);exact yt.mp q
def WX{K:ar}{A:cb}{vs:List V}(S:Br N ps scope)(hd:A.handled=none)(e0:Gg P w K mg base A outer s H)(hl:vs.length=ps.length)(r:Bs vs us)(x:InCallC s s.heap.objs.size (bindL (envOfC qual scope s.heap.objs.size f cd).kindOf (ps.zip us) λ_=>none) (cellsFrom (s.heap.objs.size+1) scope.names []) (bindC (envOfC qual scope s.heap.objs.size f cd).kindOf (ps.zip us) λ_=>none) s1):
  Inv (fU CX P w K mg base N qual scope f cd A outer s H E) [] (start N vs) H s1:=by
 have Df:ps.length<=N.length:=by have:=congrArg qi S.pre;rw[jx]at this;omega
 obtain⟨h1,tk,rfl,hk⟩:=x.done;have noA:∀b:ah,b∉(fU CX P w K mg base N qual scope f cd A outer s H E).ex:=λb z=>absurd (show b∈([]:List ah) from z) (by simp);refine⟨⟨e0.mod,S.kind,rfl,rfl,aq _,λy z c h1 h2=>?_,λy hy=>?_,λy c _ h=>?_,λ_=>hd,zv e0.frames,.inr ⟨rfl,rfl⟩,λb z=>absurd z (noA b),e0.bs,e0.bsz,λb _ _=>noA b,λb z=>absurd z (noA b),e0.funs,e0.frf⟩,
  rfl,e0.bare,Un.kept hk,⟨_,x.toInCall.ns,λi y v h1 h2 h3=>?_⟩,λy c h=>⟨_,x.cell y c h⟩,e0.hok.fresh (aq _),λy c h=>?_,λp hp=>absurd (show p∈([]:List (ah×Obj)) from hp) (by simp),e0.hok.kept hk,?_⟩
 ·exact name_of_addr x.apart (fz h1) (fz h2)
 ·have hy:scope.names.lookup y=some .cell∨scope.names.lookup y=some .free:=hy
  rcases hy with hy|hy
  ·exact KR hy
  ·exact absurd rfl (S.nofree _ (fz hy))
 ·exact gr (x.above y c (fz h))
 ·have hi:i<vs.length:=by
   unfold start at h2
   by_cases hi:i<vs.length
   ·exact hi
   ·rw[gh (by simpa using hi)]at h2;rw[ua]at h2
    split at h2<;>cases h2
  have ha:vs[i]?=some v:=by
   unfold start at h2;rw[ey (by simpa using hi),du]at h2
   cases e:vs[i]? with
   |none=>rw[e]at h2;cases h2
   |some a=>rw[e]at h2;cases h2;rfl
  let⟨u,hu,rv⟩:=r.get ha;have hp:ps[i]?=some y:=by rw[<-S.pre,zi (by omega)];exact h1
  have ndP:ps.Nodup:=by rw[<-S.pre];exact S.nd.sublist (List.take_sublist _ _)
  refine⟨u,rv,?_⟩
  rcases S.par y (cx hp)with k|k
  ·exact .inl ⟨k,KO ndP hp hu k⟩
  ·let⟨c,e⟩:=KR (n:=s.heap.objs.size+1) k;refine .inr ⟨.inl k,c,e,?_⟩;have q:=x.cell y c e;rw[KQ ndP hp hu (by show scope.names.lookup y≠_;rw[k];decide)]at q;exact q
 ·exact e0.hok.fresh (gr (x.above y c (fz h)))
 ·unfold start;show _=N.length;rw[bw,bo,Ah];omega
def EF{K:ar}{body:List gw}{dV kV doc pm cdv ct oc:af}{sp:Sp}(lk:K.lookup f=some ⟨oc,od,.func (ql name qual params body scope dV kV doc pm an cdv ct),osl⟩)(hcd:yc K cdv qual=true)(S:Br N ps scope)(len:∀vs H Q E,sp vs H Q E->vs.length=ps.length)(Cp:∀(A:cb)(outer:List Env)(s:ag)(H:Hp)(vs:List V)(Q:VK)(E:XK),Ci k (A.deeper (envOfC qual scope s.heap.objs.size f cdv))->sp vs H Q E->
   ∃t,Gf (fU CX P w K mg base N qual scope f cdv A outer s H E) body t/\t {nx:=λ_ H'=>Q .non H',rt:=Q} (start N vs) H):
  Bu P w K mg base CX (k+1) f (ql name qual params body scope dV kV doc pm an cdv ct) ps sp:=by
 refine⟨len,λA outer s H args us vs Q E hr e0 hb r hsp=>?_⟩;have hl:=len _ _ _ _ hsp;have KX:K.In s.heap:=e0.mod.kin.keeps λb o e=>(e0.bs b o e).1;have lim:s.heap.NoLimit:=e0.mod.nolimit.keeps λb o e=>(e0.bs b o e).1;have C':∀y∈ps.zip us,scope.names.lookup y.1=some .local∨(scope.names.lookup y.1=some .cell/\((cellsFrom (s.heap.objs.size+1) scope.names []).lookup y.1).isSome=true):=λ⟨n,v⟩hy=>by
  rcases S.par n (yf hy).1 with q|q
  ·exact .inl q
  ·exact .inr ⟨q,yz _ _ _ (.inl q)⟩
 refine codeAny_call_function hr.depth (KX _ _ lk) rfl S.co S.gen rfl (PySem.W.codeRec_of KX hcd) (hb _ _ _ _ ?_);refine wpAny_newFunctionEnv_cells S.kind C' λenv he s1 x=>?_;subst he;refine⟨lim.keeps x.toInCall.keep,codeAny_func ?_⟩;let⟨t,ht,hq⟩:=Cp A outer s H vs Q E (hr.deeper _) hsp;have I:Inv (fU CX P w K mg base N qual scope f cdv A outer s H E) [] (start N vs) H s1:=WX S hr.hd e0 hl r x;refine kv (ht [] s1 (start N vs) H _ I hq) (λfl s' hs=>?_) λe s' hs=>hs;have fin:∀{σ':St}{H':Hp}{v:V}{u:af},Inv (fU CX P w K mg base N qual scope f cdv A outer s H E) [] σ' H' s'->RelV v u->Q v H'->CE outer P w H s Q u s':=λ{σ' H' v u}J rv q=>⟨v,H',J.os,J.bare,J.base,J.hok,rv,q⟩
 cases fl with
 |ret u=>let⟨v,σ',H',J,rv,q⟩:=hs;exact fin J rv q
 |next=>let⟨σ',H',J,q⟩:=hs;exact fin (v:=V.non) (u:=jy) J rfl q
 |brk=>let⟨_,_,_,q⟩:=hs;exact ik q
 |cont=>let⟨_,_,_,q⟩:=hs;exact ik q
section
variable{X:Cx}{x:Str}{p pos:Pos}{e:bq}{es:List bq}{t:TA}{id T:String}{r:List V->Hp->VK->Prop}
def zF(r:List V->Hp->VK->Prop)(t:TA):TE:=λσ H Q=>t σ H λvs H1=>r vs H1 Q
theorem tK(hc:Bx X (.builtin id) r)(hg:Gl X x)(hm:X.mg x=none)(hv:dz x=some (.builtin id))(ha:PA X (e::es) t)(hn:x≠"__name__":=by decide)(Dw:(x==Hn)=false:=by decide)(he:ay (e::es) X.env=(false,eval e X.env)::ay es X.env:=by rfl)(Df:(backTo pos (ay es X.env)).any (·.1)=false:=by rfl):PE X (.Call (.Name x p) (e::es) [] pos) (zF r t):=by
 intro pins s σ H Q I h;refine pf (tH I hg hm hv ?_ hn Dw);exact PyProof.Rows.callWith_builtin1 (aY (ha pos pins s σ H _ I h) λus s1⟨vs,H1,I1,r1,q1⟩=>hc pins s1 σ H1 vs us Q I1 r1 q1) he Df
theorem tL(hc:Bx X (.type T) r)(hg:Gl X x)(hm:X.mg x=none)(hv:dz x=some (.type T))(ha:PA X (e::es) t)(hn:x≠"__name__":=by decide)(Dw:(x==Hn)=false:=by decide)(he:ay (e::es) X.env=(false,eval e X.env)::ay es X.env:=by rfl)(Df:(backTo pos (ay es X.env)).any (·.1)=false:=by rfl):PE X (.Call (.Name x p) (e::es) [] pos) (zF r t):=by
 intro pins s σ H Q I h;refine pf (tH I hg hm hv ?_ hn Dw);exact kz (aY (ha pos pins s σ H _ I h) λus s1⟨vs,H1,I1,r1,q1⟩=>hc pins s1 σ H1 vs us Q I1 r1 q1) he Df
end
end L2
abbrev Ho:=List L2.V
open L2.V renaming int->Gn,ref->Hk
open L2.Cd renaming of->Gq
open L2.Cu renaming of->He
namespace HT
open PySem PyProof.Rows
def lexLt:y'->y'->Bool
 |[],[]=>false
 |[],_::_=>true
 |_::_,[]=>false
 |x::xs,y::ys=>if x=y then lexLt xs ys else decide (x<y)
def lexLt_cons(x y:Int)(xs ys:y'):lexLt (x::xs) (y::ys)=if x=y then lexLt xs ys else decide (x<y):=rfl
def WY:lexLt [] []=false:=rfl
def WZ(y:Int)(ys:y'):lexLt [] (y::ys)=true:=rfl
def W0(x:Int)(xs:y'):lexLt (x::xs) []=false:=rfl
def W2(A:cb)(s:ag)(a:Int)(t:Tok)(c:Int)(u:Tok):∃e,lj A s (.int a t) (.int c u) e/\(e=true↔a=c):=⟨(a==c),SeqAt.EqAt.int_int a t c u,by simp⟩
def W3(A:cb)(s:ag)(a:Int)(t:Tok)(c:Int)(u:Tok)(prog:bp)(w:cm)(E:af->ag->Prop)(Q:af->ag->Prop)(h:Q (.bool (decide (a<c))) s):
  wpAny (model prog w) A (richCompare .Lt (.int a t) (.int c u)) Q E s:=
 (yj h:wpAny (model prog w) A (compareOp .Lt (.int a t) (.int c u)) Q E s)
section
open PySem.SeqAt
open PySem.AutoSeq1 (wpAny_loadPart')
open PySem.MeetsSeq PySem.MeetsSeq2 PySem.MeetsSeq3
def W4(l b:ah)(items Cs:Array af)(n n2:Nat)(dd dd2:Option ah)(sl sl2:Array (Option af))(ns ms:y')(hi:lx items.toList ns)(hj:lx Cs.toList ms):
  Meets (mr.«tuple.__lt__» ⟨[.ref l,.ref b],[]⟩)
   (λ_ R s=>s.heap.get? l=some {cls:=.type "tuple",dict:=dd,data:=.seq items n,slots:=sl}/\s.heap.get? b=some {cls:=.type "tuple",dict:=dd2,data:=.seq Cs n2,slots:=sl2}/\
    R (.ok (.ret (.bool (lexLt ns ms)))) s):=
 .of_wp λprog w A R s h=>by
  let⟨hp,g,d,tk,os⟩:=s;let⟨hl,hb,h⟩:=h;have f2:=AutoSeq1.sub_tuple_tuple;have z1:items.size=ns.length:=by rw[<-hi.length];simp
  have z2:Cs.size=ms.length:=by rw[<-hj.length];simp
  wp_walk using wpAny_loadPart' hl,wpAny_loadPart' hb,qr _ (λrest b s'=>b.1=none/\s'=⟨hp,g,d,tk,os⟩/\∃(vs ws:List af)(ns' ms':y'),rest=vs.zip ws/\
   lx vs ns'/\lx ws ms'/\ns'.length+Cs.size=ms'.length+items.size/\R (.ok (.ret (.bool (lexLt ns' ms')))) ⟨hp,g,d,tk,os⟩) _
  case turn=>
   rintro ⟨y,x⟩ rest b s' ⟨hb',rfl,vs,ws,ns',ms',hz,hvi,hwi,hlen,hR⟩
   cases hvi with
   |nil=>rw[List.zip_nil_left]at hz;cases hz
   |cons a t hvi'=>
    cases hwi with
    |nil=>rw[List.zip_nil_right]at hz;cases hz
    |cons c u hwi'=>
     rw[List.zip_cons_cons]at hz;injection hz with hyx Fc;injection hyx with hy hx;subst hy hx;rw[lexLt_cons]at hR;simp only[di]at hlen;let⟨e,he,hiff⟩:=W2 A.in1 ⟨hp,g,d,tk,os⟩ a t c u;refine aa (he prog w _ _ ?_)
     cases e with
     |true=>
      rw[if_pos (hiff.mp rfl)]at hR
      wp_walk
      exact⟨rfl,rfl,_,_,_,_,Fc,hvi',hwi',by omega,hR⟩
     |false=>
      rw[if_neg (λq=>absurd (hiff.mpr q) ic)]at hR;have hri:=W3 A.in1 ⟨hp,g,d,tk,os⟩ a t c u prog w
      wp_walk using hri
      exact⟨_,rfl,by simpa using hR⟩
  case fin=>
   rintro ⟨b1,b2⟩ s' ⟨hb',rfl,vs,ws,ns',ms',hz,hvi,hwi,hlen,hR⟩
   simp only at hb';subst hb';have hv:lexLt ns' ms'=decide (items.size<Cs.size):=by
    cases hvi with
    |nil=>
     cases hwi with
     |nil=>simp only[og]at hlen;rw[WY];exact(decide_eq_false (by omega)).symm
     |cons c u hw=>simp only[og,di]at hlen;rw[WZ];exact(decide_eq_true (by omega)).symm
    |cons a t hv=>
     cases hwi with
     |nil=>simp only[og,di]at hlen;rw[W0];exact(decide_eq_false (by omega)).symm
     |cons c u hw=>rw[List.zip_cons_cons]at hz;cases hz
   rw[hv]at hR
   wp_walk
   exact⟨_,rfl,by simpa[Builtin.Tuple.tupleCompareSizes]using hR⟩
  case h=>exact⟨rfl,rfl,items.toList,Cs.toList,ns,ms,rfl,hi,hj,by omega,h⟩
end
section
variable{prog:bp}{w:cm}{A:cb}{E:af->ag->Prop}{s:ag}
def lt_tupInts{Q:af->ag->Prop}(hl:yh s.heap l items)(hb:yh s.heap b Cs)(hi:lx items.toList ns)(hj:lx Cs.toList ms)(hu:A.units<cLine)(h:Q (.bool (lexLt ns ms)) s):wpAny (model prog w) A (compareOp .Lt (.ref l) (.ref b)) Q E s:=by
 let⟨⟨cls,dd,data,sl⟩,ho,hc,n,hd⟩:=id hl;let⟨⟨cls2,dd2,data2,sl2⟩,ho2,hc2,n2,hd2⟩:=id hb;simp only at hc hd hc2 hd2;subst hc hd hc2 hd2;exact richCompare_meets_room (op:=.Lt) ⟨_,ho,rfl⟩ ⟨_,ho2,rfl⟩ PySem.F.slot_tuple_lt PySem.F.entry_tuple_lt (PySem.F.args_tuple_lt_2 _ _) (W4 l b items Cs n n2 dd dd2 sl sl2 ns ms hi hj)
  ⟨ho,ho2,show Ba (lexLt ns ms)≠Value.notImplemented/\Q (.bool (lexLt ns ms)) s from⟨(λx=>nomatch x),h⟩⟩ hu
def cat_tup{vs ws:List af}{Q:af->ag->Prop}(ht:yh s.heap t vs.toArray)(hb:yh s.heap b ws.toArray)(hv:vs≠[])(h1:ws=[]->Q (.ref t) s)(h2:ws≠[]->Q (.ref s.heap.objs.size) {s with heap:=s.heap.push {cls:=.type "tuple",data:=.seq (vs++ws).toArray} })(Cv:vs.length+ws.length<=cg):wpAny (model prog w) A (binaryOp .Add (.ref t) (.ref b)) Q E s:=by
 let⟨⟨cls,dd,data,sl⟩,ho,hc,n,hd⟩:=id ht;let⟨⟨cls2,dd2,data2,sl2⟩,ho2,hc2,n2,hd2⟩:=id hb;simp only at hc hd hc2 hd2;subst hc hd hc2 hd2;have e:vs.toArray++ws.toArray=(vs++ws).toArray:=by simp
 by_cases hw:ws=[]
 ·exact concat_meets ⟨_,ho,rfl⟩ ⟨_,ho2,rfl⟩ zb Bb tu sj (rn _ _)
   (tuple_addW1 t b vs.toArray ws.toArray n n2 dd dd2 sl sl2 (by simpa using hv) (by simp[hw])) ⟨ho,ho2,h1 hw⟩
 ·refine concat_meets ⟨_,ho,rfl⟩ ⟨_,ho2,rfl⟩ zb Bb tu sj (rn _ _)
   (tuple_addW2 t b vs.toArray ws.toArray n n2 dd dd2 sl sl2 (by simpa using hv) (by simpa using hw) (by rw[ax,ax];exact Cv)) ⟨ho,ho2,?_⟩
  rw[e];exact h2 hw
def sIx(n d:Nat):Option Int->Nat
 |none=>d
 |some v=>if v<0 then(v+(n:Int)).toNat else min v.toNat n
def sIx_none(n d:Nat):sIx n d none=d:=rfl
def sIx_nat(n d k:Nat):sIx n d (some (k:Int))=min k n:=by show(if(k:Int)<0 then((k:Int)+(n:Int)).toNat else min (k:Int).toNat n)=min k n;rw[if_neg (by omega),fq]
def W5(n d:Nat)(hd:d<=n)(o:Option Int):sIx n d o<=n:=by
 cases o with
 |none=>exact hd
 |some v=>
  show(if v<0 then(v+(n:Int)).toNat else min v.toNat n)<=n
  by_cases hv:v<0
  ·rw[if_pos hv];omega
  ·rw[if_neg hv];exact Nat.min_le_right _ _
def KS(v:Int)(n d:Nat):(if v<0 then max (v+(n:Int)) 0 else min v (n:Int))=((sIx n d (some v):Nat):Int):=by
 show(if v<0 then max (v+(n:Int)) 0 else min v (n:Int))=(((if v<0 then(v+(n:Int)).toNat else min v.toNat n):Nat):Int)
 by_cases hv:v<0
 ·simp only[if_pos hv];omega
 ·simp only[if_neg hv];omega
def W6(lo hi:Option Int)(n:Nat):jb lo hi 1 (n:Int)=(((sIx n 0 lo:Nat):Int),((sIx n n hi:Nat):Int)):=by
 have h1:¬((1:Int)<0):=by omega
 unfold jb;simp only[h1,if_false];refine Prod.ext ?_ ?_
 ·cases lo with
  |none=>rfl
  |some v=>exact KS v n 0
 ·cases hi with
  |none=>rfl
  |some v=>exact KS v n n
def W7(i j:Nat):gg (i:Int) (j:Int) 1=j-i:=by
 unfold gg;have h1:(1:Int)>0:=by omega
 simp only[h1,if_true,Int.ediv_one]
 split<;>omega
def slicePart_{v:af}{Q:Option Int->ag->Prop}(p:uv v o)(h:Q o s):wpAny (model prog w) A (Builtin.Slice.slicePartIndex v) Q E s:=by
 cases p with
 |none=>exact slicePart_none h
 |int i t=>exact slicePart_int h
def sliceApplied_gen{lo hi:Option Int}{n:Nat}{Q:Int×Int×Nat->ag->Prop}(hs:s.heap.IsSliceOf sl vl vu .none)(pl:uv vl lo)(pu:uv vu hi)(h:Q (((sIx n 0 lo:Nat):Int),1,sIx n n hi-sIx n 0 lo) s):wpAny (model prog w) A (ll (.ref sl) (pure (n:Int))) Q E s:=by
 let⟨os,hos,Ew,hds⟩:=id hs;unfold ll wk;refine aa (aa (fg hos hds (x:=vl) rfl (aa (fg hos hds (x:=vu) rfl (aa (fg hos hds (x:=.none) rfl (ak ?_)))))));refine aa (slicePart_none ?_);show wpAny _ _ (if((1:Int)==0)=true then _ else _) _ _ s;rw[if_neg (by decide)];refine aa (slicePart_ pl (aa (slicePart_ pu (aa (ak ?_)))));show wpAny _ _ (match jb lo hi 1 (n:Int)with|(lo,hi)=>pure (lo,(1:Int),gg lo hi 1)) _ _ s;rw[W6 lo hi n];show wpAny _ _ (pure (((sIx n 0 lo:Nat):Int),(1:Int),gg ((sIx n 0 lo:Nat):Int) ((sIx n n hi:Nat):Int) 1)) _ _ s;rw[W7];exact ak h
def W8(xs:Array af)(i k:Nat):((ba k).filterMap λ(m:Nat)=>xs[((i:Int)+(m:Int)*1).toNat]?).toArray=((xs.toList.drop i).take k).toArray:=by
 have e:(λ(m:Nat)=>xs[((i:Int)+(m:Int)*1).toNat]?)=λm=>xs[i+m]?:=by
  funext m
  have:((i:Int)+(m:Int)*1).toNat=i+m:=by omega
  rw[this]
 rw[e];have:=pick_run xs i k;rw[List.filterMap_map]at this;have e2:((λx=>xs[x]?)∘λx=>i+x)=λm=>xs[i+m]?:=rfl;rw[e2]at this;rw[this]
def getItem_tuple_cut{lo hi:Option Int}{Q:af->ag->Prop}(ht:yh s.heap t items)(hs:s.heap.IsSliceOf sl vl vu .none)(pl:uv vl lo)(pu:uv vu hi)(hw:¬(sIx items.size 0 lo=0/\sIx items.size items.size hi=items.size))(h:Q (.ref s.heap.objs.size) {s with heap:=s.heap.push {cls:=.type "tuple",data:=.seq ((items.toList.drop (sIx items.size 0 lo)).take (sIx items.size items.size hi-sIx items.size 0 lo)).toArray} })(Cv:items.size<=cg):wpAny (model prog w) A (getItem (.ref t) (.ref sl)) Q E s:=by
 have htake:sizeOk (.seq ((items.toList.drop (sIx items.size 0 lo)).take (sIx items.size items.size hi-sIx items.size 0 lo)).toArray):=by show((items.toList.drop (sIx items.size 0 lo)).take (sIx items.size items.size hi-sIx items.size 0 lo)).toArray.size<=cg;rw[ax,jx,pw,nq];omega
 have hj:sIx items.size items.size hi<=items.size:=W5 _ _ (aq _) hi;let⟨os,hos,Ew,hds⟩:=id hs;have hTs:s.TypeIs (.ref sl) "slice":=⟨os,hos,Ew⟩;unfold getItem
 try with_reducible refine gy ?_
 first|refine aa (ak ?_)|skip
 refine aa (yk ht.typeIs (by decide) ?_);refine aa (gn (name:=mf "__getitem__") ht.typeIs df
  (fv df ht.typeIs entry_tuple_getitem ?_ (args_tuple_getitem _ _)))
 show wpAny _ _ (we (.ref t) >>=_) _ _ s;refine aa (xr ht ?_);refine aa (oh hTs ?_);rw[if_pos (by decide)];refine aa (sliceApplied_gen hs pl pu ?_);have hno:¬((((sIx items.size 0 lo:Nat):Int)==0&&(1:Int)==1&&(sIx items.size items.size hi-sIx items.size 0 lo)==items.size)=true):=by intro q;rw[cq,cq]at q;have q1:((sIx items.size 0 lo:Nat):Int)=0:=eq_of_beq q.1.1;have q2:sIx items.size items.size hi-sIx items.size 0 lo=items.size:=eq_of_beq q.2;exact hw ⟨by omega,by omega⟩
 show wpAny _ _ (if(((sIx items.size 0 lo:Nat):Int)==0&&(1:Int)==1&&(sIx items.size items.size hi-sIx items.size 0 lo)==items.size)=true then _ else _) _ _ s;rw[if_neg hno,W8]
 first
  |exact aa (m:=gp _) (dw (ak ⟨_,rfl,ak h⟩) htake)
  |exact aa (m:=gp _) (dw (aa (ak (ak ⟨_,rfl,ak h⟩))) htake)
  |exact aa (aa (m:=gp _) (dw (ak (ak ⟨_,rfl,ak h⟩)) htake))
  |exact aa (aa (m:=gp _) (dw (ak ⟨_,rfl,ak h⟩) htake))
end
end HT
namespace L2
abbrev TO:=St->Hp->(Option Int->Hp->Prop)->Prop
def PO(X:Cx)(e:Option bq)(t:TO):Prop:=
 ∀(pins:List (ah×Obj))(s:ag)(σ:St)(H:Hp)(Q:Option Int->Hp->Prop),Inv X pins σ H s->t σ H Q->
  wpAny (model X.prog X.w) X.A (evalPart e X.env) (λu s'=>∃o H',Inv X pins σ H' s'/\uv u o/\Q o H') X.xe s
def W9:TO:=λ_ H Q=>Q none H
def XA(t:TE):TO:=λσ H Q=>t σ H λx H1=>∃i,x=.int i/\Q (some i) H1
def KU{ns:y'}:∀{us:List af},Bs (ns.map Gn) us->lx us ns:=by
 induction ns with
 |nil=>intro us r;rw[wz]at r;cases r;exact .nil
 |cons n ns ih=>
  intro us r;rw[da]at r
  cases r with
  |cons r1 r2=>let⟨t,e⟩:=r1;subst e;exact .cons n t (ih r2)
section
variable{X:Cx}{e:bq}{te:TE}{lo hi:Option bq}{tl th:TO}{pos p2:Pos}
def XB:PO X none W9:=by intro pins s σ H Q I h;rw[Bc];exact ak ⟨none,H,I,.none,h⟩
def XC(h:PE X e te):PO X (some e) (XA te):=by intro pins s σ H Q I hw;rw[evalPart_some];refine aY (h pins s σ H _ I hw) λu s1⟨x,H1,I1,r1,q1⟩=>?_;obtain⟨i,rfl,q⟩:=q1;obtain⟨t,rfl⟩:=r1;exact⟨some i,H1,I1,.int i t,q⟩
def SlR(X:Cx)(r:V->Option Int->Option Int->Hp->VK->Prop):Prop:=
 ∀(pins:List (ah×Obj))(s:ag)(σ:St)(H:Hp)(x:V)(v vl vu:af)(lo hi:Option Int)(sl:ah)(Q:VK),Inv X pins σ H s->RelV x v->s.heap.IsSliceOf sl vl vu .none->uv vl lo->uv vu hi->r x lo hi H Q->
  ∃T id,typeLookup (.type T) "__getitem__"=pure (some (.builtin id))/\s.TypeIs v T/\wpAny (model X.prog X.w) X.A (getItem v (.ref sl)) (EP X pins σ Q) X.xe s
def SlR.or{r r':V->Option Int->Option Int->Hp->VK->Prop}(h:SlR X r)(h':SlR X r'):SlR X (λx lo hi H Q=>r x lo hi H Q∨r' x lo hi H Q):=by
 intro pins s σ H x v vl vu lo hi sl Q I rx hs pl pu q
 rcases q with q|q
 ·exact h pins s σ H x v vl vu lo hi sl Q I rx hs pl pu q
 ·exact h' pins s σ H x v vl vu lo hi sl Q I rx hs pl pu q
def XD(r:V->Option Int->Option Int->Hp->VK->Prop)(te:TE)(tl th:TO):TE:=λσ H Q=>te σ H λx H1=>tl σ H1 λl H2=>th σ H2 λu H3=>r x l u H3 Q
theorem XE{r:V->Option Int->Option Int->Hp->VK->Prop}(hr:SlR X r)(he:PE X e te)(hl:PO X lo tl)(hu:PO X hi th):PE X (.Subscript e (.Slice lo hi none p2) pos) (XD r te tl th):=by intro pins s σ H Q I h;refine Subscript_ (aY (he pins s σ H _ I h) λv s1⟨x,H1,I1,r1,q1⟩=>?_);refine wpAny_Slice (aY (hl pins s1 σ H1 _ I1 q1) λvl s2⟨l,H2,I2,pl,q2⟩=>aY (hu pins s2 σ H2 _ I2 q2) λvu s3⟨u,H3,I3,pu,q3⟩=>?_);rw[Bc];refine ak ?_;have I4:Inv X pins σ H3 {s3 with heap:=s3.heap.push {cls:=.type "slice",data:=.fields #[vl,vu,.none]} }:=I3.kept (t':=s3.toks) λb ob q=>ao _ q;obtain⟨T,id,hT,ht,hg⟩:=hr pins {s3 with heap:=s3.heap.push {cls:=.type "slice",data:=.fields #[vl,vu,.none]} } σ H3 x v vl vu l u s3.heap.objs.size Q I4 r1 (yg ..) pl pu q3;show wpAny (model X.prog X.w) X.A (subscriptTail e (.Slice lo hi none p2) v (.ref s3.heap.objs.size)) (EP X pins σ Q) X.xe {s3 with heap:=s3.heap.push {cls:=.type "slice",data:=.fields #[vl,vu,.none]} };exact tail_any (ops:=[.ref s3.heap.objs.size,v]) ht hT hg (by with_unfolding_all rfl)
def pR(xs:Ho)(lo hi:Option Int):Ho:=(xs.drop (HT.sIx xs.length 0 lo)).take (HT.sIx xs.length xs.length hi-HT.sIx xs.length 0 lo)
def KW(xs:Ho)(lo hi:Option Int):(pR xs lo hi).length<=xs.length:=by unfold pR;rw[jx,pw];omega
def XF(K:ar):V->Option Int->Option Int->Hp->VK->Prop:=λx lo hi H Q=>∃a xs,x=.ref a/\Cd K H a xs/\
 ¬(HT.sIx xs.length 0 lo=0/\HT.sIx xs.length xs.length hi=xs.length)/\∀p,H p=none->Q (.ref p) (upd H p (.tup (pR xs lo hi)))
def XG:SlR X (XF X.K):=by
 intro pins s σ H x v vl vu lo hi sl Q I rx hs pl pu h;obtain⟨a,xs,rfl,hx,hw,q⟩:=h;cases rx;let⟨its,r,ht,hz⟩:=I.tuple hx;have hlen:its.toArray.size=xs.length:=by rw[ax];exact r.length.symm
 refine⟨"tuple",_,df.lookup,ht.typeIs,?_⟩;refine HT.getItem_tuple_cut ht hs pl pu (by rw[hlen];exact hw) ?_ (by rw[hlen];exact hz);rw[hlen];refine⟨.ref s.heap.objs.size,_,I.laid (t':=s.toks) (o:=.tup (pR xs lo hi)) (λb ob q=>ao _ q) (aq _) ?_,rfl,q _ (I.hok.fresh (aq _))⟩;exact⟨cp (KW xs lo hi) hz,_,(r.drop (HT.sIx xs.length 0 lo)).take (HT.sIx xs.length xs.length hi-HT.sIx xs.length 0 lo),Ck.new _ _⟩
def KY(K:ar):R2:=λx y H Q=>∃a b ns ms,x=.ref a/\y=.ref b/\Cd K H a (ns.map Gn)/\Cd K H b (ms.map Gn)/\Q (.bl (HT.lexLt ns ms)) H
def KZ(hu:X.A.units<cLine):Cw X (compareOp .Lt) (KY X.K):=by intro pins s σ H x y v u Q I rx ry h;obtain⟨a,b,ns,ms,rfl,rfl,ha,hb,q⟩:=h;cases rx;cases ry;let⟨its,r1,p1,_⟩:=I.tuple ha;let⟨Dd,r2,p2,_⟩:=I.tuple hb;have i1:lx its.toArray.toList ns:=KU r1;have i2:lx Dd.toArray.toList ms:=KU r2;exact HT.lt_tupInts p1 p2 i1 i2 hu ⟨.bl (HT.lexLt ns ms),H,I,rfl,q⟩
def K0(K:ar):R2:=λx y H Q=>∃a b xs ys,x=.ref a/\y=.ref b/\Cd K H a xs/\Cd K H b ys/\xs≠[]/\xs.length+ys.length<=cg/\
 (ys=[]->Q (.ref a) H)/\(ys≠[]->∀p,H p=none->Q (.ref p) (upd H p (.tup (xs++ys))))
def Bs.nil_iff(r:Bs xs us):us=[]↔xs=[]:=by
 cases r with
 |nil=>simp
 |cons _ _=>simp
def XH:Cw X (binaryOp .Add) (K0 X.K):=by intro pins s σ H x y v u Q I rx ry h;obtain⟨a,b,xs,ys,rfl,rfl,ha,hb,hx,hz,q1,q2⟩:=h;cases rx;cases ry;let⟨its,r1,p1,_⟩:=I.tuple ha;let⟨Dd,r2,p2,_⟩:=I.tuple hb;refine HT.cat_tup p1 p2 (λz=>hx (r1.nil_iff.mp z)) (λz=>⟨.ref a,H,I,rfl,q1 (r2.nil_iff.mp z)⟩) (λz=>?_) (by rw[<-r1.length,<-r2.length];exact hz);refine⟨.ref s.heap.objs.size,_,I.laid (t':=s.toks) (o:=.tup (xs++ys)) (λb ob q=>ao _ q) (aq _) ?_,rfl,q2 (λw=>z (r2.nil_iff.mpr w)) _ (I.hok.fresh (aq _))⟩;exact⟨by rw[bw];exact hz,_,r1.append r2,Ck.new _ _⟩
end
def eO(n:Nat)(i:Int):Option Nat:=if 0<=i then(if i<n then some i.toNat else none)else if -(n:Int)<=i then some (i+n).toNat else none
def gQ{α:Type}(xs:List α)(i:Int):Option α:=(eO xs.length i).bind λj=>xs[j]?
def EG{n:Nat}(h:eO n i=some j):seqIndex? i n=some j/\j<n/\-(n:Int)<=i/\i<n:=by
 unfold eO at h
 by_cases h0:0<=i
 ·rw[if_pos h0]at h
  by_cases h1:i<n
  ·rw[if_pos h1]at h;have e:i.toNat=j:=cw h;exact⟨by rw[seqIndex_of h0 h1,e],by omega,by omega,h1⟩
  ·rw[if_neg h1]at h;cases h
 ·rw[if_neg h0]at h
  by_cases h1:-(n:Int)<=i
  ·rw[if_pos h1]at h;have e:(i+n).toNat=j:=cw h;exact⟨by rw[seqIndex_neg (by omega) h1,e],by omega,h1,by omega⟩
  ·rw[if_neg h1]at h;cases h
theorem EH{α:Type}{xs:List α}{i:Int}{v:α}(h:gQ xs i=some v):∃j,seqIndex? i xs.length=some j/\xs[j]?=some v/\j<xs.length/\-(xs.length:Int)<=i/\i<xs.length:=by
 unfold gQ at h
 cases e:eO xs.length i with
 |none=>rw[e]at h;cases h
 |some j=>rw[e]at h;obtain⟨h1,h2,h3,h4⟩:=EG e;exact⟨j,h1,h,h2,h3,h4⟩
def EI(b:bq):Prop:=∀o i,subscripted b false o i=operate [o,i] (getItem o i)
def IxR(X:Cx)(r:R2):Prop:=
 ∀(value slice:bq)(pins:List (ah×Obj))(s:ag)(σ:St)(H:Hp)(x y:V)(v u:af)(Q:VK),Inv X pins σ H s->RelV x v->RelV y u->r x y H Q->
  subscripted slice false v u=operate [v,u] (getItem v u)->wpAny (model X.prog X.w) X.A (subscriptTail value slice v u) (EP X pins σ Q) X.xe s
def EJ(X:Cx)(id:String)(r:V->Ho->Hp->VK->Prop):Prop:=
 ∀(pins:List (ah×Obj))(s:ag)(σ:St)(H:Hp)(x:V)(xs:Ho)(v:af)(us:List af)(Q:VK),Inv X pins σ H s->RelV x v->Bs xs us->r x xs H Q->
  wpAny (model X.prog X.w) X.A (call (.builtin id) (v::us)) (EP X pins σ Q) X.xe s
section
variable{X:Cx}{a b:bq}{ta tb:TE}{pos:Pos}
def IxR.or{r r':R2}(h:IxR X r)(h':IxR X r'):IxR X (λx y H Q=>r x y H Q∨r' x y H Q):=by
 intro value slice pins s σ H x y v u Q I rx ry q hs
 rcases q with q|q
 ·exact h value slice pins s σ H x y v u Q I rx ry q hs
 ·exact h' value slice pins s σ H x y v u Q I rx ry q hs
def K1(hr:IxR X r)(ha:PE X a ta)(hb:PE X b tb)(hs:EI b):PE X (.Subscript a b pos) (wB r ta tb):=by intro pins s σ H Q I h;exact Subscript_ (EC ha hb I h λv u s2 x y H2 I2 rx ry q=>hr a b pins s2 σ H2 x y v u Q I2 rx ry q (hs _ _))
def K2(K:ar):R2:=λx y H Q=>∃p xs i v,x=.ref p/\y=.int i/\Cu K H p xs/\gQ xs i=some v/\Q v H
def K4(K:ar):R2:=λx y H Q=>∃p xs i v,x=.ref p/\y=.int i/\Cd K H p xs/\gQ xs i=some v/\Q v H
def K5:R2:=λx y H Q=>∃z i c,x=.str z/\y=.int i/\z.length<=cg/\gQ z.cps.toList i=some c/\Q (.str ⟨#[c]⟩) H
theorem ix_list:IxR X (K2 X.K):=by
 intro value slice pins s σ H x y v u Q I rx ry h hs;obtain⟨p,xs,i,z,rfl,rfl,hq,he,q⟩:=h;cases rx;obtain⟨t,rfl⟩:=ry;obtain⟨its,r,pl,hz⟩:=I.list hq;obtain⟨j,h1,h2,h3,h4,h5⟩:=EH he;obtain⟨w,ew,rw'⟩:=r.get h2;have hl:=r.length;have hn:=tJ;have fin:EP X pins σ Q w s:=⟨z,H,I,rw',q⟩
 by_cases h0:0<=i
 ·have hj:i.toNat=j:=by rw[seqIndex_of h0 h5]at h1;exact cw h1
  exact item_listR pl.isList h0 (by omega) (by rw[hj];simpa using ew) fin hs
 ·have hj:(i+(its.toArray.size:Int)).toNat=j:=by rw[seqIndex_neg (by omega) h4]at h1;rw[ax,<-hl];exact cw h1
  exact subscriptTail_builtinR (x:=w) pl.isList.typeIs slot_list_getitem.lookup
   (wpAny_getItem_list_neg (Q:=λr s'=>r=w/\EP X pins σ Q r s') pl.isList (by omega) (by rw[ax]<;>omega) (by omega) (by rw[hj];simpa using ew) ⟨rfl,fin⟩) hs
theorem ix_tup:IxR X (K4 X.K):=by
 intro value slice pins s σ H x y v u Q I rx ry h hs;obtain⟨p,xs,i,z,rfl,rfl,hq,he,q⟩:=h;cases rx;obtain⟨t,rfl⟩:=ry;obtain⟨its,r,pl,hz⟩:=I.tuple hq;obtain⟨j,h1,h2,h3,h4,h5⟩:=EH he;obtain⟨w,ew,rw'⟩:=r.get h2;have hl:=r.length;have hn:=tJ;have fin:EP X pins σ Q w s:=⟨z,H,I,rw',q⟩
 exact subscriptTail_builtinR (x:=w) pl.typeIs slot_tuple_getitem.lookup
  (getItem_tuple (j:=j) (Q:=λr s'=>r=w/\EP X pins σ Q r s') pl (by omega) (by omega) (by rw[ax,<-hl];exact h1) (by simpa using ew) ⟨rfl,fin⟩) hs
theorem XI:IxR X K5:=by
 intro value slice pins s σ H x y v u Q I rx ry h hs;obtain⟨z,i,c,rfl,rfl,hz,he,q⟩:=h;obtain⟨t,rfl⟩:=rx;obtain⟨t',rfl⟩:=ry;obtain⟨j,h1,h2,h3,h4,h5⟩:=EH he;have hl:z.cps.toList.length=z.length:=by simp[Str.length]
 rw[hl]at h1 h4 h5;have hn:=tJ;exact tail_any (typeIs_str s z t) slot_str_getitem.lookup (getItem_str (c:=c) (by have e1:decide (i < -(2^63:Int))=false:=decide_eq_false (by omega);have e2:decide (i>=2^63)=false:=decide_eq_false (by omega);rw[e1,e2,Bool.or_false]) (by rw[h1];simpa using h2) ⟨.str ⟨#[c]⟩,H,I.tok _,⟨_,rfl⟩,q⟩) hs
def EK(K:ar):R2:=λx y H Q=>K2 K x y H Q∨K4 K x y H Q∨K5 x y H Q
def K6:IxR X (EK X.K):=ix_list.or (ix_tup.or XI)
def XJ(its:List af)(n j:Nat)(u:af):qe (·.setIfInBounds j u) {cls:=.type "list",data:=.seq its.toArray n}={cls:=.type "list",data:=.seq (its.set j u).toArray n}:=by simp[qe]
def Inv.lst{H:Hp}(I:Inv X pins σ H s)(h:H p=some (.lst xs)):
  ∃(its:List af)(n:Nat),Bs xs its/\s.heap.get? p=some {cls:=.type "list",data:=.seq its.toArray n}/\xs.length<=cg:=by
 let⟨z,its,n,r,e⟩:=I.hok p _ h;exact⟨its,n,r,e,z⟩
def Inv.lstUpd{H:Hp}{its its':List af}(I:Inv X pins σ H s)(h:H p=some (.lst xs))(ho:s.heap.get? p=some {cls:=.type "list",data:=.seq its.toArray n})(hf:f {cls:=.type "list",data:=.seq its.toArray n}={cls:=.type "list",data:=.seq its'.toArray n'})(r:Bs ys its')(hz:ys.length<=cg)(t:Nat):
  Inv X pins σ (upd H p (.lst ys)) {s with heap:=s.heap.update p f,toks:=t}:=by
 have e:(s.heap.update p f).get? p=some {cls:=.type "list",data:=.seq its'.toArray n'}:=by rw[ph f ho (by rw[hf]<;>rfl),hf]
 refine I.write (x:=p) (e:=p) (by rw[h];trivial) (.inl rfl) (λb u hb q=>(ow _ _ (dh hb)).trans q) ⟨_,e⟩ ?_;exact⟨hz,its',n',r,e⟩
def XM:V->V->V->Hp->(Hp->Prop)->Prop:=λo i v H Q=>∃p xs k j,o=.ref p/\i=.int k/\H p=some (.lst xs)/\eO xs.length k=some j/\Q (upd H p (.lst (xs.set j v)))
def EL:JZ X XM:=by
 intro pins s σ H o i v ov iv u Q I ro ri rv h;obtain⟨p,xs,k,j,rfl,rfl,hp,hj,q⟩:=h;cases ro;obtain⟨t,rfl⟩:=ri;let⟨its,n,r,ho,hz⟩:=I.lst hp;let⟨h1,h2,h3,h4⟩:=EG hj;have hl:=r.length;have hn:=tJ;have I':Inv X pins σ (upd H p (.lst (xs.set j v))) {s with heap:=s.heap.update p (qe (·.setIfInBounds j u))}:=I.lstUpd hp ho (XJ its n j u) (r.set rv j) (by rw[mm];exact hz) s.toks
 by_cases h0:0<=k
 ·have hk:k.toNat=j:=by rw[seqIndex_of h0 h4]at h1;exact cw h1
  exact PySem.W.ki_setAt ho h0 (by omega) (by rw[ax,<-hl];exact h4) (by rw[hk];exact⟨_,I',q⟩)
 ·have hk:(k+(its.toArray.size:Int)).toNat=j:=by rw[seqIndex_neg (by omega) h3]at h1;rw[ax,<-hl];exact cw h1
  exact PySem.W.ki_setBack ho (by omega) (by rw[ax,<-hl];exact h3) (by omega) (by rw[hk];exact⟨_,I',q⟩)
def XN(lo hi:Option Int)(n:Nat):(sliceBounds lo hi none n).1=((HT.sIx n 0 lo:Nat):Int)/\(sliceBounds lo hi none n).2.1=((HT.sIx n n hi:Nat):Int)/\(sliceBounds lo hi none n).2.2=1:=by
 refine⟨?_,?_,rfl⟩
 ·cases lo with
  |none=>simp[sliceBounds,HT.sIx]
  |some i=>
   simp only[sliceBounds,HT.sIx,Option.getD_none,show(1:Int)>0 by decide,if_true]
   by_cases h:i<0
   ·simp only[h,if_true]<;>omega
   ·simp only[h,if_false]<;>omega
 ·cases hi with
  |none=>simp[sliceBounds,HT.sIx]
  |some i=>
   simp only[sliceBounds,HT.sIx,Option.getD_none,show(1:Int)>0 by decide,if_true]
   by_cases h:i<0
   ·simp only[h,if_true]<;>omega
   ·simp only[h,if_false]<;>omega
def XO(its:List af)(lo hi:Option Int):slicePick its.toArray lo hi none=((its.drop (HT.sIx its.length 0 lo)).take (HT.sIx its.length its.length hi-HT.sIx its.length 0 lo)).toArray:=by let⟨h1,h2,h3⟩:=XN lo hi its.toArray.size;unfold slicePick;rw[h1,h2,h3];simp only[sliceRange_one,pick_run,ax]<;>rfl
def XQ(K:ar):V->Option Int->Option Int->Hp->VK->Prop:=λx lo hi H Q=>∃a xs,x=.ref a/\Cu K H a xs/\∀p,H p=none->Q (.ref p) (upd H p (.lst (pR xs lo hi)))
def XR:SlR X (XQ X.K):=by intro pins s σ H x v vl vu lo hi sl Q I rx hs pl pu h;obtain⟨a,xs,rfl,hx,q⟩:=h;cases rx;let⟨its,r,ht,hz⟩:=I.list hx;have hlen:=r.length;refine⟨"list",_,slot_list_getitem.lookup,ht.isList.typeIs,?_⟩;refine wpAny_getItem_list_slice ht.isList hs pl pu .none (by simp) ?_ (by rw[ax]<;>omega);rw[XO,<-hlen];refine⟨.ref s.heap.objs.size,_,I.laid (t':=s.toks) (o:=.lst (pR xs lo hi)) (λb ob q=>ao _ q) (aq _) ?_,rfl,q _ (I.hok.fresh (aq _))⟩;exact⟨cp (KW xs lo hi) hz,_,0,(r.drop (HT.sIx xs.length 0 lo)).take (HT.sIx xs.length xs.length hi-HT.sIx xs.length 0 lo),bg _ rfl⟩
def K7:Bx X (.builtin "len") (λxs H Q=>∃p ys,xs=[.ref p]/\(Cu X.K H p ys∨Cd X.K H p ys)/\Q (.int ys.length) H):=by
 intro pins s σ H xs us Q I r h;obtain⟨p,ys,rfl,hq,q⟩:=h;obtain⟨u,rfl,rx⟩:=jB r;cases rx;have hn:=tJ
 rcases hq with hq|hq
 ·let⟨its,r',pl,hz⟩:=I.list hq;have hlen:=r'.length;exact Calls.call_len_list pl.isList (by simp only[ax]<;>omega) ⟨.int ys.length,H,I.tok _,⟨s.toks+1,by rw[ax,hlen]⟩,q⟩
 ·let⟨its,r',pl,hz⟩:=I.tuple hq;have hlen:=r'.length;exact len_tuple pl (by simp only[ax]<;>omega) ⟨.int ys.length,H,I.tok _,⟨s.toks+1,by rw[ax,hlen]⟩,q⟩
def XS:Bx X (.type "list") (λxs H Q=>∃p ys,xs=[.ref p]/\(Cu X.K H p ys∨Cd X.K H p ys)/\∀l,H l=none->Q (.ref l) (upd H l (.lst ys))):=by
 intro pins s σ H xs us Q I r h;obtain⟨p,ys,rfl,hq,q⟩:=h;obtain⟨u,rfl,rx⟩:=jB r;cases rx;have fin:∀(its:List af),Bs ys its->ys.length<=cg->∀(h':cu)(c':Nat),(∀b o',s.heap.get? b=some o'->h'.get? b=some o')->
   h'.get? s.heap.objs.size=some {cls:=.type "list",dict:=none,data:=.seq its.toArray c',slots:=#[]}->EP X pins σ Q (.ref s.heap.objs.size) {s with heap:=h'}:=λits r' hz h' c' kp e=>
  ⟨.ref s.heap.objs.size,_,I.laid (t':=s.toks) kp (aq _) (show Bv X.prog X.w _ h' _ (.lst ys) from⟨hz,its,c',r',e⟩),rfl,q _ (I.hok.fresh (aq _))⟩
 rcases hq with hq|hq
 ·let⟨its,r',pl,hz⟩:=I.list hq;have hlen:=r'.length;let⟨o,ho,hc,n,hd⟩:=pl.isList;exact call_list_seq p (.inl rfl) ho hc hd (λh' c' kp e=>fin its r' hz h' c' kp e) (by simp only[ax]<;>omega)
 ·let⟨its,r',pl,hz⟩:=I.tuple hq;have hlen:=r'.length;let⟨o,ho,hc,n,hd⟩:=pl;exact call_list_seq p (.inr rfl) ho hc hd (λh' c' kp e=>fin its r' hz h' c' kp e) (by simp only[ax]<;>omega)
def K8:Bx X (.type "tuple") (λxs H Q=>∃p ys,xs=[.ref p]/\((Cu X.K H p ys/\∀l,H l=none->Q (.ref l) (upd H l (.tup ys)))∨(Cd X.K H p ys/\Q (.ref p) H))):=by
 intro pins s σ H xs us Q I r h;obtain⟨p,ys,rfl,h⟩:=h;obtain⟨u,rfl,rx⟩:=jB r;cases rx
 rcases h with⟨hq,q⟩|⟨hq,q⟩
 ·let⟨its,r',pl,hz⟩:=I.list hq;have hlen:=r'.length;refine call_tuple_list pl.isList (λh' kp=>?_) (by simp only[ax]<;>omega);have I1:Inv X pins σ H {s with heap:=h'}:=I.kept (t':=s.toks) kp;have I2:Inv X pins σ (upd H h'.objs.size (.tup ys)) {s with heap:=h'.push {cls:=.type "tuple",data:=.seq its.toArray} }:=I1.laid (t':=s.toks) (λb o e=>ao _ e) (aq _) (show Bv X.prog X.w _ _ _ (.tup ys) from⟨hz,its,r',Ck.new _ _⟩);exact⟨.ref h'.objs.size,_,I2,rfl,q _ (I1.hok.fresh (aq _))⟩
 ·let⟨its,r',pl,hz⟩:=I.tuple hq;exact call_tuple_same pl ⟨.ref p,H,I,rfl,q⟩
def zG(K:ar)(T:String)(x:V)(H:Hp):Prop:=match x with
 |.str _=>T="str"
 |.int _=>T="int"
 |.ref p=>(T="list"/\∃xs,Cu K H p xs)∨(T="tuple"/\∃o,K.lookup p=some o/\o.cls=.type "tuple"/\o.dict=none) ∨
   (T="dict"/\((∃kvs,H p=some (.dK kvs))∨∃kvs,H p=some (.dT kvs)))∨(T="set"/\∃S n,H p=some (.set S n))
 |_=>False
def XT{v:af}(I:Inv X pins σ H s)(r:RelV x v)(ty:zG X.K T x H):
  s.TypeIs v T/\∀a,v=.ref a->∃ob,s.heap.get? a=some ob/\ob.dict=none:=by
 cases x with
 |str z=>
  obtain⟨t,rfl⟩:=r
  cases (show T="str" from ty)
  exact⟨typeIs_str s z t,λ_ e=>nomatch e⟩
 |int i=>
  obtain⟨t,rfl⟩:=r
  cases (show T="int" from ty)
  exact⟨typeIs_int s i t,λ_ e=>nomatch e⟩
 |ref p=>
  cases r
  rcases ty with⟨rfl,xs,hq⟩|⟨rfl,o,hk,hc,hd⟩|⟨rfl,hk⟩|⟨rfl,S,n,hk⟩
  ·let⟨its,_,pl,_⟩:=I.list hq;refine⟨pl.isList.typeIs,λa e=>?_⟩;cases e;let⟨o,n,e,c,hd,_⟩:=pl;exact⟨o,e,hd⟩
  ·refine⟨⟨o,I.kIn p o hk,hc⟩,λa e=>?_⟩;cases e;exact⟨o,I.kIn _ o hk,hd⟩
  ·have z:∃o,s.heap.get? p=some o/\o.ExactDict:=by
    rcases hk with⟨kvs,hk⟩|⟨kvs,hk⟩
    ·let⟨_,_,_,_,o,_,_,e,ex,_⟩:=I.hok p _ hk;exact⟨o,e,ex⟩
    ·let⟨_,_,_,_,o,_,_,e,ex,_⟩:=I.hok p _ hk;exact⟨o,e,ex⟩
   let⟨o,e,ex⟩:=z;refine⟨⟨o,e,ex.1⟩,λa e2=>?_⟩;cases e2;exact⟨o,e,ex.2.1⟩
  ·let⟨o,_,_,_,e,ex,_⟩:=I.hok p _ hk;refine⟨⟨o,e,ex.1⟩,λa e2=>?_⟩;cases e2;exact⟨o,e,ex.2.1⟩
 |_=>exact ik ty
def XU(K:ar)(T:String)(r:V->Ho->Hp->VK->Prop)(to:TE)(t:TA):TE:=λσ H Q=>to σ H λx H1=>zG K T x H1/\t σ H1 λxs H2=>r x xs H2 Q
variable{o e:bq}{es:List bq}{to:TE}{t:TA}{name:Str}{apos cpos:Pos}{T id:String}{r:V->Ho->Hp->VK->Prop}
theorem EM(pa:PlainAttrs T)(slot:Slot T name id)(hty:typeOf (.builtin id)=pure (.type "method_descriptor"))(hm:EJ X id r)(ho:PE X o to)(ha:PA X (e::es) t)(hbase:attributeBase o name X.env (eval o X.env)=eval o X.env:=by rfl)(hfew:((backTo cpos (ay (e::es) X.env)).all (λx=>!x.1)&&(backToKw cpos (keywordEach [] X.env)).all (λx=>x.1.isSome)
   && decide ((e::es).length+([]:List Keyword).length+(if([]:List Keyword).isEmpty then 0 else 1)<30))=true:=by rfl)(hline:(apos.endLine==cpos.line)=true:=by rfl)(hs:ay (e::es) X.env=(false,eval e X.env)::ay es X.env:=by rfl)(hplain:(backTo cpos (ay es X.env)).any (·.1)=false:=by rfl):
  PE X (.Call (.Attribute o name apos) (e::es) [] cpos) (XU X.K T r to t):=by
 intro pins s σ H Q I h;refine wpAny_Call_method_late hbase hfew hline rfl (aY (ho pins s σ H _ I h) λv s1⟨x,H1,I1,r1,ty,q1⟩=>?_);obtain⟨h1,h2⟩:=XT I1 r1 ty;refine⟨T,id,pa,slot,hty,h1,h2,?_⟩;have hA:=ha cpos pins s1 σ H1 _ I1 q1;rw[hs]at hA⊢;refine Calls.callWith_builtin (by show(false||(backTo cpos (ay es X.env)).any (·.1))=false;rw[hplain]<;>rfl) (Calls.evalArgs_plain ?_);exact aY hA λus s2⟨vs,H2,I2,r2,q2⟩=>hm pins s2 σ H2 x vs v us Q I2 r1 r2 q2
end
def EN(X:Cx)(id:String)(r:V->Ho->Hp->VK->Prop):Prop:=
 ∀(pins:List (ah×Obj))(s:ag)(σ:St)(H:Hp)(x:V)(xs:Ho)(v:af)(us:List af)(Q:VK),Inv X pins σ H s->RelV x v->Bs xs us->r x xs H Q->
  wpAny (model X.prog X.w) X.A (call (.builtin id) (v::us)) (EP X pins σ Q) X.xe s
theorem Bs.one:∀{x:V}{us:List af},Bs [x] us->∃u,us=[u]/\RelV x u
 |_,_,.cons r .nil=>⟨_,rfl,r⟩
theorem Bs.eraseIdx:∀{xs:Ho}{us:List af}(i:Nat),Bs xs us->Bs (xs.eraseIdx i) (us.eraseIdx i)
 |_,_,_,.nil=>.nil
 |_,_,0,.cons _ t=>t
 |_,_,i+1,.cons r t=>.cons r (Bs.eraseIdx i t)
theorem Bs.rep(h:Bs xs us):∀k:Nat,Bs (bu k xs).flatten (bu k us).flatten
 |0=>.nil
 |k+1=>by rw[iq,iq,kh,kh];exact Bs.append h (Bs.rep h k)
theorem K9{α:Type}:∀(l:List α)(i:Nat),(l.eraseIdx i).length<=l.length
 |[],_=>aq _
 |_::_,0=>vm _
 |_::r,i+1=>Nat.succ_le_succ (K9 r i)
theorem LB(its:List af):∀(k:Nat)(acc:List af),
  List.foldl (λx1 x2=>x1++x2) acc.toArray (bu k its.toArray)=(acc++(bu k its).flatten).toArray
 |0,acc=>by simp
 |k+1,acc=>by
  have e:acc.toArray++its.toArray=(acc++its).toArray:=by simp
  have e2:(acc++its)++(bu k its).flatten=acc++(bu (k+1) its).flatten:=by rw[iq,kh,oz]
  rw[<-e2,<-LB its k (acc++its),<-e,iq,List.foldl_cons]
section
variable{X:Cx}{pins:List (ah×Obj)}{σ:St}{H:Hp}{s:ag}{l b:ah}{xs ys zs:Ho}
def Inv.lset{its its':List af}{f:Array af->Array af}(I:Inv X pins σ H s)(hH:H l=some (.lst xs))(e:s.heap.get? l=some {cls:=.type "list",data:=.seq its.toArray n})(hf:f its.toArray=its'.toArray)(hv:Bs ys its')(hz:ys.length<=cg):
  Inv X pins σ (upd H l (.lst ys)) {s with heap:=s.heap.update l (qe f),toks:=t'}:=by
 have q:=Ai e f;rw[hf]at q;refine I.write (x:=l) (e:=l) (by rw[hH];exact trivial) (.inl rfl) (λb' u hb hu=>(ow s.heap (qe f) (dh hb)).trans hu) ⟨_,q⟩ ?_;exact⟨hz,its',_,hv,q⟩
def Inv.lnew(I:Inv X pins σ H s)(hv:Bs ys its)(hz:ys.length<=cg):
  Inv X pins σ (upd H s.heap.objs.size (.lst ys)) {s with heap:=s.heap.push {cls:=.type "list",data:=.seq its.toArray},toks:=t'}:=
 I.laid (λ_ _ q=>ao _ q) (aq _) ⟨hz,its,0,hv,bg _ rfl⟩
def Inv.fresh(I:Inv X pins σ H s):H s.heap.objs.size=none:=I.hok.fresh (aq _)
def Inv.lstM(I:Inv X pins σ H s)(hH:H l=some (.lst xs)):xs.length<=cg/\∃(its:List af)(n:Nat),Bs xs its/\xs.length=its.length/\s.heap.get? l=some {cls:=.type "list",data:=.seq its.toArray n}:=by let⟨z,its,n,r,e⟩:=I.hok l _ hH;exact⟨z,its,n,r,r.length,e⟩
def LC(h:n<=cg):mw n=false:=by unfold mw;exact decide_eq_false (by omega)
end
section
variable{X:Cx}
def XW:V->Ho->Hp->VK->Prop:=λx vs H Q=>∃l xs y,x=.ref l/\vs=[y]/\H l=some (.lst xs)/\xs.length<cg/\Q .non (upd H l (.lst (xs++[y])))
def XX:EN X "list.append" XW:=by intro pins s σ H x vs v us Q I rx rv h;obtain⟨l,xs,y,rfl,rfl,hH,hz,q⟩:=h;cases rx;obtain⟨u,rfl,ru⟩:=rv.one;let⟨z,its,n,r,hl,e⟩:=I.lstM hH;refine vn F.slot_list_append ⟨_,e,rfl⟩ F.entry_list_append (F.args_list_append_2 _ _) (PySem.list_append l its.toArray n u (by rw[ax];omega)) ⟨e,?_⟩;refine⟨.non,_,I.lset (its':=its++[u]) hH e (by simp) (r.append (.cons ru .nil)) ?_,rfl,q⟩;rw[bw,Aj];omega
def XY:V->Ho->Hp->VK->Prop:=λx vs H Q=>∃l b xs zs,x=.ref l/\vs=[.ref b]/\H l=some (.lst xs)/\H b=some (.lst zs)/\xs.length+zs.length<=cg/\Q .non (upd H l (.lst (xs++zs)))
def XZ:EN X "list.extend" XY:=by
 intro pins s σ H x vs v us Q I rx rv h;obtain⟨l,b,xs,zs,rfl,rfl,hH,hB,hz,q⟩:=h;cases rx;obtain⟨u,rfl,ru⟩:=rv.one;cases ru;let⟨z,its,n,r,hl,e⟩:=I.lstM hH;let⟨z2,Dd,n2,r2,hl2,e2⟩:=I.lstM hB;have Cv:its.toArray.size+Dd.toArray.size<=cg:=by rw[ax,ax];omega
 have hlong:¬(!its.toArray.isEmpty&&mw (its.toArray.size+Dd.toArray.size))=true:=by rw[LC Cv,rj];exact ic
 refine vn F.slot_list_extend ⟨_,e,rfl⟩ F.entry_list_extend (F.args_list_extend_2 _ _)
  (AutoSeq1.list_extend_list_list_0 l its.toArray n b Dd.toArray n2 hlong (by rw[ax];omega) (by omega)) ⟨e,e2,?_⟩
 refine⟨.non,_,I.lset (its':=its++Dd) hH e (by simp) (r.append r2) ?_,rfl,q⟩;rw[bw];omega
def X0:V->Ho->Hp->VK->Prop:=λx vs H Q=>∃l xs i k y,x=.ref l/\vs=[.int i]/\H l=some (.lst xs)/\-(2^63)<=i/\i<2^63/\seqIndex? i xs.length=some k/\xs[k]?=some y/\Q y (upd H l (.lst (xs.eraseIdx k)))
def X1:EN X "list.pop" X0:=by
 intro pins s σ H x vs v us Q I rx rv h;obtain⟨l,xs,i,k,y,rfl,rfl,hH,h1,h2,hk,hy,q⟩:=h;cases rx;obtain⟨u,rfl,ru⟩:=rv.one;obtain⟨t,rfl⟩:=ru;let⟨z,its,n,r,hl,e⟩:=I.lstM hH;let⟨w,hw,rw'⟩:=r.get hy;refine vn F.slot_list_pop ⟨_,e,rfl⟩ F.entry_list_pop (F.args_list_pop_2 _ _)
  (MeetsSeq.list_pop_at l its.toArray n i t k w (fitsIndex_both h1 h2) (by rw[ax,<-hl];exact hk) (by rw[<-mq];exact hw) (by rw[ax];omega)) ⟨e,?_⟩
 refine⟨y,_,I.lset (its':=its.eraseIdx k) hH e ?_ (r.eraseIdx k) ?_,rw',q⟩
 ·show its.toArray.eraseIdxIfInBounds k=(its.eraseIdx k).toArray;rw[List.eraseIdxIfInBounds_toArray]
 ·have:=K9 xs k;omega
def LD:R2:=λx y H Q=>∃l b xs zs,x=.ref l/\y=.ref b/\H l=some (.lst xs)/\H b=some (.lst zs)/\xs.length+zs.length<=cg/\∀p,H p=none->Q (.ref p) (upd H p (.lst (xs++zs)))
def op_cat:Cw X (binaryOp .Add) LD:=by
 intro pins s σ H x y v u Q I rx ry h;obtain⟨l,b,xs,zs,rfl,rfl,hH,hB,hz,q⟩:=h;cases rx;cases ry;let⟨z,its,n,r,hl,e⟩:=I.lstM hH;let⟨z2,Dd,n2,r2,hl2,e2⟩:=I.lstM hB;refine PySem.P.add_list e e2 ?_ (by rw[ax,ax];omega);have ea:its.toArray++Dd.toArray=(its++Dd).toArray:=by simp
 rw[ea];exact⟨.ref _,_,I.lnew (t':=s.toks) (r.append r2) (by rw[bw];omega),rfl,q _ I.fresh⟩
def LF:R2:=λx y H Q=>∃l k xs,x=.ref l/\y=.int k/\H l=some (.lst xs)/\-(2^63)<=k/\k<2^63/\xs.length*k.toNat<=cg/\
 ∀p,H p=none->Q (.ref p) (upd H p (.lst (bu k.toNat xs).flatten))
def X2{α:Type}(xs:List α)(k:Nat):(bu k xs).flatten.length=k*xs.length:=by
 induction k with
 |zero=>simp
 |succ k ih=>rw[iq,kh,bw,ih,qw,Nat.add_comm]
def X3:Cw X (binaryOp .Mult) LF:=by
 intro pins s σ H x y v u Q I rx ry h;obtain⟨l,k,xs,rfl,rfl,hH,h1,h2,hz,q⟩:=h;cases rx;obtain⟨t,rfl⟩:=ry;let⟨z,its,n,r,hl,e⟩:=I.lstM hH;have hlen:its.toArray.size*k.toNat<=cg:=by rw[ax,<-hl];exact hz
 have hcap:¬its.toArray.size*k.toNat>(2^63-1)/8:=by
  have:(cg:Nat)<=(2^63-1)/8:=by decide
  omega
 have hfit:¬(!Builtin.List.listFitsIndex k)=true:=by rw[fitsIndex_both h1 h2];exact ic
 have hlong:¬mw (its.toArray.size*k.toNat)=true:=by rw[LC hlen];exact ic
 have Es:List.foldl (λx1 x2=>x1++x2) #[] (bu (if its.toArray.isEmpty=true then 0 else k.toNat) its.toArray)=(bu k.toNat its).flatten.toArray:=by
  have f0:∀m:Nat,List.foldl (λx1 x2=>x1++x2) #[] (bu m its.toArray)=(bu m its).flatten.toArray:=λm=>by have:=LB its m [];rw[List.nil_append]at this;exact this
  rw[f0]
  cases its with
  |nil=>simp
  |cons a r'=>rw[if_neg (by simp)]
 refine wpAny_binaryOp_repeat_ref (T:="list") (U:="int") (by decide) ⟨_,e,rfl⟩ (λs'=>typeIs_int s' k t) noFill_list_mul F.fills_int_mul F.slot_int_rmul repeat_list F.slot_int_index.lookup
  (vn F.slot_int_rmul (typeIs_int s k t) F.entry_int_rmul (F.args_int_rmul_2 _ _) (int___rmul___int_list k t l its.toArray n)
   ⟨e,rfl,⟨_,e,rfl⟩,vn F.slot_list_mul ⟨_,e,rfl⟩ F.entry_list_mul (F.args_list_mul_2 _ _) (AutoListH.list___mul___list_int_3 l its.toArray n k t hfit hcap hlong) ⟨e,?_⟩⟩)
 rw[Es];exact⟨.ref _,_,I.lnew (t':=s.toks) (r.rep k.toNat) (by rw[X2,Nat.mul_comm];exact hz),rfl,q _ I.fresh⟩
end
section
variable{prog:bp}{w:cm}{A:cb}{E:af->ag->Prop}{s:ag}
set_option maxRecDepth 100000 in
end
end L2
namespace Att
open PySem PySem.W PySem.Calls PyProof.Rows
def X4:∀(ns:y')(vs:List af),WellAll P h vs (ns.map WData.int)->lx vs ns:=by
 intro ns
 induction ns with
 |nil=>intro vs w;rw[wz]at w;cases w;exact .nil
 |cons n ns ih=>
  intro vs w;rw[da]at w
  cases w with
  |cons a b=>cases a;exact .cons _ _ (ih _ b)
def X5{l:OpenLaw}(hn:l.most=some n)(hpre:l.row.toRowW.claim.pre args=true)(hwl:WellAll P h vals args):
  ∃a vs ns,vals=[iu a]/\args=[WData.list (ns.map WData.int)]/\h.get? a=some {cls:=.type "list",data:=.seq vs.toArray}/\lx vs ns/\ns.length<=n:=by
 have hsh:WShape.hasAll [] args [.list .int]=true:=(pre_splitW hpre).1;have hc:l.pre.holds [] {args:=args}=true:=(pre_splitW hpre).2;obtain⟨d,r,rfl,h1,h2⟩:=hasAllW_cons hsh;obtain rfl:=hasAllW_nil h2;obtain⟨xs,rfl,h3⟩:=hasW_list h1;obtain⟨ns,rfl⟩:=items_int h3;have hlen:ns.length<=n:=by
  unfold OpenLaw.pre at hc;have h4:(WTm.not (.lt (.lit (.int (n:Int))) (.len (.arg 0)))).holds [] {args:=[.list (ns.map .int)]}=true:=by have h4:=(holds_andW hc).1;rw[hn]at h4;exact h4
  have h5:=condW_of h4 (w_not (w_lt w_lit (w_len_list (w_arg rfl))));rw[bo]at h5;refine Nat.le_of_not_lt λq=>?_;have q':(n:Int)<((ns.length:Nat):Int):=by omega
  first
   |(rw[decide_eq_true q']at h5;exact absurd h5 (by decide))
   |(simp at h5;omega)
 cases hwl with
 |cons w1 w2=>
  cases w2
  cases w1 with
  |list ho hall=>exact⟨_,_,ns,rfl,rfl,ho,X4 ns _ hall,hlen⟩
def X6(l:OpenLaw)(args:List WData):l.row.toRowW.claim.post args (.bool true) args=true:=
 postW_of (r:=l.row.toRowW) (X:=(true==true))
  (show WShape.has [] (.bool true) .bool=true by first|rfl|decide|simp[WShape.has,WShape.arms,WShape.armsAll])
  (show(WTm.eq .res (.lit (.bool true))).value [] {args:=args,res:=some (.bool true),after:=args}=some (.bool (true==true)) from w_eq_bool (w_res rfl) w_lit) rfl
def attach_call{l:OpenLaw}{YP:cm->cu->Prop}{d:Ak}(hn:l.most=some n)(hdf:d.params.defaults=[])(call:∀(w:cm)(s₀ s₁:ag)(mg mb:Str->Option af)(fa:ah)(o:Obj)(pm cd doc:af)(a:ah)(vs:List af)(ns:y'),
   Ground q loose [] XP w s₀ mg mb s₁.heap->YP w s₁.heap->
   s₁.heap.get? fa=some o->o.data=.func (docDef d.name d.params d.body d.scope pm cd doc)->s₁.heap.CodeRec cd d.name->mg d.name=some (.ref fa)->
   s₁.heap.get? a=some {cls:=.type "list",data:=.seq vs.toArray}->lx vs ns->ns.length<=n->s₁.gens=#[]->
   codeAny (model l.prog w) callerA (.call (.ref fa) ⟨[.ref a],[]⟩) (λr s'=>r=.ok (.ret (.bool true))/\OldK s₁.heap s'.heap/\s'.os=s₁.os/\uj s'.gens) s₁):
  WalkO q loose XP YP l.row.toRowW d [] (λf vs=>ym f vs):=by
 intro w s₀ s₁ mg mb G Y fa o pm cd doc dV kV ho hd hcd hD hmg hg args vals as hpre hlay hrd hwl hlo;obtain rfl:dV=.none:=Dflts.none hD hdf;obtain rfl:kV=.none:=Dflts.noKw hD;obtain⟨a,vs,ns,rfl,rfl,Ga,hints,hlen⟩:=X5 hn hpre hwl;refine enter_call (qd (call w s₀ s₁ mg mb fa o pm cd doc a vs ns G Y ho (fd_plain hd) hcd hmg Ga hints hlen hg) λr s' hq=>?_);obtain⟨rfl,h2,h3,h4⟩:=hq;exact⟨.inl ⟨.bool true,.bool true,[],rfl,λ_=>rfl,.bool true,X6 l _,λ_=>⟨qj,λ_ hm=>(nomatch hm)⟩⟩,h2,h3,h4⟩
end Att
namespace L2
theorem tN:∀{vs:List af}{ns:y'},lx vs ns->Bs (ns.map Gn) vs
 |_,_,.nil=>.nil
 |_,_,.cons n t h=>.cons ⟨t,rfl⟩ (tN h)
def pS(s:gw):jl:=match s with
 |.FunctionDef _ a _ _ _ _ _ _ _ _=>a
 |_=>{posonlyargs:=[],args:=[],vararg:=none,kwonlyargs:=[],kw_defaults:=[],kwarg:=none,defaults:=[]}
def gR(s:gw):List gw:=match s with
 |.FunctionDef _ _ b _ _ _ _ _ _ _=>b
 |_=>[]
def aR(s:gw):fi:=match s with
 |.FunctionDef _ _ _ _ _ _ sc _ _ _=>sc
 |_=>{kind:=.function,names:=[],isGenerator:=false,isCoroutine:=false}
abbrev E0:XK:=λ_ _ _=>False
structure Fun(K:ar)(x qual:Str)(st:gw)(f:ah)(fd:br):Prop where
 ex:∃(oc:af)(od:Option ah)(kV doc pm:af)(an:Option ah)(cdv ct:af)(osl:Array (Option af)),
  fd=ql x qual (pS st) (gR st) (aR st) .none kV doc pm an cdv ct/\K.lookup f=some ⟨oc,od,.func fd,osl⟩/\yc K cdv qual=true
 kp:kq K (.ref f)=true
section
variable{P:bp}{w:cm}{K:ar}{mg:Str->Option af}{base:cu}
def Fun.binds{st:gw}{ps:Bh}(F:Fun K x qual st f fd)(h:∀(kV doc pm:af)(an:Option ah)(cdv ct:af)(us:List af),us.length=ps.length->bindArgs (ql x qual (pS st) (gR st) (aR st) .none kV doc pm an cdv ct) ⟨us,[]⟩=pure (ps.zip us)):Binds K fd ps []:=by
 obtain⟨oc,od,kV,doc,pm,an,cdv,ct,osl,rfl,lk,hcd⟩:=F.ex;exact .all (h kV doc pm an cdv ct)
def LG{st:gw}{kV doc pm cdv ct:af}(l:K.lookup f=some ⟨oc,od,.func (ql x qual (pS st) (gR st) (aR st) .none kV doc pm an cdv ct),osl⟩)(c:yc K cdv qual=true)(k:kq K (.ref f)=true):Fun K x qual st f (ql x qual (pS st) (gR st) (aR st) .none kV doc pm an cdv ct):=⟨⟨oc,od,kV,doc,pm,an,cdv,ct,osl,rfl,l,c⟩,k⟩
end
theorem LH{A B:Prop}(h:B):if false=true then A else B:=by rw[if_neg ic];exact h
theorem LI{A B:Prop}(h:A):if true=true then A else B:=by rw[if_pos rfl];exact h
def Di(H H':Hp):Prop:=∀b o,H b=some o->H' b=some o
def Di.refl(H:Hp):Di H H:=λ_ _ h=>h
def zH{β:Type}(x y:Str)(c:β)(acc:List (Str×β)):((y,c)::acc).lookup x=if x=y then some c else acc.lookup x:=by
 rw[iz]
 by_cases e:x=y
 ·have hb:(x==y)=true:=beq_iff_eq.mpr e;rw[hb,if_pos e]
 ·have hb:(x==y)=false:=beq_eq_false_iff_ne.mpr e;rw[hb,if_neg e]
def cW(env:Env):List (Str×md)->List (Str×ah)->List (Str×ah)
 |[],acc=>acc
 |(x,k)::r,acc=>cW env r (if k==.free then(x,(env.cells.lookup x).getD 0)::acc else acc)
theorem EO{env:Env}:∀(l:List (Str×md))(acc:List (Str×ah)),(∀x,(x,bz)∈l->∃c,env.cells.lookup x=some c)->
  (forIn l acc (λ(x:Str×md)(r:List (Str×ah))=>match x with
   |(name,kind)=>if(kind==bz)=true then(do let a <-cellOf env name;pure (tj ((name,a)::r)))else(pure (tj r):Sem (ForInStep (List (Str×ah))))))=(pure (cW env l acc):Sem (List (Str×ah)))
 |[],acc,_=>rfl
 |(x,k)::l,acc,h=>by
  rw[qo];dsimp only
  cases hk:k==bz with
  |true=>
   have e:k=.free:=by cases k<;>first|rfl|cases hk
   subst e;let⟨c,hc⟩:=h x (bh ..);rw[if_pos rfl,show cW env ((x,bz)::l) acc=cW env l ((x,c)::acc)by rw[cW,if_pos hk,hc];rfl,<-EO l ((x,c)::acc) λy hy=>h y (au _ hy)];unfold cellOf;rw[hc];rfl
  |false=>rw[if_neg (by simp),show cW env ((x,k)::l) acc=cW env l acc by rw[cW,hk];rfl,<-EO l acc λy hy=>h y (au _ hy)];rfl
def zI{env:Env}{scope:fi}(h:∀x,(x,bz)∈scope.names->∃c,env.cells.lookup x=some c):closureFor scope env=pure (cW env scope.names []):=by unfold closureFor;have:=EO (env:=env) scope.names [] h;show(forIn scope.names [] _ >>=λcs=>pure cs)=_;exact(congrArg (λ(m:Sem (List (Str×ah)))=>m >>=λcs=>pure cs) this)
theorem wD{env:Env}:∀(l:List (Str×md))(acc:List (Str×ah)),((x,bz)∈l∨acc.lookup x=some ((env.cells.lookup x).getD 0))->(cW env l acc).lookup x=some ((env.cells.lookup x).getD 0)
 |[],acc,h=>h.elim (λz=>nomatch z) id
 |(y,k)::l,acc,h=>by
  rw[cW]
  cases hk:k==bz with
  |true=>
   refine wD l _ ?_;rw[if_pos rfl]
   by_cases e:x=y
   ·subst e;right;rw[zH,if_pos rfl]
   ·rcases h with h|h
    ·rcases az.mp h with h|h
     ·cases h;exact absurd rfl e
     ·exact .inl h
    ·right;rw[zH,if_neg e];exact h
  |false=>
   refine wD l _ ?_
   rcases h with h|h
   ·rcases az.mp h with h|h
    ·cases h;simp at hk
    ·exact .inl h
   ·exact .inr h
structure BlkCells(h h':cu)(names:List (Str×md))(acc cs:List (Str×ah)):Prop where
 cases:∀x c,cs.lookup x=some c->acc.lookup x=some c∨(h.objs.size<=c/\h'.IsCell c none/\(x,ed)∈names)
 own:∀x,(x,ed)∈names->∃c,cs.lookup x=some c
 old:∀x,(x,ed)∉names->cs.lookup x=acc.lookup x
 inj:(∀x y c,acc.lookup x=some c->acc.lookup y=some c->x=y)->(∀x c,acc.lookup x=some c->c<h.objs.size)->∀x y c,cs.lookup x=some c->cs.lookup y=some c->x=y
theorem wF:∀(names:List (Str×md))(h:cu)(acc:List (Str×ah)),BlkCells h (pushCells h names) names acc (cellsFrom h.objs.size names acc)
 |[],h,acc=>{cases:=λ_ _ e=>.inl e,own:=λ_ z=>(nomatch z),old:=λ_ _=>rfl,inj:=λa _=>a}
 |(y,k)::r,h,acc=>by
  cases hk:k==ed with
  |true=>
   have ek:k=.cell:=by cases k<;>first|rfl|cases hk
   subst ek;have ih:=wF r (h.push {cls:=.type "cell",data:=.cell none}) ((y,h.objs.size)::acc);have e1:pushCells h ((y,ed)::r)=pushCells (h.push {cls:=.type "cell",data:=.cell none}) r:=rfl;have e2:cellsFrom h.objs.size ((y,ed)::r) acc=cellsFrom (h.push {cls:=.type "cell",data:=.cell none}).objs.size r ((y,h.objs.size)::acc):=by rw[gm];rfl
   rw[e1,e2];have look:∀x,((y,h.objs.size)::acc).lookup x=if x=y then some h.objs.size else acc.lookup x:=λx=>zH ..
   refine⟨λx c e=>?_,λx hx=>?_,λx hx=>?_,λh1 h2 x z c ex ez=>?_⟩
   ·rcases ih.cases x c e with q|⟨q1,q2,q3⟩
    ·rw[look]at q
     by_cases exy:x=y
     ·rw[if_pos exy]at q;cases q;refine .inr ⟨aq _,⟨_,rz r _ _ _ (bg _ rfl),rfl⟩,by rw[exy];exact bh ..⟩
     ·rw[if_neg exy]at q;exact .inl q
    ·rw[gm]at q1;exact .inr ⟨Nat.le_of_succ_le q1,q2,au _ q3⟩
   ·by_cases hr:(x,ed)∈r
    ·exact ih.own x hr
    ·rw[ih.old x hr,look]
     rcases az.mp hx with z|z
     ·cases z;exact⟨_,if_pos rfl⟩
     ·exact absurd z hr
   ·rw[ih.old x λz=>hx (au _ z),look,if_neg]
    rintro rfl
    exact hx (bh ..)
   ·refine ih.inj ?_ ?_ x z c ex ez
    ·intro a b c ea eb;rw[look]at ea eb
     by_cases qa:a=y
     ·rw[if_pos qa]at ea;cases ea
      by_cases qb:b=y
      ·exact qa.trans qb.symm
      ·rw[if_neg qb]at eb;exact absurd (h2 b _ eb) (ig _)
     ·rw[if_neg qa]at ea
      by_cases qb:b=y
      ·rw[if_pos qb]at eb;cases eb;exact absurd (h2 a _ ea) (ig _)
      ·rw[if_neg qb]at eb;exact h1 a b c ea eb
    ·intro a c ea;rw[gm];rw[look]at ea
     by_cases qa:a=y
     ·rw[if_pos qa]at ea;cases ea;exact jz _
     ·rw[if_neg qa]at ea;exact km (h2 a c ea)
  |false=>
   have ih:=wF r h acc;have e1:pushCells h ((y,k)::r)=pushCells h r:=by rw[pushCells,hk];rfl
   have e2:cellsFrom h.objs.size ((y,k)::r) acc=cellsFrom h.objs.size r acc:=by rw[cellsFrom,hk];rfl
   rw[e1,e2];have nk:∀x,(x,ed)∈(y,k)::r->(x,ed)∈r:=λx z=>by
    rcases az.mp z with z|z
    ·cases z;simp at hk
    ·exact z
   exact⟨λx c e=>(ih.cases x c e).imp id λ⟨a,b,c⟩=>⟨a,b,au _ c⟩,λx hx=>ih.own x (nk x hx),λx hx=>ih.old x λz=>hx (au _ z),ih.inj⟩
def LJ(scope:fi)(env:Env)(L:ah):Env:={scope:=relabel scope env,locals:=L,globals:=env.globals,cells:=cellsFrom (L+1) scope.names (cW env scope.names []),qual:=env.qual,func:=none,code:=env.code,frame:=env.frame,builtins:=env.builtins}
def X7{M:zh}{s:ag}{env:Env}(h:Q {scope:=scope,locals:=s.heap.objs.size,globals:=g,cells:=cellsFrom (s.heap.objs.size+1) scope.names cl,qual:=qual,func:=none,code:=env.code,frame:=env.frame,builtins:=env.builtins}
   {s with heap:=pushCells (s.heap.push {cls:=.type "dict",data:=.dict #[]}) scope.names}):
  wpAny M A (newFunctionEnv scope g cl [] qual none .none (some env)) Q E s:=by
 simp only[newFunctionEnv,Av,if_true];refine aa (wpAny_alloc ?_);refine aa (wpAny_layCells _ (λname kind cells=>by cases hkc:kind==ed<;>simp[hkc]) _ _ _ _ ?_);rw[show({s with heap:=s.heap.push {cls:=.type "dict",data:=.dict #[]} }:ag).heap.objs.size=s.heap.objs.size+1 from gm ..];exact aa (ak (ak h))
def bU(X:Cx)(scope:fi)(N:Bh)(s:ag)(H:Hp)(ex:List ah):Cx:={X with N:=N,s₀:=s,H₀:=H,env:=LJ scope X.env s.heap.objs.size,outer:=X.stack,stack:=X.stack,ex:=ex,fn:=λx=>scope.names.lookup x==some .cell,xe:=λ_ _=>False}
def tO(cap:List (Option Nat))(σ:St):St:=cap.map λo=>match o with|some j=>(σ[j]?).getD none|none=>none
structure Cj(X:Cx)(scope:fi)(N:Bh)(cap:List (Option Nat)):Prop where
 kind:scope.kind=.function
 nd:∀x∈scope.names,x.2=.local->scope.names.lookup x.1=some .local
 len:cap.length=N.length
 free:∀x,(x,bz)∈scope.names->X.env.kindOf x=some .cell∨X.env.kindOf x=some .free
 apart:∀x,(x,bz)∈scope.names->(x,ed)∉scope.names
 cap:∀(i j:Nat)(x:Str),cap[i]?=some (some j)->N[i]?=some x->X.N[j]?=some x/\(x,bz)∈scope.names/\(relabel scope X.env).names.lookup x≠some .local
theorem ER{scope:fi}{env:Env}{x:Str}:∀{l:List (Str×md)}{k:md},(l.map λ(n,k)=>if(k==bz&&env.scope.kind==.function&&env.kindOf n==some .cell)then(n,ed)else(n,k)).lookup x=some k->
  (x,k)∈l∨(k=.cell/\(x,bz)∈l)
 |[],_,h=>by simp at h
 |(n,q)::r,k,h=>by
  have ih:=@ER scope env x r k;rw[da]at h
  by_cases hc:(q==bz&&env.scope.kind==.function&&env.kindOf n==some .cell)=true
  ·have hq:q=.free:=by
    have:(q==bz)=true:=by
     cases z:q==bz with
     |true=>rfl
     |false=>rw[z]at hc;simp at hc
    cases q<;>first|rfl|cases this
   dsimp only at h;rw[if_pos hc,iz]at h
   cases e:x==n with
   |true=>rw[e]at h;have h':ed=k:=cw h;subst h';have ex:=beq_iff_eq.mp e;subst ex;subst hq;exact .inr ⟨rfl,bh ..⟩
   |false=>rw[e]at h;exact(ih h).imp (au _) λ⟨a,b⟩=>⟨a,au _ b⟩
  ·dsimp only at h;rw[if_neg hc,iz]at h
   cases e:x==n with
   |true=>rw[e]at h;have h':q=k:=cw h;subst h';have ex:=beq_iff_eq.mp e;subst ex;exact .inl (bh ..)
   |false=>rw[e]at h;exact(ih h).imp (au _) λ⟨a,b⟩=>⟨a,au _ b⟩
theorem zJ:∀(l:List (Str×md))(acc:List (Str×ah)),(cW env l acc).lookup x=some c->acc.lookup x=some c∨((x,bz)∈l/\c=(env.cells.lookup x).getD 0)
 |[],acc,h=>.inl h
 |(y,k)::l,acc,h=>by
  rw[cW]at h
  cases hk:k==bz with
  |true=>
   have ek:k=.free:=by cases k<;>first|rfl|cases hk
   subst ek;rw[if_pos hk]at h
   rcases zJ l _ h with q|⟨q1,q2⟩
   ·rw[zH]at q
    by_cases e:x=y
    ·rw[if_pos e]at q;subst e;exact .inr ⟨bh ..,(cw q).symm⟩
    ·rw[if_neg e]at q;exact .inl q
   ·exact .inr ⟨au _ q1,q2⟩
  |false=>rw[if_neg (by rw[hk];exact ic)]at h;exact(zJ l _ h).imp id λ⟨a,b⟩=>⟨au _ a,b⟩
section
variable{X:Cx}{pins:List (ah×Obj)}{σ:St}{H:Hp}{s:ag}{scope:fi}{N:Bh}{cap:List (Option Nat)}{ex:List ah}
def zK(I:Inv X pins σ H s)(C:Cj X scope N cap)(e:(cW X.env scope.names []).lookup x=some c):(x,bz)∈scope.names/\X.env.cells.lookup x=some c:=by
 rcases zJ _ _ e with q|⟨q1,q2⟩
 ·cases q
 ·let⟨c',h'⟩:=I.ok.has x (C.free x q1);rw[h']at q2;subst q2;exact⟨q1,h'⟩
def zL(I:Inv X pins σ H s)(C:Cj X scope N cap)(e:(LJ scope X.env s.heap.objs.size).cells.lookup x=some c):
  (X.env.cells.lookup x=some c/\(x,bz)∈scope.names)∨(s.heap.objs.size<c/\(pushCells (s.heap.push {cls:=.type "dict",data:=.dict #[]}) scope.names).IsCell c none/\(x,ed)∈scope.names):=by
 have B:=wF scope.names (s.heap.push {cls:=.type "dict",data:=.dict #[]}) (cW X.env scope.names []);rw[gm]at B
 rcases B.cases x c e with q|⟨q1,q2,q3⟩
 ·let⟨a,b⟩:=zK I C q;exact .inl ⟨b,a⟩
 ·rw[gm]at q1;exact .inr ⟨q1,q2,q3⟩
def LK(I:Inv X pins σ H s)(C:Cj X scope N cap)(hex:∀b∈ex,dC X pins H b/\b<s.heap.objs.size):(bU X scope N s H ex).Ok:=by
 have B:=wF scope.names (s.heap.push {cls:=.type "dict",data:=.dict #[]}) (cW X.env scope.names []);rw[gm]at B;have kf:∀x,(x,bz)∈scope.names->∃c,X.env.cells.lookup x=some c:=λx hx=>I.ok.has x (C.free x hx);refine⟨I.ok.mod,C.kind,I.ok.glob,I.ok.blt,aq _,?_,?_,?_,I.ok.hd,I.ok.frames,.inl rfl,?_,I.bs,cp I.ok.bsz I.sz,?_,?_,I.stack,I.stkFree⟩
 ·refine B.inj (λx y c e1 e2=>?_) λx c e=>?_
  ·exact I.ok.inj x y c (zK I C e1).2 (zK I C e2).2
  ·let⟨v,q⟩:=I.cell x c (zK I C e).2;rw[gm];exact km q.lt
 ·intro x hx;have Fz:(relabel scope X.env).names.lookup x=some .cell∨(relabel scope X.env).names.lookup x=some .free:=hx;have mem:(x,ed)∈scope.names∨(x,bz)∈scope.names:=by
   rcases Fz with h|h
   ·rcases ER (scope:=scope) h with q|⟨_,q⟩
    ·exact .inl q
    ·exact .inr q
   ·rcases ER (scope:=scope) h with q|⟨z,q⟩
    ·exact .inr q
    ·exact .inr q
  by_cases hc:(x,ed)∈scope.names
  ·exact B.own x hc
  ·rcases mem with h|h
   ·exact absurd h hc
   ·exact⟨_,(B.old x hc).trans (wD _ _ (.inl h))⟩
 ·intro x c hf e;have hf':(scope.names.lookup x==some .cell)=true:=hf;have hm:(x,ed)∈scope.names:=fz (eq_of_beq hf')
  rcases zL I C e with⟨_,q⟩|⟨q,_⟩
  ·exact absurd hm (C.apart x q)
  ·exact gr q
 ·intro b hb;let⟨⟨f0,f1,f2,f3,f4,f5⟩,hlt⟩:=hex b hb;refine⟨bc hlt,λx c e z=>?_⟩
  rcases zL I C e with⟨q,_⟩|⟨q,_⟩
  ·exact f4 x c q z
  ·subst z;exact ig _ (Nat.lt_trans q hlt)
 ·intro b o e hb;let⟨⟨f0,f1,f2,f3,f4,f5⟩,hlt⟩:=hex b hb
  rcases f3 with q|q
  ·exact I.ok.noex b o e q
  ·exact ig _ (aw (av e) (cp I.ok.bsz q))
 ·intro b hb z;let⟨⟨f0,f1,f2,f3,f4,f5⟩,hlt⟩:=hex b hb
  rcases az.mp (I.stkSub b z)with q|q
  ·exact f1 q
  ·exact f2 q
def X8(I:Inv X pins σ H s)(C:Cj X scope N cap)(hex:∀b∈ex,dC X pins H b/\b<s.heap.objs.size):
  Inv (bU X scope N s H ex) pins (tO cap σ) H {s with heap:=pushCells (s.heap.push {cls:=.type "dict",data:=.dict #[]}) scope.names}:=by
 have B:=wF scope.names (s.heap.push {cls:=.type "dict",data:=.dict #[]}) (cW X.env scope.names []);rw[gm]at B;have kp:∀b o,s.heap.get? b=some o->(pushCells (s.heap.push {cls:=.type "dict",data:=.dict #[]}) scope.names).get? b=some o:=λb o e=>rz _ _ _ _ (ao _ e);have ns:(pushCells (s.heap.push {cls:=.type "dict",data:=.dict #[]}) scope.names).Ns s.heap.objs.size (λ_=>none):=⟨_,#[],_,rz _ _ _ _ (bg _ rfl),rfl,(λe he=>absurd he (by simp)),λ_=>rfl⟩
 let⟨m,hn,hl⟩:=I.loc;refine⟨LK I C hex,rfl,I.bare,Un.kept kp,⟨_,ns,λi x v h1 h2 h3=>?_⟩,λx c e=>?_,I.hok.fresh (aq _),λx c e=>?_,λp hp=>?_,I.hok.kept kp,?_⟩
 ·have h2':(cap.map λo=>match o with|some j=>(σ[j]?).getD none|none=>none)[i]?=some (some v):=h2;rw[du]at h2'
  cases q:cap[i]? with
  |none=>rw[q]at h2';cases h2'
  |some o=>
   rw[q]at h2'
   cases o with
   |none=>cases h2'
   |some j=>
    have e1:(σ[j]?).getD none=some v:=cw h2';have e2:σ[j]?=some (some v):=by
     cases z:σ[j]? with
     |none=>rw[z]at e1;cases e1
     |some w=>rw[z]at e1;exact congrArg some e1
    let⟨c1,c2,c3⟩:=C.cap i j x q h1;have vis:mU X.env.scope x:=by
     rcases C.free x c2 with z|z
     ·exact .inr (.inl z)
     ·exact .inr (.inr z)
    let⟨u,r,l⟩:=hl j x v c1 e2 vis;refine⟨u,r,?_⟩
    rcases l with⟨hk,hm⟩|⟨hk,c,hc,hcell⟩
    ·rcases C.free x c2 with z|z
     ·rw[z]at hk;cases hk
     ·rw[z]at hk;cases hk
    ·refine .inr ⟨?_,c,?_,?_⟩
     ·have h3':mU (relabel scope X.env) x:=h3
      rcases h3' with z|z|z
      ·exact absurd z c3
      ·exact .inl z
      ·exact .inr z
     ·have:=(B.old x (C.apart x c2)).trans (wD _ _ (.inl c2));rw[hc]at this;exact this
     ·let⟨o,ho,hd⟩:=hcell;exact⟨o,kp _ _ ho,hd⟩
 ·rcases zL I C e with⟨q,_⟩|⟨_,q,_⟩
  ·let⟨v,o,ho,hd⟩:=I.cell x c q;exact⟨v,o,kp _ _ ho,hd⟩
  ·exact⟨none,q⟩
 ·rcases zL I C e with⟨q,_⟩|⟨q,_⟩
  ·exact I.freeC x c q
  ·exact I.hok.fresh (gr q)
 ·let⟨a1,a2,a3,a4,a5⟩:=I.pin p hp;refine⟨kp _ _ a1,a2,bc (av a1),λz=>?_,a5⟩
  rcases az.mp (I.stkSub _ z)with q|q
  ·exact a3 q
  ·exact a4 q
 ·show(cap.map _).length=N.length;rw[bo];exact C.len
def X9(I:Inv X pins σ H s)(C:Cj X scope N cap)(hex:∀b∈ex,dC X pins H b/\b<s.heap.objs.size):∀b∈ex,dC (bU X scope N s H ex) pins H b:=by intro b hb;let⟨⟨f0,f1,f2,f3,f4,f5⟩,hlt⟩:=hex b hb;have ok:=LK (N:=N) I C hex;exact⟨f0,(ok.exf b hb).1,ok.exfs b hb,.inl hb,(ok.exf b hb).2,f5⟩
def YA(I:Inv X pins σ H s)(hex:∀b∈ex,dC X pins H b/\b<s.heap.objs.size)(I':Inv (bU X scope N s H ex) pins σ' H' s')(hh:je s.heap.objs.size s'.heap h'):
  Inv X pins σ H' {s' with heap:=h'}:=by
 have u:Un (dR X.stack) ex H H' s.heap s'.heap:=I'.base;have up:∀b o o',s.heap.get? b=some o->s'.heap.get? b=some o'->h'.get? b=some o':=λb o o' e e'=>(hh.2 b (bc (av e))).trans e';have hL:H' s.heap.objs.size=none:=I'.free;refine I.call' (s':={s' with heap:=h'}) (ch:=ex) I'.os ⟨λb o q n hb hx=>up b o o q (u.keep b o q n hb hx),λb o q n hb hx=>?_,u.free,λb o q hx=>?_,u.tups,u.frzs,u.tbls⟩ (λb o e=>?_) I'.bare λb hb=>?_
 ·let⟨sl,e⟩:=u.slot b o q n hb hx;exact⟨sl,up b o _ q e⟩
 ·let⟨o',e⟩:=u.there b o q hx;exact⟨o',up b o _ q e⟩
 ·refine(I'.hok b o e).stay (λc v hc q=>(hh.2 c ?_).trans q) (λ_ q=>q) λ_ _ q=>q
  rcases hc with z|z
  ·rw[z];rintro rfl;rw[hL]at e;cases e
  ·rintro rfl;rw[hL]at z;cases z
 ·let⟨⟨f0,f1,f2,f3,f4,f5⟩,hlt⟩:=hex b hb;exact⟨f3,f1,f4,f5⟩
def Inv.adopt(I:Inv X pins σ H s)(f:dC X pins H a)(ha:X.s₀.heap.objs.size<=a)(new:Bv X.prog X.w (upd H a o) s.heap a o):Inv X pins σ (upd H a o) s:=by
 let⟨f0,f1,f2,f3,f4,f5⟩:=f;have ne0:∀b ob,X.s₀.heap.get? b=some ob->b≠a:=λb ob e z=>by subst z;exact ig _ (aw (av e) ha)
 refine⟨I.ok,I.os,I.bare,⟨I.base.keep,I.base.slot,λb ob e n hx=>by rw[bT (ne0 b ob e)];exact I.base.free b ob e n hx,I.base.there,λb xs e=>?_,λb ob u e=>?_,λb ps e=>?_⟩,I.loc,I.cell,by rw[bT (dh f1)];exact I.free,
  λx c e=>by rw[bT (f4 x c e)];exact I.freeC x c e,λp hp=>?_,λb u e=>?_,I.len⟩
 ·have:=I.base.tups b xs e;rw[bT (gF this f0)];exact this
 ·have:=I.base.frzs b ob u e;rw[bT (gF this f0)];exact this
 ·let⟨more,this⟩:=I.base.tbls b ps e;exact⟨more,by rw[bT (gF this f0)];exact this⟩
 ·let⟨a1,a2,a3,a4,a5⟩:=I.pin p hp;exact⟨a1,by rw[bT (f5 p hp)];exact a2,a3,a4,a5⟩
 ·by_cases hb:b=a
  ·subst hb;rw[cU]at e;cases e;exact new
  ·rw[bT hb]at e;exact(I.hok b u e).stay (λ_ _ _ q=>q) (λc q=>by rw[bT (gF q f0)];exact q) λc xs q=>by rw[bT (gF q f0)];exact q
end
def AccAt(s:ag)(D:ah)(xs:Ho):Prop:=xs.length<=cg/\∃(its:List af)(n:Nat),Bs xs its/\s.heap.get? D=some {cls:=.type "list",data:=.seq its.toArray n}
abbrev TC:=St->Hp->Ho->(St->Hp->Ho->Prop)->Prop
def Fo(X:Cx)(D:ah)(m:Sem Unit)(t:TC):Prop:=
 ∀(pins:List (ah×Obj))(s:ag)(σ:St)(H:Hp)(xs:Ho)(K:St->Hp->Ho->Prop),Inv X pins σ H s->AccAt s D xs->dC X pins H D->t σ H xs K->
  wpAny (model X.prog X.w) X.A m (λ_ s'=>∃σ' H' xs',Inv X pins σ' H' s'/\AccAt s' D xs'/\H' D=none/\K σ' H' xs') X.xe s
section
variable{X:Cx}{D:ah}
def AccAt.obj(a:AccAt s D xs):∃o,s.heap.get? D=some o/\∀v,o.data≠.cell v:=by let⟨_,its,n,_,e⟩:=a;exact⟨_,e,λv z=>nomatch z⟩
def Inv.pinD(I:Inv X pins σ H s)(a:AccAt s D xs)(f:dC X pins H D):Inv X (pins++kW [D] s.heap) σ H s:=
 I.pinned (λb hb=>by (have e:b=D:=by simpa using hb);subst e;exact f) λb hb=>by
  have e:b=D:=by simpa using hb
  subst e;exact a.obj
def Inv.atD{H':Hp}(a:AccAt s D xs)(I:Inv X (pins++kW [D] s.heap) σ' H' s'):AccAt s' D xs/\H' D=none:=by let⟨z,its,n,r,e⟩:=a;have:=I.pin (D,_) (cn _ (cn _ (tI (by simp) e)));exact⟨⟨z,its,n,r,this.1⟩,this.2.1⟩
def zM(te:TE):TC:=λσ H xs K=>te σ H λv H1=>xs.length<cg/\K σ H1 (xs++[v])
theorem wG{elt:bq}{te:TE}(he:PE X elt te):Fo X D (do let x <-eval elt X.env;let _ <-call (.builtin "list.append") [.ref D,x];pure ()) (zM te):=by
 intro pins s σ H xs K I a f h;refine aa (aY (he _ s σ H _ (I.pinD a f) h) λu s1⟨v,H1,I1,r1,hz,q1⟩=>?_);obtain⟨a1,n1⟩:=Inv.atD a I1;have I1':=I1.unpinned;obtain⟨z,its,n,r,e⟩:=a1;have hl:=r.length;refine aa (vn F.slot_list_append ⟨_,e,rfl⟩ F.entry_list_append (F.args_list_append_2 _ _) (PySem.list_append D its.toArray n u (by rw[ax];omega)) ⟨e,?_⟩);have q:=Ai e (·.push u);have e2:its.toArray.push u=(its++[u]).toArray:=by simp
 rw[e2]at q;refine ak ⟨σ,H1,xs++[v],?_,⟨by rw[bw,Aj];omega,its++[u],_,r.append (.cons r1 .nil),q⟩,n1,q1⟩;obtain⟨f0,f1,f2,f3,f4,f5⟩:=f;exact I1'.turned (t':=s1.toks) (λb o hb z=>(ow s1.heap _ (dh hb)).trans z) n1 f1 f3 f4 f5
def LL(ifs:List bq)(env:Env):Sem Bool:=forIn ifs true λc r=>if r=true then do let ok <-isTrue c env (eval c env);pure (tj ok)else pure (tj r)
def PTs(X:Cx)(ifs:List bq)(t:TT):Prop:=∀(pins:List (ah×Obj))(s:ag)(σ:St)(H:Hp)(Q:Bool->Hp->Prop),Inv X pins σ H s->t σ H Q->wpAny (model X.prog X.w) X.A (LL ifs X.env) (TP X pins σ Q) X.xe s
def LM:TT:=λ_ H Q=>Q true H
def LN:PTs X [] LM:=λpins s σ H Q I h=>wpAny_tests_nil ⟨H,I,h⟩
def YB(h:PT X c t):PTs X [c] t:=λpins s σ H Q I q=>wpAny_tests_one (h pins s σ H Q I q)
def lW(p:Pos)(it:af)(tg:bq)(ifs:List bq)(env:Env)(inner:Sem Unit)(c:Code):Sem PySem.Fin:=do
 standAt p
 match <-pyNext it with
 |none=>pure (.done .next)
 |some v=>do
  letOwnedTupleGo tg it v
  assign tg env v
  let ok <-LL ifs env
  if ok=true then do inner;again c
  else again c
def tP(J:It)(g:TG)(tt:TT)(inner:TC)(K:St->Hp->Ho->Prop)(σ:St)(H:Hp)(xs:Ho):Prop:=
 ∃W:Nat->Nat->St->Hp->Ho->Prop,(∃m,W 0 m σ H xs)/\∀i m σ H xs,W i m σ H xs->
  (J.stop i H/\K σ H xs)∨(J.go i H/\∃N:St->Hp->Ho->Prop,(∀σ' H' xs',N σ' H' xs'->∃m',m'<m/\W (i+1) m' σ' H' xs')/\
   ∀x H',J.yld i H x H'->g x σ H' λσ2 H2=>tt σ2 H2 λb H3=>if b=true then inner σ2 H3 xs N else N σ2 H3 xs)
theorem LO{elt:bq}{gens:List jo}{sc:fi}{ps:Pos}{d:Nat}{it:ah}{tg:bq}{ifs:List bq}{p:Pos}{inner:Sem Unit}{g:TG}{tt:TT}{ti:TC}{J:It}{fp:List ah}{tn:Nat->cu->Prop}(hx:X.xe=λ_ _=>False)(hc:X.calm=true)(ht:compTurn (.ListComp elt gens sc ps) d (.ref it) (.ref D) X.env=lW p (.ref it) tg ifs X.env inner (.compLoop (.ListComp elt gens sc ps) d (.ref it) (.ref D) X.env))(hg:PG X tg g)(Er:PTs X ifs tt)(hi:Fo X D inner ti)(T:Turn X.prog X.w X.K tg J fp it tn){pins:List (ah×Obj)}{s:ag}{σ:St}{H:Hp}{xs:Ho}{K:St->Hp->Ho->Prop}{R:yb->ag->Prop}(I:Inv X pins σ H s)(a:AccAt s D xs)(f:dC X pins H D)(st:tn 0 s.heap)(hf:∀b∈fp,dC X pins H b)(hD:D∉fp)(h:tP J g tt ti K σ H xs)(hR:∀σ' H' xs' s',Inv X pins σ' H' s'->AccAt s' D xs'->H' D=none->K σ' H' xs'->R (.ok .next) s'):
  codeAny (model X.prog X.w) X.A (.compLoop (.ListComp elt gens sc ps) d (.ref it) (.ref D) X.env) R s:=by
 obtain⟨W,⟨m0,w0⟩,turn⟩:=h;have stat:∀{H':Hp},(∀b∈fp,H' b=none)->∀b∈fp,dC X pins H' b:=λhn b hb=>⟨hn b hb,(hf b hb).2⟩
 have statD:∀{H':Hp},H' D=none->dC X pins H' D:=λhn=>⟨hn,f.2⟩
 refine codeAny_loop rfl (λn s'=>∃i σ' H' xs',Inv X pins σ' H' s'/\AccAt s' D xs'/\H' D=none/\tn i s'.heap/\(∀b∈fp,H' b=none)/\W i n σ' H' xs') ?_ m0 ⟨0,σ,H,xs,I,a,f.1,st,λb hb=>(hf b hb).1,w0⟩
 rintro n s3 ⟨i,σ3,H3,xs3,I3,a3,n3,st3,fr3,w3⟩
 show wpAny _ X.A ((compTurn (.ListComp elt gens sc ps) d (.ref it) (.ref D) X.env).onRaise (λx=>do noteFrame x X.env;theTreesLotGoes x)) _ _ s3;rw[ht];refine uw (kv (Q:=λfin s'=>match fin with|.done f=>R (.ok f) s'|.again c'=>c'=.compLoop (.ListComp elt gens sc ps) d (.ref it) (.ref D) X.env/\∃m,m<n/\∃i σ' H' xs',Inv X pins σ' H' s'/\AccAt s' D xs'/\H' D=none/\tn i s'.heap/\(∀b∈fp,H' b=none)/\W i m σ' H' xs') (E:=λ_ _=>False) ?_ (λ_ _ z=>z) λ_ _ z=>z.elim);unfold lW;refine aa (qv (aa ?_));have xe':∀{α:Type}{m:Sem α}{Q:α->ag->Prop}{s:ag},wpAny (model X.prog X.w) X.A m Q X.xe s->wpAny (model X.prog X.w) X.A m Q (λ_ _=>False) s:=λ{α m Q s}z=>by rw[hx]at z;exact z
 have I3':=I3.pinD a3 (statD n3);have fr3':∀b∈fp,dC X (pins++kW [D] s3.heap) H3 b:=λb hb=>by
  obtain⟨g0,g1,g2,g3,g4,g5⟩:=stat fr3 b hb;refine⟨g0,g1,g2,g3,g4,λp hp=>?_⟩
  rcases cj.mp hp with z|z
  ·exact g5 p (ja _ z)
  ·rcases cj.mp z with z|z
   ·exact g5 p (cn _ z)
   ·have:=(EA z).1;have e:p.1=D:=by simpa using this
    rw[e];rintro rfl;exact hD hb
 rcases turn i n σ3 H3 xs3 w3 with⟨stop,qn⟩|⟨go,N,hN,step⟩
 ·refine aY (T.done X rfl rfl rfl hc i _ s3 σ3 H3 (λ_ _=>False) I3' fr3' st3 stop) λr s4⟨hr,I4⟩=>?_;subst hr;obtain⟨a4,n4⟩:=Inv.atD a3 I4;exact ak (hR σ3 H3 xs3 s4 I4.unpinned a4 n4 qn)
 ·refine aY (T.item X rfl rfl rfl hc i _ s3 σ3 H3 (λ_ _=>False) I3' fr3' st3 go) λr s4⟨u,hr,h4⟩=>?_;subst hr;refine aa (aY h4 λ_ s5⟨x,H5,I5,r5,y5,st5,fr5⟩=>?_);obtain⟨a5,n5⟩:=Inv.atD a3 I5;have I5u:=I5.unpinned;have I5p:=I5u.pinned (stat fr5) (T.obj _ _ st5);have fD5:dC X (pins++kW fp s5.heap) H5 D:=by
   obtain⟨g0,g1,g2,g3,g4,g5⟩:=statD n5;refine⟨g0,g1,g2,g3,g4,λp hp=>?_⟩
   rcases cj.mp hp with z|z
   ·exact g5 p (ja _ z)
   ·rcases cj.mp z with z|z
    ·exact g5 p (cn _ z)
    ·rintro rfl;exact hD (EA z).1
  have I5':=I5p.pinD a5 fD5;refine aa (xe' (aY (hg _ s5 σ3 H5 x u _ I5' r5 (step x H5 y5)) λ_ s6⟨σ6,H6,I6,q6⟩=>?_));obtain⟨a6,n6⟩:=Inv.atD a5 I6;have pin':∀{s σ H},Inv X (pins++kW fp s5.heap) σ H s->tn (i+1) s.heap/\∀b∈fp,H b=none:=λ{s σ H}J=>by refine⟨T.keep _ _ _ st5 λb hb o e=>(J.pin (b,o) (cn _ (cn _ (tI hb e)))).1,λb hb=>?_⟩;obtain⟨o,e,d⟩:=T.obj _ _ st5 b hb;exact(J.pin (b,o) (cn _ (cn _ (tI hb e)))).2.1
  have fD6:dC X (pins++kW fp s5.heap) H6 D:=⟨n6,fD5.2⟩
  have I6u:=I6.unpinned;have I6p:=I6u.pinD a6 fD6;refine aa (xe' (aY (Er _ s6 σ6 H6 _ I6p q6) λb s7⟨H7,I7,q7⟩=>?_));obtain⟨a7,n7⟩:=Inv.atD a6 I7;have I7u:=I7.unpinned;have fin:∀{s8 σ8 H8 xs8},Inv X (pins++kW fp s5.heap) σ8 H8 s8->AccAt s8 D xs8->H8 D=none->N σ8 H8 xs8->
    ∃m,m<n/\∃i σ' H' xs',Inv X pins σ' H' s8/\AccAt s8 D xs'/\H' D=none/\tn i s8.heap/\(∀b∈fp,H' b=none)/\W i m σ' H' xs':=λ{s8 σ8 H8 xs8}J a8 n8 q8=>by
   obtain⟨m',hm,w8⟩:=hN σ8 H8 xs8 q8;obtain⟨t8,fr8⟩:=pin' J;exact⟨m',hm,i+1,σ8,H8,xs8,J.unpinned,a8,n8,t8,fr8,w8⟩
  cases b with
  |true=>
   rw[if_pos rfl]at q7⊢;have fD7:dC X (pins++kW fp s5.heap) H7 D:=⟨n7,fD5.2⟩
   refine aa (xe' (aY (hi _ s7 σ6 H7 xs3 N I7u a7 fD7 q7) λ_ s8⟨σ8,H8,xs8,I8,a8,n8,q8⟩=>?_));exact ak ⟨rfl,fin I8 a8 n8 q8⟩
  |false=>rw[if_neg ic]at q7⊢;exact ak ⟨rfl,fin I7u a7 n7 q7⟩
end
def ES(elt tg iter:bq)(ifs:List bq)(sc:fi)(ps:Pos)(it:af)(D:ah)(env:Env):
  compTurn (.ListComp elt [⟨tg,iter,ifs,0⟩] sc ps) 0 it (.ref D) env=
   lW iter.pos it tg ifs env (do let x <-eval elt env;let _ <-call (.builtin "list.append") [.ref D,x];pure ()) (.compLoop (.ListComp elt [⟨tg,iter,ifs,0⟩] sc ps) 0 it (.ref D) env):=by rfl
def tQ(iter:bq)(e:bq)(d:Nat)(D:ah)(env:Env):Sem Unit:=do
 let x <-eval iter env
 standAt iter.pos
 let x <-foldedSetIterable iter env x
 let it <-holding [x] (pyIter x)
 let _ <-runOwn (.compStart e d it (.ref D) env) env
 pure ()
def LP(elt tg iter Dx Cb:bq)(ifs Cq:List bq)(sc:fi)(ps:Pos)(it:af)(D:ah)(env:Env):
  compTurn (.ListComp elt [⟨tg,iter,ifs,0⟩,⟨Dx,Cb,Cq,0⟩] sc ps) 0 it (.ref D) env=
   lW iter.pos it tg ifs env (tQ Cb (.ListComp elt [⟨tg,iter,ifs,0⟩,⟨Dx,Cb,Cq,0⟩] sc ps) 1 D env) (.compLoop (.ListComp elt [⟨tg,iter,ifs,0⟩,⟨Dx,Cb,Cq,0⟩] sc ps) 0 it (.ref D) env):=by
 unfold lW tQ;simp only[bind_assoc,pure_bind];rfl
def LQ(elt tg iter Dx Cb:bq)(ifs Cq:List bq)(sc:fi)(ps:Pos)(it:af)(D:ah)(env:Env):
  compTurn (.ListComp elt [⟨tg,iter,ifs,0⟩,⟨Dx,Cb,Cq,0⟩] sc ps) 1 it (.ref D) env=
   lW Cb.pos it Dx Cq env (do let x <-eval elt env;let _ <-call (.builtin "list.append") [.ref D,x];pure ()) (.compLoop (.ListComp elt [⟨tg,iter,ifs,0⟩,⟨Dx,Cb,Cq,0⟩] sc ps) 1 it (.ref D) env):=by rfl
section
variable{X:Cx}{D:ah}
def LR{gens:List jo}(ha:((gens)[d]?).elim false (·.is_async !=0)=false)(h0:codeAny (model prog w) A (.compLoop (.ListComp elt gens sc ps) d it acc env) R s)(h:wpAny (model prog w) A (pyIter it) (λit' s'=>codeAny (model prog w) A (.compLoop (.ListComp elt gens sc ps) d it' acc env) R s') (λ_ _=>False) s):
  codeAny (model prog w) A (.compStart (.ListComp elt gens sc ps) d it acc env) R s:=by
 refine codeAny_of_tree ?_;show wpAny _ _ ((compStart (.ListComp elt gens sc ps) d it acc env).onRaise (λx=>do noteFrame x env;standAt theWindowsPlace)) _ _ s;refine wpAny_notedAt (kv (E:=λ_ _=>False) ?_ (λ_ _ z=>z) λ_ _ z=>z.elim);unfold compStart;rw[show((clausesOf (.ListComp elt gens sc ps))[d]?).elim false (·.is_async !=0)=false from ha];simp only[cy,if_false];refine aa (oi (wpAny_ite ?_))
 split
 ·first
   |exact aa (ak (ak (And.intro rfl h0)))
   |exact ak (And.intro rfl h0)
 ·have fin:∀s:ag,wpAny (model prog w) A (pyIter it) (λit' s'=>codeAny (model prog w) A (.compLoop (.ListComp elt gens sc ps) d it' acc env) R s') (λ_ _=>False) s->
    wpAny (model prog w) A (do let it' <-pyIter it;again (.compLoop (.ListComp elt gens sc ps) d it' acc env)) (λfin s'=>match fin with|.done f=>R (.ok f) s'|.again c=>c.quiet=true/\codeAny (model prog w) A c R s') (λ_ _=>False) s:=λs h=>aa (kv h (λit' s' h'=>ak ⟨rfl,h'⟩) λ_ _ x=>x)
  refine aa (tq ?_);have ec:clausesOf (.ListComp elt gens sc ps)=gens:=rfl;rw[ec]
  cases q:gens[d]? with
  |none=>exact fin s h
  |some g=>exact aa (qv (fin s h))
def LU(wi:TI)(g:TG)(tt:TT)(inner:TC):TC:=λσ H xs K=>wi σ H λJ H1=>tP J g tt inner K σ H1 xs
theorem LV{elt:bq}{gens:List jo}{sc:fi}{ps:Pos}{d:Nat}{tg iter:bq}{ifs:List bq}{inner:Sem Unit}{wi:TI}{g:TG}{tt:TT}{ti:TC}(hx:X.xe=λ_ _=>False)(hc:X.calm=true)(ha:((gens)[d]?).elim false (·.is_async !=0)=false)(ht:∀it,compTurn (.ListComp elt gens sc ps) d (.ref it) (.ref D) X.env=lW iter.pos (.ref it) tg ifs X.env inner (.compLoop (.ListComp elt gens sc ps) d (.ref it) (.ref D) X.env))(hi:PI X tg iter wi)(hg:PG X tg g)(Er:PTs X ifs tt)(Dq:Fo X D inner ti)(hs:∀x,foldedSetIterable iter X.env x=pure x):
  Fo X D (tQ iter (.ListComp elt gens sc ps) d D X.env) (LU wi g tt ti):=by
 intro pins s σ H xs K I a f h;unfold tQ;refine aa (aY (hi _ s σ H _ (I.pinD a f) h) λv s1 h1=>aa (qv (aa (zj (hs v) (aa (gy (aY h1 λitv s2 h2=>?_)))))));obtain⟨it,fp,tn,J,H2,e,I2,T,st2,f2,lp⟩:=h2;subst e;obtain⟨a2,n2⟩:=Inv.atD a I2;have I2u:=I2.unpinned;have hpD:∀b∈fp,b≠D:=λb hb z=>by subst z;obtain⟨_,its,n,_,eo⟩:=a;exact(f2 b hb).2.2.2.2.2 (b,_) (cn _ (cn _ (tI (by simp) eo))) rfl
 have f2u:∀b∈fp,dC X pins H2 b:=λb hb=>by
  obtain⟨g0,g1,g2,g3,g4,g5⟩:=f2 b hb;exact⟨g0,g1,g2,g3,g4,λp hp=>g5 p (by
   rcases cj.mp hp with z|z
   ·exact ja _ z
   ·exact cn _ (ja _ z))⟩
 have fD:dC X pins H2 D:=⟨n2,f.2⟩
 refine aa (wpAny_runOwn ?_);have loop:codeAny (model X.prog X.w) X.A (.compLoop (.ListComp elt gens sc ps) d (.ref it) (.ref D) X.env) (λr s'=>match r with
   |.ok f=>wpAny (model X.prog X.w) X.A (pure ():Sem Unit) (λ_ s'=>∃σ' H' xs',Inv X pins σ' H' s'/\AccAt s' D xs'/\H' D=none/\K σ' H' xs') X.xe s'
   |.error e=>cameBackBy (model X.prog X.w) X.A X.env X.xe e s') s2:=
  LO hx hc (ht it) hg Er Dq T I2u a2 fD st2 f2u (λz=>hpD D z rfl) lp λσ' H' xs' s' I' a' n' k'=>ak ⟨σ',H',xs',I',a',n',k'⟩
 exact LR ha loop (T.self _ 0 s2 _ _ st2 loop)
end
def zN(wi:TI)(cap:List (Option Nat))(g:TG)(tt:TT)(inner:TC):TE:=λσ H Q=>wi σ H λJ H1=>tP J g tt inner (λ_ H' xs=>∀p,H' p=none->Q (.ref p) (upd H' p (.lst xs))) (tO cap σ) H1 []
section
variable{X:Cx}
def ET{gens:List jo}{tg iter:bq}{rest:List jo}{inner:ah->Env->Sem Unit}(hc:X.calm=true)(C:Cj X sc N cap)(eg:gens=⟨tg,iter,ifs,0⟩::rest)(ht:∀it D env,compTurn (.ListComp elt gens sc ps) 0 (.ref it) (.ref D) env=lW iter.pos (.ref it) tg ifs env (inner D env) (.compLoop (.ListComp elt gens sc ps) 0 (.ref it) (.ref D) env))(hg:∀s H ex,PG (bU X sc N s H ex) tg g)(Er:∀s H ex,PTs (bU X sc N s H ex) ifs tt)(Dq:∀s ex D,Inv X pins σ H2 s->(∀b∈ex,dC X pins H2 b/\b<s.heap.objs.size)->Fo (bU X sc N s H2 ex) D (inner D (bU X sc N s H2 ex).env) ti){K:St->Hp->Ho->Prop}{it:ah}{tn:Nat->cu->Prop}(I2:Inv X pins σ H2 s2)(T:Turn X.prog X.w X.K tg J fp it tn)(st2:tn 0 s2.heap)(f2:∀b∈fp,dC X pins H2 b)(lp:tP J g tt ti K (tO cap σ) H2 []){R:af->ah->yb->ag->Prop}(hR:∀σ' H' xs(s3 s':ag)(C D:ah),X.s₀.heap.objs.size<=D->C=s3.heap.objs.size->(∃m,s'.heap.Ns C m)->AccAt s' D xs->dC X pins H' D->dC X pins H' C->D<C->(∀h',je C s'.heap h'->Inv X pins σ H' {s' with heap:=h'})->K σ' H' xs->R (.ref D) C (.ok .next) s'):
  wpAny (model X.prog X.w) X.A (newList []) (λacc s3=>wpAny (model X.prog X.w) X.A (newFunctionEnv sc X.env.globals (cW X.env sc.names []) [] X.env.qual none .none (some X.env)) (λcenv s4=>codeAny (model X.prog X.w) X.A (.compStart (.ListComp elt gens sc ps) 0 (.ref it) acc {cenv with scope:=relabel sc X.env}) (R acc cenv.locals) s4) E s3) E s2:=by
 refine dw (X7 ?_);dsimp only;generalize hs3:({s2 with heap:=s2.heap.push {cls:=.type "list",dict:=none,data:=.seq ([]:List af).toArray} }:ag)=s3;have kp:∀b o,s2.heap.get? b=some o->s3.heap.get? b=some o:=λb o e=>by rw[<-hs3];exact ao _ e
 have I3:Inv X pins σ H2 s3:=by rw[<-hs3];exact I2.kept (t':=s2.toks) λb o e=>ao _ e
 have eD:s3.heap.get? s2.heap.objs.size=some {cls:=.type "list",data:=.seq ([]:List af).toArray 0}:=by rw[<-hs3];exact bg _ rfl
 have nD:H2 s2.heap.objs.size=none:=I2.hok.fresh (aq _);have fD:dC X pins H2 s2.heap.objs.size:=I2.fpOk (aq _) nD;have hlt:s2.heap.objs.size<s3.heap.objs.size:=av eD;have hex:∀b∈s2.heap.objs.size::fp,dC X pins H2 b/\b<s3.heap.objs.size:=λb hb=>by
  rcases az.mp hb with rfl|hb
  ·exact⟨fD,hlt⟩
  ·let⟨o,e,_⟩:=T.obj 0 _ st2 b hb;exact⟨f2 b hb,av (kp b o e)⟩
 have hDfp:s2.heap.objs.size∉fp:=λz=>by let⟨o,e,_⟩:=T.obj 0 _ st2 _ z;exact ig _ (av e)
 have I4:=X8 (N:=N) (ex:=s2.heap.objs.size::fp) I3 C hex;have F4:=X9 (N:=N) I3 C hex;have st4:tn 0 (pushCells (s3.heap.push {cls:=.type "dict",data:=.dict #[]}) sc.names):=T.keep 0 _ _ st2 λb hb o e=>rz _ _ _ _ (ao _ (kp b o e));have a4:AccAt {s3 with heap:=pushCells (s3.heap.push {cls:=.type "dict",data:=.dict #[]}) sc.names} s2.heap.objs.size []:=⟨gv _,[],0,.nil,rz _ _ _ _ (ao _ eD)⟩
 have loop:codeAny (model X.prog X.w) X.A (.compLoop (.ListComp elt gens sc ps) 0 (.ref it) (.ref s2.heap.objs.size) (bU X sc N s3 H2 (s2.heap.objs.size::fp)).env) (R (.ref s2.heap.objs.size) s3.heap.objs.size)
   {s3 with heap:=pushCells (s3.heap.push {cls:=.type "dict",data:=.dict #[]}) sc.names}:=by
  refine LO (X:=bU X sc N s3 H2 (s2.heap.objs.size::fp)) rfl hc (ht it _ _) (hg _ _ _) (Er _ _ _) (Dq _ _ _ I3 hex) T I4 a4 (F4 _ (bh ..)) st4 (λb hb=>F4 b (au _ hb)) hDfp lp λσ' H' xs' s' I' a' n' k'=>?_;let⟨m,hn,_⟩:=I'.loc;exact hR σ' H' xs' s3 s' _ _ (cp I2.sz (aq _)) rfl ⟨m,hn⟩ a' ⟨n',fD.2⟩ (I3.fpOk (aq _) I'.free) hlt (λh' hh=>YA I3 hex I' hh) k'
 have ha:((gens)[0]?).elim false (·.is_async !=0)=false:=by rw[eg];rfl
 subst hs3;exact LR ha loop (T.self _ 0 _ _ _ st4 loop)
theorem LW{elt:bq}{gens:List jo}{sc:fi}{ps:Pos}{tg iter:bq}{ifs:List bq}{rest:List jo}{inner:ah->Env->Sem Unit}{wi:TI}{g:TG}{tt:TT}{ti:TC}{N:Bh}{cap:List (Option Nat)}(hc:X.calm=true)(C:Cj X sc N cap)(eg:gens=⟨tg,iter,ifs,0⟩::rest)(ht:∀it D env,compTurn (.ListComp elt gens sc ps) 0 (.ref it) (.ref D) env=lW iter.pos (.ref it) tg ifs env (inner D env) (.compLoop (.ListComp elt gens sc ps) 0 (.ref it) (.ref D) env))(hi:PI X tg iter wi)(hg:∀s H ex,PG (bU X sc N s H ex) tg g)(Er:∀s H ex,PTs (bU X sc N s H ex) ifs tt)(Dq:∀s H ex D,Fo (bU X sc N s H ex) D (inner D (bU X sc N s H ex).env) ti)(hs:∀x,foldedSetIterable iter X.env x=pure x):PE X (.ListComp elt gens sc ps) (zN wi cap g tt ti):=by
 intro pins s σ H Q I h;rw[eval_ListComp];have Fv:closureFor sc X.env=pure (cW X.env sc.names []):=zI λx hx=>I.ok.has x (C.free x hx);have e1:firstAsync gens=false:=by rw[eg];rfl
 have e2:firstIter gens X.env=eval iter X.env:=by rw[eg];rfl
 rw[e1,e2];refine ux (use:=none) (g:=⟨tg,iter,ifs,0⟩) (gs:=rest) (by rw[eg];rfl) hs Fv C.kind C.nd (aY (hi pins s σ H _ I h) λv s1 h1=>aY h1 λitv s2 h2=>?_);obtain⟨it,fp,tn,J,H2,e,I2,T,st2,f2,lp⟩:=h2;subst e;refine ET (N:=N) (inner:=inner) (R:=λacc C=>compPost (model X.prog X.w) X.A X.xe none (EP X pins σ Q) acc C) hc C eg ht hg Er (λs ex D _ _=>Dq s _ ex D) I2 T st2 f2 lp ?_;intro σ' H' xs s3 s' C D hD0 hC hn a f fC hDC Dc k;obtain⟨m,hn⟩:=hn;refine⟨m,hn,λh' hh=>?_⟩;have I5:=Dc h' hh;obtain⟨hz,its,n,r,eD⟩:=a;have eD':h'.get? D=some {cls:=.type "list",data:=.seq its.toArray n}:=(hh.2 D (bc hDC)).trans eD;refine⟨.ref D,upd H' D (.lst xs),I5.adopt f hD0 ⟨hz,its,n,r,eD'⟩,rfl,k D f.1⟩
theorem YC{elt:bq}{gens:List jo}{sc:fi}{ps:Pos}{tg iter:bq}{ifs:List bq}{rest:List jo}{inner:ah->Env->Sem Unit}{wi:TI}{g:TG}{tt:TT}{ti:St->TC}{N:Bh}{cap:List (Option Nat)}(hc:X.calm=true)(C:Cj X sc N cap)(eg:gens=⟨tg,iter,ifs,0⟩::rest)(ht:∀it D env,compTurn (.ListComp elt gens sc ps) 0 (.ref it) (.ref D) env=lW iter.pos (.ref it) tg ifs env (inner D env) (.compLoop (.ListComp elt gens sc ps) 0 (.ref it) (.ref D) env))(hi:PI X tg iter wi)(hg:∀s H ex,PG (bU X sc N s H ex) tg g)(Er:∀s H ex,PTs (bU X sc N s H ex) ifs tt)(Dq:∀pins s σ H ex D,Inv X pins σ H s->(∀b∈ex,dC X pins H b/\b<s.heap.objs.size)->Fo (bU X sc N s H ex) D (inner D (bU X sc N s H ex).env) (ti σ))(hs:∀x,foldedSetIterable iter X.env x=pure x):PE X (.ListComp elt gens sc ps) (λσ H Q=>zN wi cap g tt (ti σ) σ H Q):=by
 intro pins s σ H Q I h;rw[eval_ListComp];have Fv:closureFor sc X.env=pure (cW X.env sc.names []):=zI λx hx=>I.ok.has x (C.free x hx);have e1:firstAsync gens=false:=by rw[eg];rfl
 have e2:firstIter gens X.env=eval iter X.env:=by rw[eg];rfl
 rw[e1,e2];refine ux (use:=none) (g:=⟨tg,iter,ifs,0⟩) (gs:=rest) (by rw[eg];rfl) hs Fv C.kind C.nd (aY (hi pins s σ H _ I h) λv s1 h1=>aY h1 λitv s2 h2=>?_);obtain⟨it,fp,tn,J,H2,e,I2,T,st2,f2,lp⟩:=h2;subst e;refine ET (N:=N) (inner:=inner) (R:=λacc C=>compPost (model X.prog X.w) X.A X.xe none (EP X pins σ Q) acc C) hc C eg ht hg Er (λs ex D I hx=>Dq _ s _ _ ex D I hx) I2 T st2 f2 lp ?_;intro σ' H' xs s3 s' C D hD0 hC hn a f fC hDC Dc k;obtain⟨m,hn⟩:=hn;refine⟨m,hn,λh' hh=>?_⟩;have I5:=Dc h' hh;obtain⟨hz,its,n,r,eD⟩:=a;have eD':h'.get? D=some {cls:=.type "list",data:=.seq its.toArray n}:=(hh.2 D (bc hDC)).trans eD;refine⟨.ref D,upd H' D (.lst xs),I5.adopt f hD0 ⟨hz,its,n,r,eD'⟩,rfl,k D f.1⟩
end
section
variable{X:Cx}
theorem LX{i:Nat}{x:Str}{px pos:Pos}{elt:bq}{gens:List jo}{sc:fi}{ps:Pos}{tg iter:bq}{ifs:List bq}{rest:List jo}{inner:ah->Env->Sem Unit}{wi:TI}{g:TG}{tt:TT}{ti:TC}{N:Bh}{cap:List (Option Nat)}(hsw:swapsWith (.ListComp elt gens sc ps) (some (.Name x px)) pos.line X.env=pure true)(hN:X.N.Nodup)(hi':X.N[i]?=some x)(hx:X.env.scope.names.lookup x=some .local)(hc:X.calm=true)(C:Cj X sc N cap)(eg:gens=⟨tg,iter,ifs,0⟩::rest)(ht:∀it D env,compTurn (.ListComp elt gens sc ps) 0 (.ref it) (.ref D) env=lW iter.pos (.ref it) tg ifs env (inner D env) (.compLoop (.ListComp elt gens sc ps) 0 (.ref it) (.ref D) env))(hi:PI X tg iter wi)(hg:∀s H ex,PG (bU X sc N s H ex) tg g)(Er:∀s H ex,PTs (bU X sc N s H ex) ifs tt)(Dq:∀s H ex D,Fo (bU X sc N s H ex) D (inner D (bU X sc N s H ex).env) ti)(hs:∀x,foldedSetIterable iter X.env x=pure x):PS X (.Assign [.Name x px] (.ListComp elt gens sc ps) pos) (zB (zN wi cap g tt ti) (DT i)):=by
 intro pins s σ H D I h;rw[exec_Assign_Name_used _ _ _ _ hsw];have Fv:closureFor sc X.env=pure (cW X.env sc.names []):=zI λx hx=>I.ok.has x (C.free x hx);have e1:firstAsync gens=false:=by rw[eg];rfl
 have e2:firstIter gens X.env=eval iter X.env:=by rw[eg];rfl
 refine aa (qv (aa ?_));show wpAny _ X.A (do let _ <-comprehension (.ListComp elt gens sc ps) sc X.env (firstIterPos gens ps) (newList []) (firstAsync gens) (firstIter gens X.env) (some (assign (.Name x px) X.env))) _ _ s;rw[e1,e2];refine aa (aY (ux (use:=some (assign (.Name x px) X.env)) (Q:=λ_ s'=>SP X pins D .next s') (g:=⟨tg,iter,ifs,0⟩) (gs:=rest) (by rw[eg];rfl) hs Fv C.kind C.nd (aY (hi pins s σ H _ I h) λv s1 h1=>aY h1 λitv s2 h2=>?_)) λ_ s' hq=>ak (ak hq));obtain⟨it,fp,tn,J,H2,e,I2,T,st2,f2,lp⟩:=h2;subst e;refine ET (N:=N) (inner:=inner) (R:=λacc C=>compPost (model X.prog X.w) X.A X.xe (some (assign (.Name x px) X.env)) (λ_ s'=>SP X pins D .next s') acc C) hc C eg ht hg Er (λs ex D _ _=>Dq s _ ex D) I2 T st2 f2 lp ?_;intro σ' H' xs s3 s' C D' hD0 hC hn a f fC hDC Dc k;obtain⟨m,hn⟩:=hn;have I5:Inv X pins σ H' s':=Dc s'.heap (vg ..);obtain⟨hz,its,n,r,eD⟩:=a;have I6:Inv X pins σ (upd H' D' (.lst xs)) s':=I5.adopt f hD0 ⟨hz,its,n,r,eD⟩;show wpAny _ X.A (assign (.Name x px) X.env (.ref D')) _ _ s';obtain⟨c0,c1,c2,c3,c4,c5⟩:=fC;have nC:upd H' D' (.lst xs) C=none:=by rw[bT (dh (bc hDC))];exact c0
 refine wpAny_assign_Name (JT (v:=Hk D') I6 hN hi' (.inl hx) rfl (λs'' I7⟨a,sb,ha⟩=>?_) (.inr hx));have hCa:C≠a:=by
  rcases ha with z|z
  ·rw[z];exact c1
  ·exact dh (c4 x a z)
 refine⟨m,hn.sameBut sb hCa,λh' hh=>?_⟩;have I8:Inv X pins (σ.set i (some (.ref D'))) (upd H' D' (.lst xs)) {s'' with heap:=h'}:=I7.turned (t':=s''.toks) (λb o hb e=>(hh.2 b hb).trans e) nC c1 c3 c4 c5;exact⟨_,_,I8,k D' f.1⟩
end
inductive Dt where
 |non|bl (b:Bool)|int (i:Int)|str (x:Str)|tup (xs:List Dt)|lst (xs:List Dt)|dct
mutual
def Den(P:ah->Prop)(H:Hp):Dt->V->Prop
 |.non,v=>v=.non
 |.bl b,v=>v=.bl b
 |.int i,v=>v=.int i
 |.str x,v=>v=.str x
 |.tup ds,v=>∃a vs,v=.ref a/\H a=some (.tup vs)/\By P H ds vs
 |.lst ds,v=>∃a vs,v=.ref a/\P a/\H a=some (.lst vs)/\By P H ds vs
 |.dct,v=>∃a,v=.ref a/\P a/\H a=some (.dK [])
def By(P:ah->Prop)(H:Hp):List Dt->Ho->Prop
 |[],vs=>vs=[]
 |d::ds,vs=>∃v r,vs=v::r/\Den P H d v/\By P H ds r
end
theorem By.length:∀{ds:List Dt}{vs:Ho},By P H ds vs->vs.length=ds.length
 |[],vs,h=>by rw[By]at h;rw[h];rfl
 |d::ds,vs,h=>by rw[By]at h;obtain⟨v,r,rfl,_,h2⟩:=h;simp[By.length h2]
theorem By.get:∀{ds:List Dt}{vs:Ho}{i:Nat}{v:V},By P H ds vs->vs[i]?=some v->∃d,ds[i]?=some d/\Den P H d v
 |[],vs,i,v,h,e=>by rw[By]at h;rw[h]at e;simp at e
 |d::ds,vs,i,v,h,e=>by
  rw[By]at h;obtain⟨w,r,rfl,h1,h2⟩:=h
  cases i with
  |zero=>simp at e;subst e;exact⟨d,rfl,h1⟩
  |succ i=>simp at e;exact By.get (i:=i) h2 e
def By.nil:By P H [] []:=by rw[By]
def By.cons{v:V}(h:Den P H d v)(t:By P H ds vs):By P H (d::ds) (v::vs):=by rw[By];exact⟨v,vs,rfl,h,t⟩
mutual
def bG:Dt->Dt->Bool
 |.non,.non=>true
 |.bl a,.bl b=>a==b
 |.bl a,.int j=>(if a then 1 else 0)==j
 |.int i,.bl b=>i==(if b then 1 else 0)
 |.int i,.int j=>i==j
 |.str x,.str y=>x==y
 |.tup xs,.tup ys=>eG xs ys
 |.lst xs,.lst ys=>eG xs ys
 |_,_=>false
def eG:List Dt->List Dt->Bool
 |[],[]=>true
 |x::xs,y::ys=>bG x y&&eG xs ys
 |_,_=>false
end
mutual
def eY:Dt->Nat
 |.tup xs=>oO xs+1
 |.lst xs=>oO xs+1
 |_=>0
def oO:List Dt->Nat
 |[]=>0
 |x::xs=>max (eY x) (oO xs)
end
mutual
def nod:Dt->Bool
 |.tup xs=>lX xs
 |.lst xs=>lX xs
 |.dct=>false
 |_=>true
def lX:List Dt->Bool
 |[]=>true
 |x::xs=>nod x&&lX xs
end
mutual
theorem EU:∀d:Dt,nod d=true->bG d d=true
 |.non,_=>rfl
 |.bl b,_=>by simp[bG]
 |.int i,_=>by simp[bG]
 |.str x,_=>by simp[bG]
 |.tup xs,h=>by rw[bG];exact EV xs (by rw[nod]at h;exact h)
 |.lst xs,h=>by rw[bG];exact EV xs (by rw[nod]at h;exact h)
 |.dct,h=>by simp[nod]at h
theorem EV:∀l:List Dt,lX l=true->eG l l=true
 |[],_=>rfl
 |x::xs,h=>by rw[lX,cq]at h;rw[eG,EU x h.1,EV xs h.2];rfl
end
theorem LY:∀{l:List Dt}{d:Dt},d∈l->eY d<=oO l
 |x::xs,d,h=>by
  rw[oO]
  rcases az.mp h with rfl|h
  ·lia
  ·have:=LY h;lia
theorem EW:∀{l:List Dt}{d:Dt},lX l=true->d∈l->nod d=true
 |x::xs,d,h,hd=>by
  rw[lX,cq]at h
  rcases az.mp hd with rfl|hd
  ·exact h.1
  ·exact EW h.2 hd
theorem wH:∀{xs ys:List Dt},xs.length=ys.length->eG xs ys=(ba xs.length).all λi=>bG (xs.getD i .non) (ys.getD i .non)
 |[],[],_=>rfl
 |x::xs,y::ys,h=>by rw[eG,wH (xs:=xs) (ys:=ys) (by simpa using h),di,zw,List.all_cons,List.all_map];rfl
theorem wI:∀{xs ys:List Dt},xs.length≠ys.length->eG xs ys=false
 |[],[],h=>absurd rfl h
 |[],_::_,_=>rfl
 |_::_,[],_=>rfl
 |x::xs,y::ys,h=>by rw[eG,wI (xs:=xs) (ys:=ys) (by simpa using h),rj]
mutual
theorem Den.inj:∀(d d':Dt)(v:V),Den P H d v->Den P H d' v->d=d'
 |.non,d',v,h,h'=>by
  rw[Den]at h;subst h
  cases d'<;>rw[Den]at h'<;>first|rfl|(let⟨_,_,e,_⟩:=h';cases e;done)|(let⟨_,e,_⟩:=h';cases e;done)|(cases h';done)
 |.bl b,d',v,h,h'=>by
  rw[Den]at h;subst h
  cases d'<;>rw[Den]at h'<;>first|(let⟨_,_,e,_⟩:=h';cases e;done)|(let⟨_,e,_⟩:=h';cases e;done)|(cases h';done)|(cases h';rfl)
 |.int b,d',v,h,h'=>by
  rw[Den]at h;subst h
  cases d'<;>rw[Den]at h'<;>first|(let⟨_,_,e,_⟩:=h';cases e;done)|(let⟨_,e,_⟩:=h';cases e;done)|(cases h';done)|(cases h';rfl)
 |.str b,d',v,h,h'=>by
  rw[Den]at h;subst h
  cases d'<;>rw[Den]at h'<;>first|(let⟨_,_,e,_⟩:=h';cases e;done)|(let⟨_,e,_⟩:=h';cases e;done)|(cases h';done)|(cases h';rfl)
 |.tup ds,d',v,h,h'=>by
  rw[Den]at h;obtain⟨a,vs,rfl,h1,h2⟩:=h
  cases d'<;>rw[Den]at h'<;>first|(cases h';done)|(let⟨_,_,e,_,q,_⟩:=h';cases e;rw[h1]at q;cases q;done)|(let⟨_,e,_,q⟩:=h';cases e;rw[h1]at q;cases q;done)|(let⟨_,_,e,q,g⟩:=h';cases e;rw[h1]at q;cases q;rw[By.inj ds _ vs h2 g])
 |.lst ds,d',v,h,h'=>by
  rw[Den]at h;obtain⟨a,vs,rfl,_,h1,h2⟩:=h
  cases d'<;>rw[Den]at h'<;>first|(cases h';done)|(let⟨_,_,e,q,_⟩:=h';cases e;rw[h1]at q;cases q;done)|(let⟨_,e,_,q⟩:=h';cases e;rw[h1]at q;cases q;done)|(let⟨_,_,e,_,q,g⟩:=h';cases e;rw[h1]at q;cases q;rw[By.inj ds _ vs h2 g])
 |.dct,d',v,h,h'=>by
  rw[Den]at h;obtain⟨a,rfl,_,h1⟩:=h
  cases d'<;>rw[Den]at h'<;>first|rfl|(cases h';done)|(let⟨_,_,e,q,_⟩:=h';cases e;rw[h1]at q;cases q;done)|(let⟨_,_,e,_,q,_⟩:=h';cases e;rw[h1]at q;cases q;done)
theorem By.inj:∀(ds Dk:List Dt)(vs:Ho),By P H ds vs->By P H Dk vs->ds=Dk
 |[],Dk,vs,h,h'=>by
  rw[By]at h;subst h
  cases Dk with
  |nil=>rfl
  |cons d Dk=>rw[By]at h';let⟨_,_,e,_⟩:=h';cases e
 |d::ds,Dk,vs,h,h'=>by
  rw[By]at h;obtain⟨v,r,rfl,h1,h2⟩:=h
  cases Dk with
  |nil=>rw[By]at h';cases h'
  |cons d' Dk=>rw[By]at h';let⟨v',r',e,h1',h2'⟩:=h';cases e;rw[Den.inj d d' v h1 h1',By.inj ds Dk r h2 h2']
end
section
variable{Pg:bp}{w:cm}{P:ah->Prop}{H:Hp}{s:ag}
theorem YD(hok:Cz Pg w H s.heap){a:ah}{vs:Ho}(e:H a=some (.tup vs)):∃its:List af,Bs vs its/\s.heap.IsTuple a its.toArray:=by
 obtain⟨_,its,r,p⟩:=(show Bv Pg w H s.heap a (.tup vs) from hok a _ e)
 exact⟨its,r,p.tup⟩
theorem YE(hok:Cz Pg w H s.heap){a:ah}{vs:Ho}(e:H a=some (.lst vs)):∃its:List af,Bs vs its/\s.heap.IsList a its.toArray:=by
 obtain⟨_,its,n,r,p⟩:=(show Bv Pg w H s.heap a (.lst vs) from hok a _ e)
 exact⟨its,r,_,p,rfl,n,rfl⟩
def LZ(r:Bs vs its)(h:j<its.toArray.size):∃v,vs[j]?=some v/\RelV v its.toArray[j]:=by
 have hl:=r.length;have h':j<its.length:=by simpa using h
 have hv:j<vs.length:=by lia
 let⟨u,e,q⟩:=r.get (i:=j) (x:=vs[j]) (bj hv);refine⟨vs[j],bj hv,?_⟩;have:its.toArray[j]=u:=by have:its[j]?=some its[j]:=bj h';rw[this]at e;simpa using e
 rw[this];exact q
inductive Vw(P:ah->Prop)(H:Hp)(s:ag):Dt->af->Prop
 |non:Vw P H s .non .none
 |bl {b:Bool}:Vw P H s (.bl b) (.bool b)
 |int {i:Int}{t:Tok}:Vw P H s (.int i) (.int i t)
 |str {x:Str}{t:Tok}:Vw P H s (.str x) (.str x t)
 |tup {ds:List Dt}{a:ah}{vs:Ho}{its:List af}(e:H a=some (.tup vs)) (g:By P H ds vs) (q:Bs vs its) (tp:s.heap.IsTuple a its.toArray):Vw P H s (.tup ds) (.ref a)
 |lst {ds:List Dt}{a:ah}{vs:Ho}{its:List af}(e:H a=some (.lst vs)) (g:By P H ds vs) (q:Bs vs its) (tp:s.heap.IsList a its.toArray):Vw P H s (.lst ds) (.ref a)
def vw(hok:Cz Pg w H s.heap){v:V}(n:nod d=true)(h:Den P H d v)(r:RelV v u):Vw P H s d u:=by
 cases d<;>rw[Den]at h
 case tup=>obtain⟨a,vs,rfl,e,g⟩:=h;cases r;let⟨its,q,tp⟩:=YD hok e;exact .tup e g q tp
 case lst=>obtain⟨a,vs,rfl,_,e,g⟩:=h;cases r;let⟨its,q,tp⟩:=YE hok e;exact .lst e g q tp
 case dct=>simp[nod]at n
 all_goals subst h
 case int=>obtain⟨t,rfl⟩:=r;exact .int
 case str=>obtain⟨t,rfl⟩:=r;exact .str
 all_goals cases r;constructor
def zO(hok:Cz Pg w H s.heap)(ih:∀(d d':Dt)(u u':af),eY d<=n->nod d=true->nod d'=true->Vw P H s d u->Vw P H s d' u'->lj A s u u' (bG d d'))(hd:oO ds<=n)(m1:lX ds=true)(m2:lX Dk=true)(g:By P H ds vs)(g':By P H Dk Cm)(q:Bs vs its)(q':Bs Cm its')(j:Nat)(h1:j<its.toArray.size)(h2:j<its'.toArray.size):lj A s its.toArray[j] its'.toArray[j] (bG (ds.getD j .non) (Dk.getD j .non)):=by
 let⟨x,ex,rx⟩:=LZ q h1;let⟨x',ex',rx'⟩:=LZ q' h2;let⟨dx,edx,gx⟩:=g.get ex;let⟨dx',edx',gx'⟩:=g'.get ex';have e1:ds.getD j .non=dx:=by simp[qz,edx]
 have e2:Dk.getD j .non=dx':=by simp[qz,edx']
 rw[e1,e2];have hm:=cx edx;have k1:=EW m1 hm;have k2:=EW m2 (cx edx');exact ih dx dx' _ _ (cp (LY hm) hd) k1 k2 (vw hok k1 gx rx) (vw hok k2 gx' rx')
def L0(hok:Cz Pg w H s.heap)(n:Nat)(ih:∀m,m+1=n->∀(A:cb)(d d':Dt)(u u':af),eY d<=m->A.units+m+1<cLine->nod d=true->nod d'=true->Vw P H s d u->Vw P H s d' u'->uf A s u u' (bG d d')/\lj A s u u' (bG d d'))(A:cb)(d d':Dt)(u u':af)(hn:eY d<=n)(hu:A.units+n+1<cLine)(n1:nod d=true)(n2:nod d'=true)(h:Vw P H s d u)(h':Vw P H s d' u'):uf A s u u' (bG d d')/\lj A s u u' (bG d d'):=by
 have Ce:A.units<cLine:=by lia
 have ok:∀{a1 a2:ah}{b:Bool},(uf A s (.ref a1) (.ref a2) b)->(a1=a2->b=true)->uf A s (.ref a1) (.ref a2) b/\lj A s (.ref a1) (.ref a2) b:=λ{a1 a2 b}key z=>⟨key,by
  by_cases Ek:a1=a2
  ·rw[z Ek,Ek];exact .same _
  ·exact .of_refs Ek key⟩
 have Dq:1<=n->∀(d d':Dt)(u u':af),eY d<=n-1->nod d=true->nod d'=true->Vw P H s d u->Vw P H s d' u'->lj A.in1 s u u' (bG d d'):=λhd d d' u u' a b c e f=>(ih (n-1) (by lia) A.in1 d d' u u' a (by show A.units+1+(n-1)+1<cLine;lia) b c e f).2
 cases h<;>cases h'
 case tup.tup ds a1 vs1 its1 e1 g1 q1 tp1 Dk a2 Fq Dd e2 g2 q2 tp2=>
  rw[nod]at n1 n2;rw[eY]at hn;have hl1:=g1.length;have hl2:=g2.length;have hq1:=q1.length;have hq2:=q2.length;refine ok ?_ λEk=>?_
  ·rw[bG];have z:=SeqAt.RcAt.tuples (e:=λj=>bG (ds.getD j .non) (Dk.getD j .non)) tp1 tp2 Ce (zO hok (Dq (by lia)) (by lia) n1 n2 g1 g2 q1 q2);have s1:its1.toArray.size=ds.length:=by simp;lia
   have s2:Dd.toArray.size=Dk.length:=by simp;lia
   rw[s1,s2]at z
   by_cases hlen:ds.length=Dk.length
   ·rw[wH hlen];rw[<-hlen,Al]at z;simpa using z
   ·rw[wI hlen];rw[show(ds.length==Dk.length)=false from beq_eq_false_iff_ne.mpr hlen,rj]at z;exact z
  ·subst Ek;rw[e1]at e2;cases e2;rw[By.inj ds Dk _ g1 g2,EU _ (by rw[nod];exact n2)]
 case lst.lst ds a1 vs1 its1 e1 g1 q1 tp1 Dk a2 Fq Dd e2 g2 q2 tp2=>
  rw[nod]at n1 n2;rw[eY]at hn;have hl1:=g1.length;have hl2:=g2.length;have hq1:=q1.length;have hq2:=q2.length;refine ok ?_ λEk=>?_
  ·rw[bG]
   by_cases hlen:ds.length=Dk.length
   ·have z:=SeqAt.RcAt.lists (e:=λj=>bG (ds.getD j .non) (Dk.getD j .non)) tp1 tp2 (by simp;lia) Ce (zO hok (Dq (by lia)) (by lia) n1 n2 g1 g2 q1 q2);rw[wH hlen];simpa[hq1.symm,hl1]using z
   ·rw[wI hlen];exact SeqAt.RcAt.lists_lengths tp1 tp2 (by simp;lia) Ce
  ·subst Ek;rw[e1]at e2;cases e2;rw[By.inj ds Dk _ g1 g2,EU _ (by rw[nod];exact n2)]
 case non.non=>exact⟨.none_none,.same _⟩
 case non.bl=>exact⟨.none_bool _,.none_bool _⟩
 case non.int=>exact⟨.none_int _ _,.none_int _ _⟩
 case non.str=>exact⟨.none_str _ _,.none_str _ _⟩
 case non.tup=>exact⟨.none_tuple ‹_› Ce,.none_tuple ‹_› Ce⟩
 case non.lst=>exact⟨.none_list ‹_› Ce,.none_list ‹_› Ce⟩
 case bl.non=>exact⟨.bool_none _,.bool_none _⟩
 case bl.bl=>exact⟨.bool_bool _ _,.bool_bool _ _⟩
 case bl.int=>exact⟨.bool_int _ _ _,.bool_int _ _ _⟩
 case bl.str=>exact⟨.bool_str _ _ _,.bool_str _ _ _⟩
 case bl.tup=>exact⟨.bool_tuple _ ‹_› Ce,.bool_tuple _ ‹_› Ce⟩
 case bl.lst=>exact⟨.bool_list _ ‹_› Ce,.bool_list _ ‹_› Ce⟩
 case int.non=>exact⟨.int_none _ _,.int_none _ _⟩
 case int.bl=>exact⟨.int_bool _ _ _,.int_bool _ _ _⟩
 case int.int=>exact⟨.int_int _ _ _ _,.int_int _ _ _ _⟩
 case int.str=>exact⟨.int_str _ _ _ _,.int_str _ _ _ _⟩
 case int.tup=>exact⟨.int_tuple _ _ ‹_› Ce,.int_tuple _ _ ‹_› Ce⟩
 case int.lst=>exact⟨.int_list _ _ ‹_› Ce,.int_list _ _ ‹_› Ce⟩
 case str.non=>exact⟨.str_none _ _,.str_none _ _⟩
 case str.bl=>exact⟨.str_bool _ _ _,.str_bool _ _ _⟩
 case str.int=>exact⟨.str_int _ _ _ _,.str_int _ _ _ _⟩
 case str.str=>exact⟨.str_str _ _ _ _,.str_str _ _ _ _⟩
 case str.tup=>exact⟨.str_tuple _ _ ‹_› Ce,.str_tuple _ _ ‹_› Ce⟩
 case str.lst=>exact⟨.str_list _ _ ‹_› Ce,.str_list _ _ ‹_› Ce⟩
 case tup.non=>exact⟨.tuple_none ‹_› Ce,.tuple_none ‹_› Ce⟩
 case tup.bl=>exact⟨.tuple_bool _ ‹_› Ce,.tuple_bool _ ‹_› Ce⟩
 case tup.int=>exact⟨.tuple_int _ _ ‹_› Ce,.tuple_int _ _ ‹_› Ce⟩
 case tup.str=>exact⟨.tuple_str _ _ ‹_› Ce,.tuple_str _ _ ‹_› Ce⟩
 case tup.lst=>exact⟨.tuple_list ‹_› ‹_› Ce,.tuple_list ‹_› ‹_› Ce⟩
 case lst.non=>exact⟨.list_none ‹_› Ce,.list_none ‹_› Ce⟩
 case lst.bl=>exact⟨.list_bool _ ‹_› Ce,.list_bool _ ‹_› Ce⟩
 case lst.int=>exact⟨.list_int _ _ ‹_› Ce,.list_int _ _ ‹_› Ce⟩
 case lst.str=>exact⟨.list_str _ _ ‹_› Ce,.list_str _ _ ‹_› Ce⟩
 case lst.tup=>exact⟨.list_tuple ‹_› ‹_› Ce,.list_tuple ‹_› ‹_› Ce⟩
theorem EX(hok:Cz Pg w H s.heap):∀(n:Nat)(A:cb)(d d':Dt)(u u':af),eY d<=n->A.units+n+1<cLine->nod d=true->nod d'=true->Vw P H s d u->Vw P H s d' u'->uf A s u u' (bG d d')/\lj A s u u' (bG d d')
 |0=>L0 hok 0 λ_ e=>by cases e
 |n+1=>L0 hok _ λm e=>by cases e;exact EX hok n
def L6(hok:Cz Pg w H s.heap)(n:Nat)(A:cb)(d d':Dt)(v v':V)(u u':af)(a:eY d<=n)(b:A.units+n+1<cLine)(n1:nod d=true)(n2:nod d'=true)(h:Den P H d v)(h':Den P H d' v')(r:RelV v u)(r':RelV v' u'):
  uf A s u u' (bG d d')/\lj A s u u' (bG d d'):=EX hok n A d d' u u' a b n1 n2 (vw hok n1 h r) (vw hok n2 h' r')
end
end L2
open L2.Dt renaming int->Hj
namespace L2.Mr
inductive Dv where
 |non|bl (b:Bool)|int (i:Int)|str (x:Str)|tup (xs:List Dv)|ref (i:Nat)|edc|exc (c:Nat)|scr
inductive Ob where
 |lst (xs:List Dv)
 |clo (k t:Nat)
 |dct (ks:wt)
abbrev Hs:=List Ob
abbrev Ev:=List (Option Dv)
inductive Rs(α:Type) where
 |ok (a:α) (h:Hs)|ex (c:Nat) (h:Hs)|bad
abbrev Bi:=List Dv->Hs->Rs Dv
abbrev Bj:=List Dv
abbrev Bk:=Option Dv
noncomputable def Rs.bind {α β:Type}(r:Rs α) (f:α->Hs->Rs β):Rs β:=match r with
 |.ok a h=>f a h
 |.ex c h=>.ex c h
 |.bad=>.bad
@[simp] theorem Rs.bind_ok {α β:Type}(a:α) (h:Hs) (f:α->Hs->Rs β):(Rs.ok a h).bind f=f a h:=rfl
@[simp] theorem Rs.bind_ex {α β:Type}(c:Nat) (h:Hs) (f:α->Hs->Rs β):(Rs.ex c h).bind f=.ex c h:=rfl
@[simp] theorem Rs.bind_bad {α β:Type}(f:α->Hs->Rs β):(Rs.bad).bind f=.bad:=rfl
abbrev M(α:Type):=Ev->Hs->Rs α
structure Cf0 where
 K:ar
 cl:Nat->ah
 scr:y'
 sa:ah
 tabs:ah->Option Str:=λ_=>none
 lq:Str:=Str.empty
def dU(C:af)(e T:ah)(a0:af)(h:cu):Prop:=∃oe vs,h.get? e=some oe/\oe.cls=C/\oe.data=.fields vs/\vs[0]?=some a0/\vs[1]?=some (.ref T)/\oe.dict=none
def zP(G:Cf0)(H:Hp)(c:Nat)(u:af):Prop:=∃e φ,u=.ref e/\H e=some (.ext φ)/\∀h,φ h->∃o,h.get? e=some o/\o.cls=.ref (G.cl c)
def zQ:HO->Prop
 |.tup _=>True
 |.dK kvs=>kvs=[]
 |.frz _ _=>True
 |_=>False
def FzL(K:ar)(H:Hp)(a:ah)(xs:Ho):Prop:=(∃o,H a=some (.frz o (.lst xs))) ∨
  ∃(o:Obj)(its:Array af)(n:Nat),K.lookup a=some o/\o.cls=.type "list"/\o.dict=none/\o.data=.seq its n/\its.size<=cg/\Bs xs its.toList
def FzL.sq{K:ar}(h:FzL K H a xs):Cu K H a xs:=by
 rcases h with⟨o,h⟩|h
 ·exact .inl (.inr ⟨o,h⟩)
 ·exact .inr h
def FzL.keep{K:ar}{H H':Hp}{a:ah}(h:FzL K H a xs)(k:∀a o,zQ o->H a=some o->H' a=some o):FzL K H' a xs:=by
 rcases h with⟨o,h⟩|h
 ·exact .inl ⟨o,k a _ trivial h⟩
 ·exact .inr h
mutual
def Bq(G:Cf0)(μ:Nat->ah)(n:Nat)(H:Hp):Dv->V->Prop
 |.non,v=>v=.non
 |.bl b,v=>v=.bl b
 |.int i,v=>v=.int i
 |.str x,v=>v=.str x
 |.tup ds,v=>∃a vs,v=.ref a/\H a=some (.tup vs)/\RelDL G μ n H ds vs
 |.ref i,v=>i<n/\v=.ref (μ i)
 |.edc,v=>∃a,v=.ref a/\H a=some (.dK [])
 |.exc c,v=>∃a o u,v=.ref a/\H a=some (.frz o u)/\o.cls=.ref (G.cl c)/\o.dict=none/\∃vs,o.data=.fields vs
 |.scr,v=>v=.ref G.sa/\FzL G.K H G.sa (G.scr.map Gn)
def RelDL(G:Cf0)(μ:Nat->ah)(n:Nat)(H:Hp):Bj->Ho->Prop
 |[],vs=>vs=[]
 |d::ds,vs=>∃v r,vs=v::r/\Bq G μ n H d v/\RelDL G μ n H ds r
end
structure Ext(μ:Nat->ah)(n:Nat)(H:Hp)(μ':Nat->ah)(n':Nat)(H':Hp):Prop where
 le:n<=n'
 mu:∀i,i<n->μ' i=μ i
 im:∀a o,zQ o->H a=some o->H' a=some o
def Ext.refl:Ext μ n H μ n H:=⟨aq _,λ_ _=>rfl,λ_ _ _ e=>e⟩
def Ext.trans(a:Ext μ n H μ1 n1 H1)(b:Ext μ1 n1 H1 μ2 n2 H2):Ext μ n H μ2 n2 H2:=⟨cp a.le b.le,λi hi=>(b.mu i (aw hi a.le)).trans (a.mu i hi),λc o i e=>b.im c o i (a.im c o i e)⟩
structure Cfg extends Cf0 where
 clo:(Nat->ah)->Nat->Hp->Nat->Nat->ah->Prop:=λ_ _ _ _ _ _=>True
 cloM:∀{μ μ':Nat->ah}{n n':Nat}{H H':Hp}{k t:Nat}{a:ah},Ext μ n H μ' n' H'->clo μ n H k t a->clo μ' n' H' k t a:=by intros;trivial
instance:Coe Cfg Cf0:=⟨Cfg.toCf0⟩
section
variable{G:Cf0}{μ μ':Nat->ah}{n n':Nat}{H H':Hp}
mutual
theorem Bq.mono(x:Ext μ n H μ' n' H'):∀(d:Dv)(v:V),Bq G μ n H d v->Bq G μ' n' H' d v
 |.non,v,h=>h
 |.bl b,v,h=>h
 |.int i,v,h=>h
 |.str s,v,h=>h
 |.tup ds,v,h=>by let⟨a,vs,e,h1,h2⟩:=h;exact⟨a,vs,e,x.im a _ trivial h1,RelDL.mono x ds vs h2⟩
 |.ref i,v,h=>by let⟨h1,h2⟩:=h;exact⟨aw h1 x.le,by rw[x.mu i h1];exact h2⟩
 |.edc,v,h=>by let⟨a,e,h1⟩:=h;exact⟨a,e,x.im a _ rfl h1⟩
 |.exc c,v,h=>by let⟨a,o,u,e,h1,h2⟩:=h;exact⟨a,o,u,e,x.im a _ trivial h1,h2⟩
 |.scr,v,h=>by let⟨h1,h2⟩:=h;exact⟨h1,h2.keep x.im⟩
theorem RelDL.mono(x:Ext μ n H μ' n' H'):∀(ds:Bj)(vs:Ho),RelDL G μ n H ds vs->RelDL G μ' n' H' ds vs
 |[],vs,h=>h
 |d::ds,vs,h=>by let⟨v,r,e,h1,h2⟩:=h;exact⟨v,r,e,Bq.mono x d v h1,RelDL.mono x ds r h2⟩
end
theorem RelDL.length:∀{ds:Bj}{vs:Ho},RelDL G μ n H ds vs->vs.length=ds.length
 |[],_,h=>by rw[RelDL]at h;subst h;rfl
 |d::ds,_,h=>by rw[RelDL]at h;obtain⟨v,r,rfl,_,h2⟩:=h;rw[di,di,RelDL.length h2]
theorem RelDL.get:∀{ds:Bj}{vs:Ho}{i:Nat}{d:Dv},RelDL G μ n H ds vs->ds[i]?=some d->∃v,vs[i]?=some v/\Bq G μ n H d v
 |[],_,_,_,_,e=>by simp at e
 |d::ds,_,0,d',h,e=>by rw[RelDL]at h;obtain⟨v,r,rfl,h1,_⟩:=h;simp at e;subst e;exact⟨v,rfl,h1⟩
 |d::ds,_,i+1,d',h,e=>by rw[RelDL]at h;obtain⟨v,r,rfl,_,h2⟩:=h;obtain⟨u,e1,h3⟩:=RelDL.get (i:=i) h2 (by simpa using e);exact⟨u,by simpa using e1,h3⟩
def RelDL.nil:RelDL G μ n H [] []:=by rw[RelDL]
def RelDL.cons{v:V}(h:Bq G μ n H d v)(t:RelDL G μ n H ds vs):RelDL G μ n H (d::ds) (v::vs):=by rw[RelDL];exact⟨v,vs,rfl,h,t⟩
theorem RelDL.append:∀{ds es:Bj}{vs ws:Ho},RelDL G μ n H ds vs->RelDL G μ n H es ws->RelDL G μ n H (ds++es) (vs++ws)
 |[],_,_,_,h,h'=>by rw[RelDL]at h;subst h;exact h'
 |d::ds,_,_,_,h,h'=>by rw[RelDL]at h;obtain⟨v,r,rfl,h1,h2⟩:=h;exact RelDL.cons h1 (RelDL.append h2 h')
theorem RelDL.take:∀{ds:Bj}{vs:Ho}(k:Nat),RelDL G μ n H ds vs->RelDL G μ n H (ds.take k) (vs.take k)
 |[],_,k,h=>by rw[RelDL]at h;subst h;simp[RelDL.nil]
 |d::ds,_,0,h=>by simp[RelDL.nil]
 |d::ds,_,k+1,h=>by rw[RelDL]at h;obtain⟨v,r,rfl,h1,h2⟩:=h;exact RelDL.cons h1 (RelDL.take k h2)
theorem RelDL.drop:∀{ds:Bj}{vs:Ho}(k:Nat),RelDL G μ n H ds vs->RelDL G μ n H (ds.drop k) (vs.drop k)
 |[],_,k,h=>by rw[RelDL]at h;subst h;simp[RelDL.nil]
 |d::ds,_,0,h=>h
 |d::ds,_,k+1,h=>by rw[RelDL]at h;obtain⟨v,r,rfl,h1,h2⟩:=h;exact RelDL.drop k h2
theorem RelDL.set(hx:Bq G μ n H x u):∀{ds:Bj}{vs:Ho}(i:Nat),RelDL G μ n H ds vs->RelDL G μ n H (ds.set i x) (vs.set i u)
 |[],_,_,h=>by rw[RelDL]at h;subst h;exact RelDL.nil
 |d::ds,_,0,h=>by rw[RelDL]at h;obtain⟨v,r,rfl,h1,h2⟩:=h;exact RelDL.cons hx h2
 |d::ds,_,i+1,h=>by rw[RelDL]at h;obtain⟨v,r,rfl,h1,h2⟩:=h;exact RelDL.cons h1 (RelDL.set hx i h2)
end
def L7(ks:wt):List (List iI×V):=ks.map λk=>(k.map vq,.bl true)
def ObR(G:Cfg)(μ:Nat->ah)(n:Nat)(H:Hp)(a:ah):Ob->Prop
 |.lst xs=>∃vs,H a=some (.lst vs)/\RelDL G μ n H xs vs
 |.clo k t=>t<n/\(∃o u,H a=some (.frz o u))/\G.clo μ n H k t a
 |.dct ks=>H a=some (.dT (L7 ks))
def ObR.clo(r:ObR G μ n H a (.clo k t))(x:Ext μ n H μ' n' H'):ObR G μ' n' H' a (.clo k t):=by let⟨h1,⟨o,u,h2⟩,h3⟩:=r;exact⟨aw h1 x.le,⟨o,u,x.im _ _ trivial h2⟩,G.cloM x h3⟩
def tR(q:Str)(oc:Obj):Prop:=∃vs t,oc.data=.fields vs/\vs[1]?=some (.str q t)
def Ec(G:Cf0)(H:Hp):Prop:=∀P lq,G.tabs P=some lq->∃ps,H P=some (.tbl ps)/\xc ps.toList/\∀pos cv,codeAmong pos ps.toList=some cv->∃q oc,cv=.ref q/\H q=some (.frz oc (.own 0))/\tR lq oc
def Ec.keep{H H':Hp}(t:Ec G H)(k:∀a o,(∀xs,o≠.lst xs)->(∀φ,o≠.ext φ)->H a=some o->H' a=some o):Ec G H':=λP lq e=>by let⟨ps,h1,h2,h3⟩:=t P lq e;refine⟨ps,k P _ (λ_ z=>by cases z) (λ_ z=>by cases z) h1,h2,λpos cv q=>?_⟩;let⟨a,oc,e1,e2,e3⟩:=h3 pos cv q;exact⟨a,oc,e1,k a _ (λ_ z=>by cases z) (λ_ z=>by cases z) e2,e3⟩
structure Bz(G:Cfg)(μ:Nat->ah)(h:Hs)(H:Hp):Prop where
 inj:∀i j,i<h.length->j<h.length->μ i=μ j->i=j
 ob:∀(i:Nat)(o:Ob),h[i]?=some o->ObR G μ h.length H (μ i) o
 tab:Ec G H
structure Bw(G:Cfg)(μ:Nat->ah)(n:Nat)(H:Hp)(ρ:Ev)(σ:St):Prop where
 len:ρ.length=σ.length
 at_:∀(i:Nat)(d:Dv),ρ[i]?=some (some d)->∃v,σ[i]?=some (some v)/\Bq G μ n H d v
def Bw.mono(r:Bw G μ n H ρ σ)(x:Ext μ n H μ' n' H'):Bw G μ' n' H' ρ σ:=⟨r.len,λi d e=>let ⟨v,e1,h⟩:=r.at_ i d e;⟨v,e1,Bq.mono x d v h⟩⟩
def Out{α β:Type}(G:Cfg)(E:XK)(μ:Nat->ah)(n:Nat)(H:Hp)(r:Rs α)(R:(Nat->ah)->Nat->Hp->α->β->Prop)(Q:β->Hp->Prop):Prop:=
 match r with
 |.ok d h'=>∀μ' H' v,Ext μ n H μ' h'.length H'->Bz G μ' h' H'->R μ' h'.length H' d v->Q v H'
 |.ex c h'=>∀μ' H' u,Ext μ n H μ' h'.length H'->Bz G μ' h' H'->zP G H' c u->E u none H'
 |.bad=>False
theorem Out.bind{α β γ δ:Type}{G:Cfg}{E:XK}{μ:Nat->ah}{n:Nat}{H:Hp}{r:Rs α}{f:α->Hs->Rs γ}{R:(Nat->ah)->Nat->Hp->γ->δ->Prop}{Q:δ->Hp->Prop}{R1:(Nat->ah)->Nat->Hp->α->β->Prop}(o:Out G E μ n H (r.bind f) R Q):Out G E μ n H r R1 λv H1=>∃μ1 d h1,Ext μ n H μ1 h1.length H1/\Bz G μ1 h1 H1/\R1 μ1 h1.length H1 d v/\Out G E μ1 h1.length H1 (f d h1) R Q:=by
 cases r with
 |bad=>exact o
 |ex c h'=>exact o
 |ok d h'=>
  intro μ1 H1 v x1 s1 r1;refine⟨μ1,d,h',x1,s1,r1,?_⟩;have o':Out G E μ n H (f d h') R Q:=o
  cases e:f d h' with
  |bad=>rw[e]at o';exact o'
  |ex c h2=>rw[e]at o';exact λμ2 H2 u x2 s2 r2=>o' μ2 H2 u (x1.trans x2) s2 r2
  |ok d2 h2=>rw[e]at o';exact λμ2 H2 u x2 s2 r2=>o' μ2 H2 u (x1.trans x2) s2 r2
theorem Out.mono{α β:Type}{G:Cfg}{E:XK}{μ:Nat->ah}{n:Nat}{H:Hp}{r:Rs α}{R:(Nat->ah)->Nat->Hp->α->β->Prop}{Q Q':β->Hp->Prop}(o:Out G E μ n H r R Q)(h:∀v H',Q v H'->Q' v H'):Out G E μ n H r R Q':=by
 cases r with
 |bad=>exact o
 |ex c h'=>exact o
 |ok d h'=>exact λμ' H' v x s r=>h _ _ (o μ' H' v x s r)
abbrev RB:(Nat->ah)->Nat->Hp->Bool->Bool->Prop:=λ_ _ _ b b'=>b'=b
def jC(G:Cfg)(E:XK)(m:M Dv):TE:=λσ H Q=>∃μ ρ h,Bw G μ h.length H ρ σ/\Bz G μ h H/\Out G E μ h.length H (m ρ h) (Bq G) Q
def jJ(G:Cfg)(E:XK)(m:M Bool):TT:=λσ H Q=>∃μ ρ h,Bw G μ h.length H ρ σ/\Bz G μ h H/\Out G E μ h.length H (m ρ h) RB Q
def EY(G:Cfg)(E:XK)(m:M Bj ):TA:=λσ H Q=>∃μ ρ h,Bw G μ h.length H ρ σ/\Bz G μ h H/\Out G E μ h.length H (m ρ h) (RelDL G) Q
def aJ(X:Cx)(G:Cfg)(E:XK)(pe:bq)(m:M Dv):Prop:=X.K=G.K->PE X pe (jC G E m)
def hZ(X:Cx)(G:Cfg)(E:XK)(pe:bq)(m:M Bool):Prop:=X.K=G.K->PT X pe (jJ G E m)
def eC(X:Cx)(G:Cfg)(E:XK)(pe:List bq)(m:M Bj ):Prop:=X.K=G.K->PA X pe (EY G E m)
def PE.imp{t t':TE}(h:PE X e t)(i:∀σ H Q,t' σ H Q->t σ H Q):PE X e t':=λpins s σ H Q I q=>h pins s σ H Q I (i σ H Q q)
def PT.imp{t t':TT}(h:PT X e t)(i:∀σ H Q,t' σ H Q->t σ H Q):PT X e t':=λpins s σ H Q I q=>h pins s σ H Q I (i σ H Q q)
def PA.imp{t t':TA}(h:PA X e t)(i:∀σ H Q,t' σ H Q->t σ H Q):PA X e t':=λpos pins s σ H Q I q=>h pos pins s σ H Q I (i σ H Q q)
section
variable{G:Cfg}{E:XK}{σ:St}{H:Hp}
theorem eZ{m:M Dv}{γ δ:Type}{f:Dv->Hs->Rs γ}{R:(Nat->ah)->Nat->Hp->γ->δ->Prop}{Q:δ->Hp->Prop}{Q1:V->Hp->Prop}{μ:Nat->ah}{ρ:Ev}{h:Hs}(rs:Bw G μ h.length H ρ σ)(s:Bz G μ h H)(o:Out G E μ h.length H ((m ρ h).bind f) R Q)(k:∀μ1 d h1 v H1,Ext μ h.length H μ1 h1.length H1->Bw G μ1 h1.length H1 ρ σ->Bz G μ1 h1 H1->Bq G μ1 h1.length H1 d v->Out G E μ1 h1.length H1 (f d h1) R Q->Q1 v H1):jC G E m σ H Q1:=
 ⟨μ,ρ,h,rs,s,(o.bind (R1:=Bq G)).mono λv H1⟨μ1,d,h1,x,s1,r1,o1⟩=>k μ1 d h1 v H1 x (rs.mono x) s1 r1 o1⟩
theorem EZ{m:M Bool}{γ δ:Type}{f:Bool->Hs->Rs γ}{R:(Nat->ah)->Nat->Hp->γ->δ->Prop}{Q:δ->Hp->Prop}{Q1:Bool->Hp->Prop}{μ:Nat->ah}{ρ:Ev}{h:Hs}(rs:Bw G μ h.length H ρ σ)(s:Bz G μ h H)(o:Out G E μ h.length H ((m ρ h).bind f) R Q)(k:∀μ1 b h1 H1,Ext μ h.length H μ1 h1.length H1->Bw G μ1 h1.length H1 ρ σ->Bz G μ1 h1 H1->Out G E μ1 h1.length H1 (f b h1) R Q->Q1 b H1):jJ G E m σ H Q1:=
 ⟨μ,ρ,h,rs,s,(o.bind (R1:=RB)).mono λv H1⟨μ1,d,h1,x,s1,r1,o1⟩=>by have e:v=d:=r1;subst e;exact k μ1 v h1 H1 x (rs.mono x) s1 o1⟩
theorem lY{m:M Bj}{γ δ:Type}{f:Bj->Hs->Rs γ}{R:(Nat->ah)->Nat->Hp->γ->δ->Prop}{Q:δ->Hp->Prop}{Q1:Ho->Hp->Prop}{μ:Nat->ah}{ρ:Ev}{h:Hs}(rs:Bw G μ h.length H ρ σ)(s:Bz G μ h H)(o:Out G E μ h.length H ((m ρ h).bind f) R Q)(k:∀μ1 d h1 v H1,Ext μ h.length H μ1 h1.length H1->Bw G μ1 h1.length H1 ρ σ->Bz G μ1 h1 H1->RelDL G μ1 h1.length H1 d v->Out G E μ1 h1.length H1 (f d h1) R Q->Q1 v H1):EY G E m σ H Q1:=
 ⟨μ,ρ,h,rs,s,(o.bind (R1:=RelDL G)).mono λv H1⟨μ1,d,h1,x,s1,r1,o1⟩=>k μ1 d h1 v H1 x (rs.mono x) s1 r1 o1⟩
theorem Out.val{α β:Type}{μ:Nat->ah}{h:Hs}{d:α}{R:(Nat->ah)->Nat->Hp->α->β->Prop}{Q:β->Hp->Prop}{v:β}(s:Bz G μ h H)(o:Out G E μ h.length H (.ok d h) R Q)(r:R μ h.length H d v):Q v H:=o μ H v Ext.refl s r
end
section
variable{G:Cfg}{μ:Nat->ah}{h:Hs}{H H':Hp}{p:ah}{n:Nat}
def Ext.same(e:Di H H'):Ext μ n H μ n H':=⟨aq _,λ_ _=>rfl,λa o _ q=>e a o q⟩
def Bz.same(s:Bz G μ h H)(e:Di H H'):Bz G μ h H':=⟨s.inj,λi o q=>by
 have r:=s.ob i o q
 cases o with
 |lst xs=>let⟨vs,e1,r1⟩:=r;exact⟨vs,e _ _ e1,RelDL.mono (Ext.same e) _ _ r1⟩
 |clo k t=>exact r.clo (Ext.same e)
 |dct ks=>exact e _ _ r,s.tab.keep λa o _ _ q=>e a o q⟩
def cN(h:H p=none):Di H (upd H p o):=λb u e=>by rw[bT (gF e h)];exact e
def Bz.not(s:Bz G μ h H)(hp:H p=none):∀(i:Nat),i<h.length->μ i≠p:=λi hi z=>by
 have q:h[i]?=some h[i]:=bj hi;generalize h[i]=o at q
 cases o with
 |lst xs=>let⟨vs,e1,_⟩:=s.ob i _ q;rw[z,hp]at e1;cases e1
 |clo k t=>let⟨_,⟨o,u,e1⟩,_⟩:=s.ob i _ q;rw[z,hp]at e1;cases e1
 |dct ks=>have e1:H (μ i)=some (.dT (L7 ks)):=s.ob i _ q;rw[z,hp]at e1;cases e1
def Bz.alloc(s:Bz G μ h H)(hp:H p=none)(r:RelDL G μ h.length H ds vs):
  Ext μ h.length H (λi=>if i=h.length then p else μ i) (h++[Ob.lst ds]).length (upd H p (.lst vs))/\Bz G (λi=>if i=h.length then p else μ i) (h++[.lst ds]) (upd H p (.lst vs)):=by
 have hl:(h++[Ob.lst ds]).length=h.length+1:=by simp
 have hq:=s.not hp;have x:Ext μ h.length H (λi=>if i=h.length then p else μ i) (h++[Ob.lst ds]).length (upd H p (.lst vs)):=⟨by lia,λi hi=>if_neg (bc hi),λa o _ e=>cN hp a o e⟩
 refine⟨x,λi j hi hj e=>?_,λi o q=>?_,s.tab.keep λa o _ _ q=>cN hp a o q⟩
 ·rw[hl]at hi hj
  by_cases h1:i=h.length<;>by_cases h2:j=h.length
  ·lia
  ·rw[if_pos h1,if_neg h2]at e;exact absurd e.symm (hq j (by lia))
  ·rw[if_neg h1,if_pos h2]at e;exact absurd e (hq i (by lia))
  ·rw[if_neg h1,if_neg h2]at e;exact s.inj i j (by lia) (by lia) e
 ·by_cases h1:i<h.length
  ·rw[ey h1]at q;have r1:=s.ob i o q
   cases o with
   |lst xs=>let⟨ws,e1,r2⟩:=r1;exact⟨ws,by rw[if_neg (bc h1)];exact cN hp _ _ e1,RelDL.mono x _ _ r2⟩
   |clo k t=>rw[if_neg (bc h1)];exact r1.clo x
   |dct ks=>rw[if_neg (bc h1)];exact cN hp _ _ r1
  ·rw[gh (by lia)]at q;have h2:i=h.length:=by have:=(bf.mp q).1;simp at this;lia
   subst h2;simp at q;subst q;exact⟨vs,by rw[if_pos rfl];exact cU,RelDL.mono x _ _ r⟩
def Bz.write(s:Bz G μ h H)(q:h[i]?=some (.lst xs))(r:RelDL G μ h.length H ys vs):
  Ext μ h.length H μ (h.set i (.lst ys)).length (upd H (μ i) (.lst vs))/\Bz G μ (h.set i (.lst ys)) (upd H (μ i) (.lst vs)):=by
 let⟨us,e0,r0⟩:=s.ob i _ q;have hi:i<h.length:=(bf.mp q).1;have im:∀a o,zQ o->H a=some o->upd H (μ i) (.lst vs) a=some o:=λa o m e=>by
  rw[bT];exact e
  rintro rfl;rw[e0]at e;cases e;exact m
 have x:Ext μ h.length H μ (h.set i (.lst ys)).length (upd H (μ i) (.lst vs)):=⟨by simp,λ_ _=>rfl,im⟩
 refine⟨x,λa b ha hb=>?_,λj o e=>?_,s.tab.keep λa o n1 _ q=>?_⟩
 rotate_left 2
 ·rw[bT];exact q
  rintro rfl;rw[e0]at q;cases q;exact n1 _ rfl
 ·rw[mm]at ha hb;exact s.inj a b ha hb
 ·by_cases Dg:i=j
  ·subst Dg;rw[fe hi]at e;cases e;exact⟨vs,cU,RelDL.mono x _ _ r⟩
  ·rw[fj Dg]at e;have hj:j<h.length:=(bf.mp e).1;have r1:=s.ob j o e;have ne:μ j≠μ i:=λz=>Dg (s.inj j i hj hi z).symm
   cases o with
   |lst zs=>let⟨ws,e1,r2⟩:=r1;exact⟨ws,by rw[bT ne];exact e1,RelDL.mono x _ _ r2⟩
   |clo k t=>exact r1.clo x
   |dct ks=>exact(bT ne).trans r1
end
def lim{α:Type}(n:Nat)(r:Rs α):Rs α:=if n<=1000000 then r else .bad
def wJ(h:n<=1000000):n<=cg:=cp h (by decide)
def getL(h:Hs)(i:Nat):Option Bj:=match h[i]? with
 |some (.lst xs)=>some xs
 |_=>none
def dN(e:getL h i=some xs):h[i]?=some (.lst xs):=by
 unfold getL at e
 cases q:h[i]? with
 |none=>rw[q]at e;cases e
 |some o=>
  cases o with
  |lst ys=>rw[q]at e;cases e;rfl
  |clo k t=>rw[q]at e;cases e
  |dct ks=>rw[q]at e;cases e
section
variable{X:Cx}{G:Cfg}{E:XK}{a b c:bq}{ma mb mc:M Dv}{pos:Pos}{es:List bq}{aT:M Bj}
def aB(i:Nat):M Dv:=λρ h=>match ρ[i]? with
 |some (some d)=>.ok d h
 |_=>.bad
theorem bM(i:Nat){x:Str}(hN:X.N[i]?=some x:=by rfl)(hv:mU X.env.scope x:=by first|exact Or.inl rfl|exact Or.inr (Or.inl rfl)|exact Or.inr (Or.inr rfl))(hd:(x==Hn)=false:=by decide)(hcd:(x==("__classdict__":Str))=false:=by decide):aJ X G E (.Name x pos) (aB i):=λ_=>PE.imp (zA hN hv hd hcd) λσ H Q⟨μ,ρ,h,rs,s,o⟩=>by
 unfold aB at o
 split at o
 ·rename_i d e;obtain⟨v,e1,r⟩:=rs.at_ i d e;exact⟨v,e1,o.val s r⟩
 ·exact o.elim
def mC(d:Dv):M Dv:=λ_ h=>.ok d h
def aS{i j}:aJ X G E (.Constant (.int i) j pos) (mC (.int i)):=λ_=>PE.imp UJ λσ H Q⟨μ,ρ,h,rs,s,o⟩=>o.val s (show Bq G μ _ H (.int i) (.int i) from rfl)
def fV{i j}:aJ X G E (.Constant (.bool i) j pos) (mC (.bl i)):=λ_=>PE.imp UK λσ H Q⟨μ,ρ,h,rs,s,o⟩=>o.val s (show Bq G μ _ H (.bl i) (.bl i) from rfl)
def tS{j}:aJ X G E (.Constant .none j pos) (mC .non):=λ_=>PE.imp JU λσ H Q⟨μ,ρ,h,rs,s,o⟩=>o.val s (show Bq G μ _ H .non .non from rfl)
def wK{x j}:aJ X G E (.Constant (.str x) j pos) (mC (.str x)):=λ_=>PE.imp UL λσ H Q⟨μ,ρ,h,rs,s,o⟩=>o.val s (show Bq G μ _ H (.str x) (.str x) from rfl)
def aC:M Bj:=λ_ h=>.ok [] h
def aA(m:M Dv)(ms:M Bj ):M Bj:=λρ h=>(m ρ h).bind λd h1=>(ms ρ h1).bind λds h2=>.ok (d::ds) h2
def aK:eC X G E [] aC:=λ_=>PA.imp jI λσ H Q⟨μ,ρ,h,rs,s,o⟩=>o.val s RelDL.nil
theorem aE(ha:aJ X G E a ma)(hr:eC X G E es aT)(hs:ay (a::es) X.env=(false,eval a X.env)::ay es X.env:=by rfl):eC X G E (a::es) (aA ma aT):=λhK=>PA.imp (hY (ha hK) (hr hK) hs) λσ H Q⟨μ,ρ,h,rs,s,o⟩=>eZ rs s o λμ1 d h1 v H1 x1 Cc s1 r1 o1=>lY Cc s1 o1 λμ2 ds h2 vs H2 x2 Dn s2 r2 o2=>o2.val s2 (RelDL.cons (Bq.mono x2 _ _ r1) r2)
def aL(ms:M Bj ):M Dv:=λρ h=>(ms ρ h).bind λds h1=>lim ds.length (.ok (.tup ds) h1)
theorem eQ{k}(h:eC X G E es aT):aJ X G E (.Tuple es k pos) (aL aT):=λhK=>PE.imp (KI (h hK)) λσ H Q⟨μ,ρ,h,rs,s,o⟩=>lY rs s o λμ1 ds h1 vs H1 x1 Cc s1 r1 o1=>by
 unfold lim at o1
 split at o1
 ·rename_i hl;refine⟨by rw[r1.length];exact wJ hl,λp hp=>?_⟩;exact o1 μ1 _ _ (Ext.same (cN hp)) (s1.same (cN hp)) ⟨p,vs,rfl,cU,RelDL.mono (Ext.same (cN hp)) _ _ r1⟩
 ·exact o1.elim
def aQ(ms:M Bj ):M Dv:=λρ h=>(ms ρ h).bind λds h1=>lim ds.length (.ok (.ref h1.length) (h1++[.lst ds]))
def mX{H:Hp}{Q:VK}(s:Bz G μ h H)(r:RelDL G μ h.length H ds vs)(hp:H p=none)(o:Out G E μ h.length H (.ok (.ref h.length) (h++[.lst ds])) (Bq G) Q):Q (.ref p) (upd H p (.lst vs)):=by let⟨x,s'⟩:=s.alloc hp r;exact o _ _ _ x s' ⟨by simp,by show Hk p=Hk (if h.length=h.length then p else μ h.length);rw[if_pos rfl]⟩
def fW(h:eC X G E es aT):aJ X G E (.List es pos) (aQ aT):=λhK=>PE.imp (WU (h hK)) λσ H Q⟨μ,ρ,h,rs,s,o⟩=>lY rs s o λμ1 ds h1 vs H1 x1 Cc s1 r1 o1=>by
 unfold lim at o1
 split at o1
 ·rename_i hl;exact⟨by rw[r1.length];exact wJ hl,λp hp=>mX s1 r1 hp o1⟩
 ·exact o1.elim
def m2(f:Dv->Dv->Hs->Rs Dv)(ma mb:M Dv):M Dv:=λρ h=>(ma ρ h).bind λx h1=>(mb ρ h1).bind λy h2=>f x y h2
def gG(G:Cfg)(r:R2)(f:Dv->Dv->Hs->Rs Dv):Prop:=∀(E:XK)(μ:Nat->ah)(h:Hs)(H:Hp)(x y:Dv)(vx vy:V)(Q:VK),Bz G μ h H->Bq G μ h.length H x vx->Bq G μ h.length H y vy->Out G E μ h.length H (f x y h) (Bq G) Q->r vx vy H Q
theorem wL{r:R2}{f:Dv->Dv->Hs->Rs Dv}(hd:gG G r f){σ:St}{H:Hp}{Q:VK}(t:jC G E (m2 f ma mb) σ H Q):wB r (jC G E ma) (jC G E mb) σ H Q:=by obtain⟨μ,ρ,h,rs,s,o⟩:=t;exact eZ rs s o λμ1 x h1 vx H1 x1 Cc s1 r1 o1=>eZ Cc s1 o1 λμ2 y h2 vy H2 x2 Dn s2 r2 o2=>hd E μ2 h2 H2 x y vx vy Q s2 (Bq.mono x2 _ _ r1) r2 o2
def rF(ho:Cw X (binaryOp op) r)(hd:gG G r f)(ha:aJ X G E a ma)(hb:aJ X G E b mb):aJ X G E (.BinOp a op b pos) (m2 f ma mb):=λhK=>PE.imp (V8 ho (ha hK) (hb hK)) λ_ _ _ t=>wL hd t
def zR(ho:Cw X (compareOp op) r)(hd:gG G r f)(ha:aJ X G E a ma)(hb:aJ X G E b mb)(hm:behindInMarks op b=false):aJ X G E (.Compare a [op] [b] pos) (m2 f ma mb):=λhK=>PE.imp (WI ho (ha hK) (hb hK) hm) λ_ _ _ t=>wL hd t
def dW:Dv->Hs->Rs Bool
 |.bl b,h=>.ok b h
 |_,_=>.bad
def mB(m:M Dv):M Bool:=λρ h=>(m ρ h).bind dW
theorem YF{m:M Dv}{σ:St}{H:Hp}{Q:Bool->Hp->Prop}(t:jJ G E (mB m) σ H Q):jC G E m σ H λx H'=>∃k,x=.bl k/\Q k H':=by
 obtain⟨μ,ρ,h,rs,s,o⟩:=t;refine eZ rs s o λμ1 x h1 vx H1 x1 Cc s1 r1 o1=>?_
 cases x with
 |bl k=>exact⟨k,r1,o1.val s1 rfl⟩
 |_=>exact o1.elim
def tT(ho:Cw X (compareOp op) r)(hd:gG G r f)(ha:aJ X G E a ma)(hb:aJ X G E b mb)(hm:behindInMarks op b=false):hZ X G E (.Compare a [op] [b] pos) (mB (m2 f ma mb)):=λhK=>PT.imp (WK ho (ha hK) (hb hK) hm) λσ H Q t=>wL hd (YF t)
def tU(f f':Dv->Dv->Hs->Rs Dv)(ma mb mc:M Dv):M Dv:=λρ h=>(ma ρ h).bind λx h1=>(mb ρ h1).bind λy h2=>(f x y h2).bind λz h3=>match z with
 |.bl true=>(mc ρ h3).bind λw h4=>f' y w h4
 |.bl false=>.ok (.bl false) h3
 |_=>.bad
theorem YG{r r':R2}{f f':Dv->Dv->Hs->Rs Dv}(hd:gG G r f)(Ej:gG G r' f'){σ:St}{H:Hp}{Q:VK}(t:jC G E (tU f f' ma mb mc) σ H Q):J9 r r' (jC G E ma) (jC G E mb) (jC G E mc) σ H Q:=by
 obtain⟨μ,ρ,h,rs,s,o⟩:=t;refine eZ rs s o λμ1 x h1 vx H1 x1 Cc s1 r1 o1=>eZ Cc s1 o1 λμ2 y h2 vy H2 x2 Dn s2 r2 o2=>?_;refine hd E μ2 h2 H2 x y vx vy _ s2 (Bq.mono x2 _ _ r1) r2 ((o2.bind (R1:=Bq G)).mono λvz H3⟨μ3,z,h3,x3,s3,r3,o3⟩=>?_)
 cases z with
 |bl k=>
  refine⟨k,r3,?_⟩
  cases k with
  |true=>exact LI (eZ (Dn.mono x3) s3 o3 λμ4 w h4 vw H4 x4 rE s4 r4 o4=>Ej E μ4 h4 H4 y w vy vw Q s4 (Bq.mono (x3.trans x4) _ _ r2) r4 o4)
  |false=>exact LH (o3.val s3 rfl)
 |_=>exact o3.elim
def YH(ho:Cw X (compareOp op) r)(Ey:Cw X (compareOp op') r')(hd:gG G r f)(Ej:gG G r' f')(ha:aJ X G E a ma)(hb:aJ X G E b mb)(hc:aJ X G E c mc)(hm:lastMarks [op,op'] [b,c]=false:=by with_unfolding_all rfl):aJ X G E (.Compare a [op,op'] [b,c] pos) (tU f f' ma mb mc):=λhK=>
 PE.imp (WL ho Ey (ha hK) (hb hK) (hc hK) hm) λ_ _ _ t=>YG hd Ej t
def kY(G:Cfg)(r:V->Hp->VK->Prop)(f:Dv->Hs->Rs Dv):Prop:=∀(E:XK)(μ:Nat->ah)(h:Hs)(H:Hp)(x:Dv)(vx:V)(Q:VK),Bz G μ h H->Bq G μ h.length H x vx->Out G E μ h.length H (f x h) (Bq G) Q->r vx H Q
def m1(f:Dv->Hs->Rs Dv)(ma:M Dv):M Dv:=λρ h=>(ma ρ h).bind f
theorem YI{op:UnaryOp}{r:V->Hp->VK->Prop}{f:Dv->Hs->Rs Dv}(ho:zC X (unaryOp op) r)(hd:kY G r f)(ha:aJ X G E a ma):aJ X G E (.UnaryOp op a pos) (m1 f ma):=λhK=>PE.imp (V9 ho (ha hK)) λσ H Q⟨μ,ρ,h,rs,s,o⟩=>eZ rs s o λμ1 x h1 vx H1 x1 Cc s1 r1 o1=>hd E μ1 h1 H1 x vx Q s1 r1 o1
variable{tA tB':M Bool}{rest:List bq}
def jX(t u:M Bool):M Bool:=λρ h=>(t ρ h).bind λc h1=>if c=true then u ρ h1 else .ok false h1
def eR(t u:M Bool):M Bool:=λρ h=>(t ρ h).bind λc h1=>if c=true then .ok true h1 else u ρ h1
def cJ(t:M Bool):M Bool:=λρ h=>(t ρ h).bind λc h1=>.ok (!c) h1
def De(X:Cx)(G:Cfg)(E:XK)(pe:bq)(m:M Bool):Prop:=X.K=G.K->PW X pe (jJ G E m)
def De.t(h:De X G E pe m):hZ X G E pe m:=λhK=>(h hK).pt
def PW.imp{t t':TT}(h:PW X e t)(i:∀σ H Q,t' σ H Q->t σ H Q):PW X e t':=λwh pins s σ H Q I q=>h wh pins s σ H Q I (i σ H Q q)
def E1(ha:hZ X G E a tA):De X G E (.BoolOp .And [a] pos) tA:=λhK=>UN (ha hK)
def tV(ha:hZ X G E a tA):De X G E (.BoolOp .Or [a] pos) tA:=λhK=>UO (ha hK)
theorem YJ{σ:St}{H:Hp}{Q:Bool->Hp->Prop}(t:jJ G E (jX tA tB') σ H Q):JW (jJ G E tA) (jJ G E tB') σ H Q:=by
 obtain⟨μ,ρ,h,rs,s,o⟩:=t;refine EZ rs s o λμ1 k h1 H1 x1 Cc s1 o1=>?_
 cases k with
 |true=>rw[if_pos rfl]at o1⊢;exact⟨μ1,ρ,h1,Cc,s1,o1⟩
 |false=>rw[if_neg (by decide)]at o1⊢;exact o1.val s1 rfl
theorem YK{σ:St}{H:Hp}{Q:Bool->Hp->Prop}(t:jJ G E (eR tA tB') σ H Q):JX (jJ G E tA) (jJ G E tB') σ H Q:=by
 obtain⟨μ,ρ,h,rs,s,o⟩:=t;refine EZ rs s o λμ1 k h1 H1 x1 Cc s1 o1=>?_
 cases k with
 |false=>rw[if_neg (by decide)]at o1⊢;exact⟨μ1,ρ,h1,Cc,s1,o1⟩
 |true=>rw[if_pos rfl]at o1⊢;exact o1.val s1 rfl
def E2(ha:hZ X G E a tA)(hb:De X G E (.BoolOp .And (b::rest) pos) tB'):De X G E (.BoolOp .And (a::b::rest) pos) (jX tA tB'):=λhK=>PW.imp (UP (ha hK) (hb hK)) λ_ _ _ t=>YJ t
def rG(ha:hZ X G E a tA)(hb:De X G E (.BoolOp .Or (b::rest) pos) tB'):De X G E (.BoolOp .Or (a::b::rest) pos) (eR tA tB'):=λhK=>PW.imp (UQ (ha hK) (hb hK)) λ_ _ _ t=>YK t
def iJ(ha:hZ X G E a tA):hZ X G E (.UnaryOp .Not a pos) (cJ tA):=λhK=>PT.imp (UR (ha hK)) λσ H Q⟨μ,ρ,h,rs,s,o⟩=>EZ rs s o λμ1 k h1 H1 x1 Cc s1 o1=>o1.val s1 rfl
def fH(m u:M Dv):M Dv:=λρ h=>(m ρ h).bind λd h1=>match d with
 |.bl true=>u ρ h1
 |.bl false=>.ok (.bl false) h1
 |_=>.bad
def pT:Dv->Hs->Rs Dv
 |.bl b,h=>.ok (.bl (!b)) h
 |_,_=>.bad
def rH{op}(h:aJ X G E a m):aJ X G E (.BoolOp op [a] pos) m:=λhK=>UU (h hK)
theorem rJ(ha:aJ X G E a ma)(hb:aJ X G E (.BoolOp .And (b::rest) pos) mb):aJ X G E (.BoolOp .And (a::b::rest) pos) (fH ma mb):=λhK=>PE.imp (UW (ha hK) (hb hK)) λσ H Q⟨μ,ρ,h,rs,s,o⟩=>
 eZ rs s o λμ1 x h1 vx H1 x1 Cc s1 r1 o1=>by
  cases x with
  |bl k=>
   refine⟨k,r1,?_⟩
   cases k with
   |true=>exact LI ⟨μ1,ρ,h1,Cc,s1,o1⟩
   |false=>exact LH (o1.val s1 rfl)
  |_=>exact o1.elim
def E3(ha:aJ X G E a ma):aJ X G E (.UnaryOp .Not a pos) (m1 pT ma):=λhK=>PE.imp (UX (ha hK)) λσ H Q⟨μ,ρ,h,rs,s,o⟩=>
 eZ rs s o λμ1 x h1 vx H1 x1 Cc s1 r1 o1=>by
  cases x with
  |bl k=>exact⟨k,r1,o1.val s1 rfl⟩
  |_=>exact o1.elim
def fO:Dv->Hs->Rs Bool
 |.non,h=>.ok false h
 |.bl b,h=>.ok b h
 |.int i,h=>.ok (i !=0) h
 |.tup xs,h=>.ok (!xs.isEmpty) h
 |.ref i,h=>match getL h i with
  |some xs=>.ok (!xs.isEmpty) h
  |none=>.bad
 |_,_=>.bad
def bJ(m:M Dv):M Bool:=λρ h=>(m ρ h).bind fO
def L8(r:RelDL G μ n H ds vs):vs.isEmpty=ds.isEmpty:=by
 have:=r.length
 cases ds<;>cases vs<;>simp_all
theorem fY(ha:aJ X G E a ma)(he:∀whole,isTrue a X.env whole=(do let v <-whole;standAt a.pos;holding [v] (truthy v)):=by intro _;rfl):hZ X G E a (bJ ma):=λhK=>PT.imp (WO (ha hK) he) λσ H Q⟨μ,ρ,h,rs,s,o⟩=>
 eZ rs s o λμ1 x h1 vx H1 x1 Cc s1 r1 o1=>by
  cases x with
  |non=>rw[Bq]at r1;subst r1;exact⟨_,rfl,o1.val s1 rfl⟩
  |bl k=>rw[Bq]at r1;subst r1;exact⟨_,rfl,o1.val s1 rfl⟩
  |int i=>rw[Bq]at r1;subst r1;exact⟨_,rfl,o1.val s1 rfl⟩
  |tup ds=>obtain⟨p,vs,rfl,e,r⟩:=r1;exact⟨_,.inr (.inl ⟨vs,Gq e,rfl⟩),by rw[L8 r];exact o1.val s1 rfl⟩
  |ref i=>
   obtain⟨hi,rfl⟩:=r1;dsimp only[fO]at o1
   cases q:getL h1 i with
   |none=>rw[q]at o1;exact o1.elim
   |some xs=>obtain⟨vs,e,r⟩:=s1.ob i _ (dN q);rw[q]at o1;exact⟨_,.inl ⟨vs,He e,rfl⟩,by rw[L8 r];exact o1.val s1 rfl⟩
  |_=>exact o1.elim
end
end L2.Mr
open L2.Mr.Dv renaming int->Gh,ref->Gu,bl->Hi,tup->Hl
open L2.Mr.Ob renaming lst->Gi,clo->Hg
open L2.Mr.RelDL renaming mono->Gk,nil->Gr,cons->Gw
open L2.Mr.Ext renaming same->Gm,refl->Gs
open L2.Mr.PE renaming imp->Gp
open L2.Mr.Bq renaming mono->Gx
open L2.Mr.Rs renaming ok->Gz
open L2.Mr.De renaming t->Hm
namespace L2
section
variable{Pg:bp}{w:cm}{P:ah->Prop}{H:Hp}{s:ag}
def YL(hok:Cz Pg w H s.heap)(n:Nat)(A:cb)(d d':Dt)(v v':V)(u u':af)(hn:eY d<=n)(hu:A.units+n+1<cLine)(n1:nod d=true)(n2:nod d'=true)(h:Den P H d v)(h':Den P H d' v')(r:RelV v u)(r':RelV v' u'):
  SeqAt.RcNeAt A s u u' (!bG d d'):=by
 have Ce:A.units<cLine:=by lia
 have Dq:1<=n->∀(d d':Dt)(u u':af),eY d<=n-1->nod d=true->nod d'=true->Vw P H s d u->Vw P H s d' u'->lj A.in1 s u u' (bG d d'):=λhd d d' u u' a b c e f=>(EX hok (n-1) A.in1 d d' u u' a (by show A.units+1+(n-1)+1<cLine;lia) b c e f).2;have k:=vw hok n1 h r;have k':=vw hok n2 h' r'
 clear h h' r r'
 cases k<;>cases k'
 case tup.tup ds a1 vs1 its1 e1 g1 q1 tp1 Dk a2 Fq Dd e2 g2 q2 tp2=>
  rw[nod]at n1 n2;rw[eY]at hn;have hl1:=g1.length;have hl2:=g2.length;have hq1:=q1.length;have hq2:=q2.length;rw[bG];have z:=SeqAt.RcNeAt.tuples (e:=λj=>bG (ds.getD j .non) (Dk.getD j .non)) tp1 tp2 Ce (zO hok (Dq (by lia)) (by lia) n1 n2 g1 g2 q1 q2);have s1:its1.toArray.size=ds.length:=by simp;lia
  have s2:Dd.toArray.size=Dk.length:=by simp;lia
  rw[s1,s2]at z
  by_cases hlen:ds.length=Dk.length
  ·rw[wH hlen];rw[<-hlen,Al]at z;simpa using z
  ·rw[wI hlen];rw[show(ds.length==Dk.length)=false from beq_eq_false_iff_ne.mpr hlen,rj]at z;exact z
 case lst.lst ds a1 vs1 its1 e1 g1 q1 tp1 Dk a2 Fq Dd e2 g2 q2 tp2=>
  rw[nod]at n1 n2;rw[eY]at hn;have hl1:=g1.length;have hl2:=g2.length;have hq1:=q1.length;have hq2:=q2.length;rw[bG]
  by_cases hlen:ds.length=Dk.length
  ·have z:=SeqAt.RcNeAt.lists (e:=λj=>bG (ds.getD j .non) (Dk.getD j .non)) tp1 tp2 (by simp;lia) Ce (zO hok (Dq (by lia)) (by lia) n1 n2 g1 g2 q1 q2);rw[wH hlen];simpa[hq1.symm,hl1]using z
  ·rw[wI hlen];exact SeqAt.RcNeAt.lists_lengths tp1 tp2 (by simp;lia) Ce
 case non.non=>exact .none_none
 case non.bl=>exact .none_bool _
 case non.int=>exact .none_int _ _
 case non.str=>exact .none_str _ _
 case non.tup=>exact .none_tuple ‹_› Ce
 case non.lst=>exact .none_list ‹_› Ce
 case bl.non=>exact .bool_none _
 case bl.bl=>exact .bool_bool _ _
 case bl.int=>exact .bool_int _ _ _
 case bl.str=>exact .bool_str _ _ _
 case bl.tup=>exact .bool_tuple _ ‹_› Ce
 case bl.lst=>exact .bool_list _ ‹_› Ce
 case int.non=>exact .int_none _ _
 case int.bl=>exact .int_bool _ _ _
 case int.int=>exact .int_int _ _ _ _
 case int.str=>exact .int_str _ _ _ _
 case int.tup=>exact .int_tuple _ _ ‹_› Ce
 case int.lst=>exact .int_list _ _ ‹_› Ce
 case str.non=>exact .str_none _ _
 case str.bl=>exact .str_bool _ _ _
 case str.int=>exact .str_int _ _ _ _
 case str.str=>exact .str_str _ _ _ _
 case str.tup=>exact .str_tuple _ _ ‹_› Ce
 case str.lst=>exact .str_list _ _ ‹_› Ce
 case tup.non=>exact .tuple_none ‹_› Ce
 case tup.bl=>exact .tuple_bool _ ‹_› Ce
 case tup.int=>exact .tuple_int _ _ ‹_› Ce
 case tup.str=>exact .tuple_str _ _ ‹_› Ce
 case tup.lst=>exact .tuple_list ‹_› ‹_› Ce
 case lst.non=>exact .list_none ‹_› Ce
 case lst.bl=>exact .list_bool _ ‹_› Ce
 case lst.int=>exact .list_int _ _ ‹_› Ce
 case lst.str=>exact .list_str _ _ ‹_› Ce
 case lst.tup=>exact .list_tuple ‹_› ‹_› Ce
end
end L2
namespace L2.Mr
def bE{α β:Type}(f:α->Option β):List α->Option (List β)
 |[]=>some []
 |x::xs=>match f x with
  |none=>none
  |some y=>match bE f xs with
   |none=>none
   |some ys=>some (y::ys)
def bD:Nat->Hs->Dv->Option Dt
 |0,_,_=>none
 |k+1,h,d=>match d with
  |.non=>some .non
  |.bl b=>some (.bl b)
  |.int i=>some (.int i)
  |.str x=>some (.str x)
  |.tup xs=>match bE (bD k h) xs with
   |some ts=>some (.tup ts)
   |none=>none
  |.ref i=>match getL h i with
   |some xs=>match bE (bD k h) xs with
    |some ts=>some (.lst ts)
    |none=>none
   |none=>none
  |_=>none
abbrev kZ:ah->Prop:=λ_=>True
section
variable{G:Cfg}{μ:Nat->ah}{h:Hs}{H:Hp}
def tW(s:Bz G μ h H):∀(k:Nat)(d:Dv)(v:V)(t:Dt),Bq G μ h.length H d v->bD k h d=some t->Den kZ H t v/\eY t<=k/\nod t=true:=by
 intro k
 induction k with
 |zero=>intro d v t _ e;cases e
 |succ k ih=>
  have il:∀(xs:Bj)(vs:Ho)(ts:List Dt),RelDL G μ h.length H xs vs->bE (bD k h) xs=some ts->By kZ H ts vs/\oO ts<=k/\lX ts=true:=by
   intro xs
   induction xs with
   |nil=>intro vs ts r e;cases e;rw[RelDL]at r;subst r;exact⟨By.nil,by simp[oO],rfl⟩
   |cons x xs ihx=>
    intro vs ts r e;rw[RelDL]at r;obtain⟨v,rr,rfl,r1,r2⟩:=r;unfold bE at e
    cases q:bD k h x with
    |none=>rw[q]at e;cases e
    |some y=>
     rw[q]at e;dsimp only at e
     cases q2:bE (bD k h) xs with
     |none=>rw[q2]at e;cases e
     |some ys=>rw[q2]at e;cases e;let⟨a1,a2,a3⟩:=ih x v y r1 q;let⟨b1,b2,b3⟩:=ihx rr ys r2 q2;exact⟨By.cons a1 b1,by rw[oO];lia,by rw[lX,a3,b3];rfl⟩
  intro d v t r e;unfold bD at e
  cases d with
  |non=>cases e;rw[Bq]at r;subst r;exact⟨by rw[Den],by simp[eY],rfl⟩
  |bl b=>cases e;rw[Bq]at r;subst r;exact⟨by rw[Den],by simp[eY],rfl⟩
  |int b=>cases e;rw[Bq]at r;subst r;exact⟨by rw[Den],by simp[eY],rfl⟩
  |str b=>cases e;rw[Bq]at r;subst r;exact⟨by rw[Den],by simp[eY],rfl⟩
  |tup xs=>
   dsimp only at e
   cases q:bE (bD k h) xs with
   |none=>rw[q]at e;cases e
   |some ts=>rw[q]at e;cases e;obtain⟨a,vs,rfl,e1,r1⟩:=r;let⟨b1,b2,b3⟩:=il xs vs ts r1 q;exact⟨by rw[Den];exact⟨a,vs,rfl,e1,b1⟩,by rw[eY];lia,by rw[nod];exact b3⟩
  |ref i=>
   dsimp only at e
   cases g:getL h i with
   |none=>rw[g]at e;cases e
   |some xs=>
    rw[g]at e;dsimp only at e
    cases q:bE (bD k h) xs with
    |none=>rw[q]at e;cases e
    |some ts=>rw[q]at e;cases e;obtain⟨hi,rfl⟩:=r;let⟨vs,e1,r1⟩:=s.ob i _ (dN g);let⟨b1,b2,b3⟩:=il xs vs ts r1 q;exact⟨by rw[Den];exact⟨_,vs,rfl,trivial,e1,b1⟩,by rw[eY];lia,by rw[nod];exact b3⟩
  |edc=>cases e
  |exc c=>cases e
  |scr=>cases e
end
def cD:Nat:=30
def bR(x y:Dv)(h:Hs):Rs Dv:=match bD cD h x,bD cD h y with
 |some s,some t=>.ok (.bl (bG s t)) h
 |_,_=>.bad
def bZ(x y:Dv)(h:Hs):Rs Dv:=match bD cD h x,bD cD h y with
 |some s,some t=>.ok (.bl (!bG s t)) h
 |_,_=>.bad
def zS(neg:Bool):R2:=λx y H Q=>∃t t',Den kZ H t x/\Den kZ H t' y/\eY t<=cD/\nod t=true/\nod t'=true/\Q (.bl (if neg then !bG t t' else bG t t')) H
section
variable{X:Cx}{G:Cfg}
def L9(hu:X.A.units+64<cLine):Cw X (compareOp .Eq) (zS false):=by intro pins s σ H x y v u Q I r1 r2 ⟨t,t',d,d',hd,n1,n2,q⟩;exact EqBoolInt.of_rc (L6 I.hok cD X.A t t' x y v u hd (by unfold cD;lia) n1 n2 d d' r1 r2).1 ⟨.bl _,H,I,rfl,q⟩
def YM(hu:X.A.units+64<cLine):Cw X (compareOp .NotEq) (zS true):=by intro pins s σ H x y v u Q I r1 r2 ⟨t,t',d,d',hd,n1,n2,q⟩;exact EqBoolInt.of_rcne (YL I.hok cD X.A t t' x y v u hd (by unfold cD;lia) n1 n2 d d' r1 r2) ⟨.bl _,H,I,rfl,q⟩
theorem MA:gG G (zS false) bR:=by
 intro E μ h H x y vx vy Q s rx ry o;unfold bR at o
 split at o
 ·rename_i t t' e e';obtain⟨a1,a2,a3⟩:=tW s _ x vx t rx e;obtain⟨b1,b2,b3⟩:=tW s _ y vy t' ry e';exact⟨t,t',a1,b1,a2,a3,b3,o.val s rfl⟩
 ·exact o.elim
theorem YN:gG G (zS true) bZ:=by
 intro E μ h H x y vx vy Q s rx ry o;unfold bZ at o
 split at o
 ·rename_i t t' e e';obtain⟨a1,a2,a3⟩:=tW s _ x vx t rx e;obtain⟨b1,b2,b3⟩:=tW s _ y vy t' ry e';exact⟨t,t',a1,b1,a2,a3,b3,o.val s rfl⟩
 ·exact o.elim
end
def iA(g:Int->Int->Dv):Dv->Dv->Hs->Rs Dv
 |.int i,.int j,h=>.ok (g i j) h
 |_,_,_=>.bad
def mY(C:Int->Int->Bool)(g:Int->Int->Dv):Dv->Dv->Hs->Rs Dv
 |.int i,.int j,h=>if C i j=true then .ok (g i j) h else .bad
 |_,_,_=>.bad
section
variable{X:Cx}{G:Cfg}
def YO{f:Int->Int->Int}:gG G (kX λi j=>.int (f i j)) (iA λi j=>.int (f i j)):=by
 intro E μ h H x y vx vy Q s rx ry o
 cases x with
 |int i=>
  cases y with
  |int j=>exact⟨i,j,rx,ry,o.val s rfl⟩
  |_=>exact o.elim
 |_=>exact o.elim
def tX{f:Int->Int->Bool}:gG G (kX λi j=>.bl (f i j)) (iA λi j=>.bl (f i j)):=by
 intro E μ h H x y vx vy Q s rx ry o
 cases x with
 |int i=>
  cases y with
  |int j=>exact⟨i,j,rx,ry,o.val s rfl⟩
  |_=>exact o.elim
 |_=>exact o.elim
def zT{C:Int->Int->Prop}{B:Int->Int->Bool}{f:Int->Int->Int}(hB:∀i j,B i j=true->C i j):gG G (rI C λi j=>.int (f i j)) (mY B λi j=>.int (f i j)):=by
 intro E μ h H x y vx vy Q s rx ry o
 cases x with
 |int i=>
  cases y with
  |int j=>
   dsimp only[mY]at o
   split at o
   ·rename_i hb;exact⟨i,j,rx,ry,hB i j hb,o.val s rfl⟩
   ·exact o.elim
  |_=>exact o.elim
 |_=>exact o.elim
def kK(i:Int):Bool:=decide (-18446744073709551616<i)&&decide (i<18446744073709551616)
def zU(i j:Int):Bool:=kK i||kK j
def YQ(i j:Int)(h:zU i j=true):CMul i j:=by
 unfold zU kK at h;unfold CMul;simp only[Bool.or_eq_true,cq,decide_eq_true_eq]at h
 rcases h with h|h
 ·exact .inl ⟨by lia,by lia⟩
 ·exact .inr ⟨by lia,by lia⟩
def tY(_ j:Int):Bool:=decide (0<j)
def YR(i j:Int)(h:tY i j=true):0<j:=by unfold tY at h;simpa using h
def wM(i j:Int):Bool:=decide (0<=j)&&decide (j<=1000000)&&decide (i.natAbs<18446744073709551616)
def YS(i j:Int)(h:wM i j=true):ED i j:=by unfold wM at h;unfold ED;simp only[cq,decide_eq_true_eq]at h;exact⟨h.1.1,h.1.2,by have:=h.2;lia⟩
def lZ:Dv->Dv->Hs->Rs Dv
 |.int i,.int j,h=>.ok (.int (i+j)) h
 |.ref i,.ref j,h=>match getL h i,getL h j with
  |some xs,some ys=>lim (xs.length+ys.length) (.ok (.ref h.length) (h++[.lst (xs++ys)]))
  |_,_=>.bad
 |.tup xs,.tup ys,h=>if xs.isEmpty=true then .bad else lim (xs.length+ys.length) (.ok (.tup (xs++ys)) h)
 |_,_,_=>.bad
def E4(K:ar):R2:=λx y H Q=>(kX λi j=>.int (i+j)) x y H Q∨LD x y H Q∨K0 K x y H Q
def YT:Cw X (binaryOp .Add) (E4 X.K):=op_add.or (op_cat.or XH)
theorem YU:gG G (E4 G.K) lZ:=by
 intro E μ h H x y vx vy Q s rx ry o
 cases x with
 |int i=>
  cases y with
  |int j=>exact .inl ⟨i,j,rx,ry,o.val s rfl⟩
  |_=>exact o.elim
 |ref i=>
  cases y with
  |ref j=>
   dsimp only[lZ]at o
   cases g1:getL h i with
   |none=>rw[g1]at o;exact o.elim
   |some xs=>
    cases g2:getL h j with
    |none=>rw[g1,g2]at o;exact o.elim
    |some ys=>
     rw[g1,g2]at o;dsimp only at o;unfold lim at o
     split at o
     ·rename_i hl;obtain⟨vs,e1,r1⟩:=s.ob i _ (dN g1);obtain⟨ws,e2,r2⟩:=s.ob j _ (dN g2);obtain⟨_,rfl⟩:=rx;obtain⟨_,rfl⟩:=ry;exact .inr (.inl ⟨_,_,vs,ws,rfl,rfl,e1,e2,by rw[r1.length,r2.length];exact wJ hl,λp hp=>mX s (r1.append r2) hp o⟩)
     ·exact o.elim
  |_=>exact o.elim
 |tup xs=>
  cases y with
  |tup ys=>
   dsimp only[lZ]at o
   split at o
   ·exact o.elim
   ·rename_i hne;unfold lim at o
    split at o
    ·rename_i hl;obtain⟨a,vs,rfl,e1,r1⟩:=rx;obtain⟨b,ws,rfl,e2,r2⟩:=ry;refine .inr (.inr ⟨a,b,vs,ws,rfl,rfl,Gq e1,Gq e2,?_,by rw[r1.length,r2.length];exact wJ hl,λz=>?_,λ_ p hp=>?_⟩)
     ·intro z;subst z;have:=r1.length
      cases xs<;>simp_all
     ·subst z;have e3:ys=[]:=by have:=r2.length;cases ys<;>simp_all
      subst e3;refine o.val s ?_;rw[nv];exact⟨a,vs,rfl,e1,r1⟩
     ·exact o μ _ _ (Gm (cN hp)) (s.same (cN hp)) ⟨p,_,rfl,cU,Gk (Gm (cN hp)) _ _ (r1.append r2)⟩
    ·exact o.elim
  |_=>exact o.elim
 |_=>exact o.elim
def lA(xs:Bj)(i:Int)(h:Hs):Rs Dv:=match gQ xs i with
 |some d=>.ok d h
 |none=>.bad
def gS(scr:y'):Dv->Dv->Hs->Rs Dv
 |.tup xs,.int i,h=>lA xs i h
 |.ref k,.int i,h=>match getL h k with
  |some xs=>lA xs i h
  |none=>.bad
 |.scr,.int i,h=>lA (scr.map Gh) i h
 |_,_,_=>.bad
theorem rK:∀ns:y',RelDL G μ n H (ns.map Gh) (ns.map Gn)
 |[]=>Gr
 |i::ns=>Gw rfl (rK ns)
theorem E5{E:XK}{μ:Nat->ah}{h:Hs}{H:Hp}{xs:Bj}{vs:Ho}{i:Int}{Q:VK}(s:Bz G μ h H)(r:RelDL G μ h.length H xs vs)(o:Out G E μ h.length H (lA xs i h) (Bq G) Q):∃v,gQ vs i=some v/\Q v H:=by
 unfold lA at o
 cases e:gQ xs i with
 |none=>rw[e]at o;exact o.elim
 |some d=>
  rw[e]at o;unfold gQ at e⊢;rw[r.length]
  cases q:eO xs.length i with
  |none=>rw[q]at e;cases e
  |some j=>rw[q]at e;obtain⟨v,e1,r1⟩:=r.get e;exact⟨v,e1,o.val s r1⟩
def MB:gG G (EK G.K) (gS G.scr):=by
 intro E μ h H x y vx vy Q s rx ry o
 cases y with
 |int i=>
  cases x with
  |tup xs=>obtain⟨a,vs,rfl,e1,r1⟩:=rx;let⟨v,e2,q⟩:=E5 s r1 o;exact .inr (.inl ⟨a,vs,i,v,rfl,ry,Gq e1,e2,q⟩)
  |ref k=>
   dsimp only[gS]at o
   cases g:getL h k with
   |none=>rw[g]at o;exact o.elim
   |some xs=>rw[g]at o;let⟨vs,e1,r1⟩:=s.ob k _ (dN g);obtain⟨_,rfl⟩:=rx;let⟨v,e2,q⟩:=E5 s r1 o;exact .inl ⟨_,vs,i,v,rfl,ry,He e1,e2,q⟩
  |scr=>obtain⟨rfl,hf⟩:=rx;let⟨v,e2,q⟩:=E5 s (rK G.scr) o;exact .inl ⟨_,_,i,v,rfl,ry,hf.sq,e2,q⟩
  |_=>exact o.elim
 |_=>cases x<;>exact o.elim
def YV(ha:aJ X G E a ma)(hb:aJ X G E b mb)(hs:EI b:=by intro _ _;rfl):aJ X G E (.Subscript a b pos) (m2 (gS G.scr) ma mb):=λhK=>Gp (K1 (by have:=K6 (X:=X);rw[hK]at this;exact this) (ha hK) (hb hK) hs) λ_ _ _ t=>wL MB t
def zV:dz "tuple"=some (.type "tuple"):=by decide+kernel
def zW:dz "list"=some (.type "list"):=by decide+kernel
def YW:dz "max"=some (.builtin "max"):=by decide+kernel
def YX:dz "min"=some (.builtin "min"):=by decide+kernel
variable{E:XK}{aT:M Bj}{e:bq}{es:List bq}{x:Str}{p pos:Pos}{id T:String}
def rM(G:Cfg)(r:Ho->Hp->VK->Prop)(f:Bi):Prop:=∀(E:XK)(μ:Nat->ah)(h:Hs)(H:Hp)(xs:Bj)(vs:Ho)(Q:VK),Bz G μ h H->RelDL G μ h.length H xs vs->Out G E μ h.length H (f xs h) (Bq G) Q->r vs H Q
def aD(f:Bi)(ms:M Bj ):M Dv:=λρ h=>(ms ρ h).bind f
theorem MD{r:Ho->Hp->VK->Prop}{f:Bi}(hd:rM G r f){σ:St}{H:Hp}{Q:VK}(t:jC G E (aD f aT) σ H Q):zF r (EY G E aT) σ H Q:=by obtain⟨μ,ρ,h,rs,s,o⟩:=t;exact lY rs s o λμ1 ds h1 vs H1 x1 Cc s1 r1 o1=>hd E μ1 h1 H1 ds vs Q s1 r1 o1
def tZ(hc:Bx X (.builtin id) r)(hd:rM G r f)(hg:Gl X x)(hm:X.mg x=none)(hv:dz x=some (.builtin id))(ha:eC X G E (e::es) aT)(hn:x≠"__name__":=by decide)(Dw:(x==Hn)=false:=by decide)(he:ay (e::es) X.env=(false,eval e X.env)::ay es X.env:=by rfl)(Df:(backTo pos (ay es X.env)).any (·.1)=false:=by rfl):aJ X G E (.Call (.Name x p) (e::es) [] pos) (aD f aT):=λhK=>
 Gp (tK hc hg hm hv (ha hK) hn Dw he Df) λ_ _ _ t=>MD hd t
def ME(hc:Bx X (.type T) r)(hd:rM G r f)(hg:Gl X x)(hm:X.mg x=none)(hv:dz x=some (.type T))(ha:eC X G E (e::es) aT)(hn:x≠"__name__":=by decide)(Dw:(x==Hn)=false:=by decide)(he:ay (e::es) X.env=(false,eval e X.env)::ay es X.env:=by rfl)(Df:(backTo pos (ay es X.env)).any (·.1)=false:=by rfl):aJ X G E (.Call (.Name x p) (e::es) [] pos) (aD f aT):=λhK=>
 Gp (tL hc hg hm hv (ha hK) hn Dw he Df) λ_ _ _ t=>MD hd t
def gK(scr:y'):Dv->Hs->Option Bj 
 |.tup xs,_=>some xs
 |.ref i,h=>getL h i
 |.scr,_=>some (scr.map Gh)
 |_,_=>none
def f1(g:Dv->Hs->Rs Dv):Bi
 |[d],h=>g d h
 |_,_=>.bad
def jK(scr:y')(d:Dv)(h:Hs):Rs Dv:=match gK scr d h with
 |some xs=>.ok (.int xs.length) h
 |none=>.bad
def uA(r:RelDL G μ n H [d] vs):∃v,vs=[v]/\Bq G μ n H d v:=by rw[RelDL]at r;obtain⟨v,rr,rfl,h1,h2⟩:=r;rw[RelDL]at h2;subst h2;exact⟨v,rfl,h1⟩
def uB{r:V->Hp->VK->Prop}(hg:kY G r g):rM G (λxs H Q=>∃v,xs=[v]/\r v H Q) (f1 g):=by
 intro E μ h H xs vs Q s rr o
 match xs,rr,o with
 |[],_,o=>exact o.elim
 |_::_::_,_,o=>exact o.elim
 |[d],rr,o=>obtain⟨v,rfl,r1⟩:=uA rr;exact⟨v,rfl,hg E μ h H d v Q s r1 o⟩
def zX(r:RelDL G μ n H [d,d'] vs):∃v v',vs=[v,v']/\Bq G μ n H d v/\Bq G μ n H d' v':=by rw[RelDL]at r;obtain⟨v,rr,rfl,h1,h2⟩:=r;obtain⟨v',rfl,h3⟩:=uA h2;exact⟨v,v',rfl,h1,h3⟩
def E6{v:V}(s:Bz G μ h H)(r:Bq G μ h.length H d v)(e:gK G.scr d h=some xs):∃a vs,v=.ref a/\(Cu G.K H a vs∨Cd G.K H a vs)/\RelDL G μ h.length H xs vs:=by
 cases d with
 |tup ds=>cases e;obtain⟨a,vs,rfl,e1,r1⟩:=r;exact⟨a,vs,rfl,.inr (Gq e1),r1⟩
 |ref i=>obtain⟨_,rfl⟩:=r;let⟨vs,e1,r1⟩:=s.ob i _ (dN e);exact⟨_,vs,rfl,.inl (He e1),r1⟩
 |scr=>cases e;obtain⟨rfl,hf⟩:=r;exact⟨_,_,rfl,.inl hf.sq,rK _⟩
 |_=>cases e
def MF(K:ar):V->Hp->VK->Prop:=λx H Q=>∃p ys,x=.ref p/\(Cu K H p ys∨Cd K H p ys)/\Q (.int ys.length) H
def MG:kY G (MF G.K) (jK G.scr):=by
 intro E μ h H d v Q s r1 o;unfold jK at o
 cases e:gK G.scr d h with
 |none=>rw[e]at o;exact o.elim
 |some ys=>rw[e]at o;obtain⟨a,ws,rfl,hs,r2⟩:=E6 s r1 e;exact⟨a,ws,rfl,hs,by rw[r2.length];exact o.val s rfl⟩
def Bx.imp{r r':Ho->Hp->VK->Prop}(h:Bx X f r)(i:∀xs H Q,r' xs H Q->r xs H Q):Bx X f r':=λpins s σ H xs us Q I rv q=>h pins s σ H xs us Q I rv (i xs H Q q)
def MH(hg:Gl X "len")(hm:X.mg "len"=none)(ha:eC X G E (e::es) aT)(he:ay (e::es) X.env=(false,eval e X.env)::ay es X.env:=by rfl)(Df:(backTo pos (ay es X.env)).any (·.1)=false:=by rfl):aJ X G E (.Call (.Name "len" p) (e::es) [] pos) (aD (f1 (jK G.scr)) aT):=λhK=>
 tZ (Bx.imp (K7 (X:=X)) λxs H Q⟨v,h1,a,ys,h2,h3,h4⟩=>⟨a,ys,by rw[h1,h2],by rw[hK];exact h3,h4⟩) (uB MG) hg hm yn ha (by decide) (by decide) he Df hK
def oP:Bi
 |[.int i,.int j],h=>.ok (.int (if j>i then j else i)) h
 |_,_=>.bad
def uC:Bi
 |[.int i,.int j],h=>.ok (.int (if j<i then j else i)) h
 |_,_=>.bad
theorem MI{f:Bi}{g:Int->Int->Int}(h2:∀i j h,f [.int i,.int j] h=.ok (.int (g i j)) h)(hb:∀xs h,(∀i j,xs≠[.int i,.int j])->f xs h=.bad):
  rM G (λxs H Q=>∃i j,xs=[.int i,.int j]/\Q (.int (g i j)) H) f:=by
 intro E μ h H xs vs Q s r o
 by_cases hx:∃i j,xs=[.int i,.int j]
 ·obtain⟨i,j,rfl⟩:=hx;obtain⟨v,v',rfl,r1,r2⟩:=zX r;rw[Bq]at r1 r2;subst r1;subst r2;rw[h2]at o;exact⟨i,j,rfl,o.val s rfl⟩
 ·rw[hb xs h (λi j e=>hx ⟨i,j,e⟩)]at o;exact o.elim
def YY:rM G (λxs H Q=>∃i j,xs=[.int i,.int j]/\Q (.int (if j>i then j else i)) H) oP:=MI (λ_ _ _=>rfl) λxs h hx=>by
 unfold oP;split
 ·rename_i i j;exact absurd rfl (hx i j)
 ·rfl
def YZ:rM G (λxs H Q=>∃i j,xs=[.int i,.int j]/\Q (.int (if j<i then j else i)) H) uC:=MI (λ_ _ _=>rfl) λxs h hx=>by
 unfold uC;split
 ·rename_i i j;exact absurd rfl (hx i j)
 ·rfl
def dS:Dv->Hs->Rs Dv
 |.tup xs,h=>.ok (.tup xs) h
 |.ref i,h=>match getL h i with
  |some xs=>.ok (.tup xs) h
  |none=>.bad
 |_,_=>.bad
def Y0(K:ar):V->Hp->VK->Prop:=λx H Q=>∃p ys,x=.ref p/\((Cu K H p ys/\∀l,H l=none->Q (.ref l) (upd H l (.tup ys)))∨(Cd K H p ys/\Q (.ref p) H))
theorem Y1:kY G (Y0 G.K) dS:=by
 intro E μ h H d v Q s r1 o
 cases d with
 |tup ds=>have r1':=r1;obtain⟨a,ws,rfl,e1,r2⟩:=r1;exact⟨a,ws,rfl,.inr ⟨Gq e1,o.val s r1'⟩⟩
 |ref i=>
  dsimp only[dS]at o
  cases g:getL h i with
  |none=>rw[g]at o;exact o.elim
  |some ys=>rw[g]at o;obtain⟨_,rfl⟩:=r1;obtain⟨ws,e1,r2⟩:=s.ob i _ (dN g);exact⟨_,ws,rfl,.inl ⟨He e1,λl hl=>o μ _ _ (Gm (cN hl)) (s.same (cN hl)) ⟨l,ws,rfl,cU,Gk (Gm (cN hl)) _ _ r2⟩⟩⟩
 |_=>exact o.elim
def pU(hg:Gl X "tuple")(hm:X.mg "tuple"=none)(ha:eC X G E (e::es) aT)(he:ay (e::es) X.env=(false,eval e X.env)::ay es X.env:=by rfl)(Df:(backTo pos (ay es X.env)).any (·.1)=false:=by rfl):aJ X G E (.Call (.Name "tuple" p) (e::es) [] pos) (aD (f1 dS) aT):=λhK=>
 ME (Bx.imp (K8 (X:=X)) λxs H Q⟨v,h1,a,ys,h2,h3⟩=>⟨a,ys,by rw[h1,h2],by rw[hK];exact h3⟩) (uB Y1) hg hm zV ha (by decide) (by decide) he Df hK
def rN(scr:y')(d:Dv)(h:Hs):Rs Dv:=match gK scr d h with
 |some xs=>.ok (.ref h.length) (h++[.lst xs])
 |none=>.bad
def Y2:kY G (λx H Q=>∃p ys,x=.ref p/\(Cu G.K H p ys∨Cd G.K H p ys)/\∀l,H l=none->Q (.ref l) (upd H l (.lst ys))) (rN G.scr):=by
 intro E μ h H d v Q s r1 o;unfold rN at o
 cases e:gK G.scr d h with
 |none=>rw[e]at o;exact o.elim
 |some ys=>rw[e]at o;obtain⟨a,ws,rfl,hs,r2⟩:=E6 s r1 e;exact⟨a,ws,rfl,hs,λl hl=>mX s r2 hl o⟩
def MJ(hc:X.calm=true)(hg:Gl X "max")(hm:X.mg "max"=none)(ha:eC X G E (e::es) aT)(he:ay (e::es) X.env=(false,eval e X.env)::ay es X.env:=by rfl)(Df:(backTo pos (ay es X.env)).any (·.1)=false:=by rfl):aJ X G E (.Call (.Name "max" p) (e::es) [] pos) (aD oP aT):=
 tZ (WQ hc) YY hg hm YW ha (by decide) (by decide) he Df
def Y3(hc:X.calm=true)(hg:Gl X "min")(hm:X.mg "min"=none)(ha:eC X G E (e::es) aT)(he:ay (e::es) X.env=(false,eval e X.env)::ay es X.env:=by rfl)(Df:(backTo pos (ay es X.env)).any (·.1)=false:=by rfl):aJ X G E (.Call (.Name "min" p) (e::es) [] pos) (aD uC aT):=
 tZ (WR hc) YZ hg hm YX ha (by decide) (by decide) he Df
end
inductive Sr where
 |nx (ρ:Ev) (h:Hs)|rt (d:Dv) (h:Hs)|bk (ρ:Ev) (h:Hs)|ct (ρ:Ev) (h:Hs)|ex (c:Nat) (h:Hs)|bad
abbrev MS:=Ev->Hs->Sr
def Cr(G:Cfg)(E:XK)(μ:Nat->ah)(n:Nat)(H:Hp)(r:Sr)(D:Ends):Prop:=match r with
 |.nx ρ h'=>∀μ' H' σ',Ext μ n H μ' h'.length H'->Bz G μ' h' H'->Bw G μ' h'.length H' ρ σ'->D.nx σ' H'
 |.bk ρ h'=>∀μ' H' σ',Ext μ n H μ' h'.length H'->Bz G μ' h' H'->Bw G μ' h'.length H' ρ σ'->D.bk σ' H'
 |.ct ρ h'=>∀μ' H' σ',Ext μ n H μ' h'.length H'->Bz G μ' h' H'->Bw G μ' h'.length H' ρ σ'->D.ct σ' H'
 |.rt d h'=>∀μ' H' v,Ext μ n H μ' h'.length H'->Bz G μ' h' H'->Bq G μ' h'.length H' d v->D.rt v H'
 |.ex c h'=>∀μ' H' u,Ext μ n H μ' h'.length H'->Bz G μ' h' H'->zP G H' c u->E u none H'
 |.bad=>False
def Cr.ext(o:Cr G E μ n H r D)(x:Ext μ n H μ1 n1 H1):Cr G E μ1 n1 H1 r D:=by
 cases r with
 |nx ρ h'=>exact λμ' H' σ' y=>o μ' H' σ' (x.trans y)
 |bk ρ h'=>exact λμ' H' σ' y=>o μ' H' σ' (x.trans y)
 |ct ρ h'=>exact λμ' H' σ' y=>o μ' H' σ' (x.trans y)
 |rt d h'=>exact λμ' H' σ' y=>o μ' H' σ' (x.trans y)
 |ex c h'=>exact λμ' H' σ' y=>o μ' H' σ' (x.trans y)
 |bad=>exact o
def zY(G:Cfg)(E:XK)(m:MS):TS:=λD σ H=>∃μ ρ h,Bw G μ h.length H ρ σ/\Bz G μ h H/\Cr G E μ h.length H (m ρ h) D
def iK(X:Cx)(G:Cfg)(E:XK)(st:gw)(m:MS):Prop:=X.K=G.K->PS X st (zY G E m)
def kL(X:Cx)(G:Cfg)(E:XK)(st:List gw)(m:MS):Prop:=X.K=G.K->Gf X st (zY G E m)
def PS.imp{t t':TS}(h:PS X e t)(i:∀D σ H,t' D σ H->t D σ H):PS X e t':=λpins s σ H D I q=>h pins s σ H D I (i D σ H q)
def Gf.imp{t t':TS}(h:Gf X e t)(i:∀D σ H,t' D σ H->t D σ H):Gf X e t':=λpins s σ H D I q=>h pins s σ H D I (i D σ H q)
noncomputable def Rs.thenS {α:Type}(r:Rs α) (f:α->Hs->Sr):Sr:=match r with
 |.ok a h=>f a h
 |.ex c h=>.ex c h
 |.bad=>.bad
@[simp] theorem Rs.thenS_ok {α:Type}(a:α) (h:Hs) (f:α->Hs->Sr):(Gz a h).thenS f=f a h:=rfl
@[simp] theorem Rs.thenS_ex {α:Type}(c:Nat) (h:Hs) (f:α->Hs->Sr):(Rs.ex c h).thenS f=.ex c h:=rfl
@[simp] theorem Rs.thenS_bad {α:Type}(f:α->Hs->Sr):(Rs.bad).thenS f=.bad:=rfl
def Cr.thenS{α β:Type}{r:Rs α}{f:α->Hs->Sr}{R:(Nat->ah)->Nat->Hp->α->β->Prop}(o:Cr G E μ n H (r.thenS f) D):Out G E μ n H r R λv H1=>∃μ1 d h1,Ext μ n H μ1 h1.length H1/\Bz G μ1 h1 H1/\R μ1 h1.length H1 d v/\Cr G E μ1 h1.length H1 (f d h1) D:=by
 cases r with
 |bad=>exact o
 |ex c h'=>exact o
 |ok d h'=>exact λμ1 H1 v x1 s1 r1=>⟨μ1,d,h',x1,s1,r1,Cr.ext o x1⟩
variable{X:Cx}{G:Cfg}{E:XK}
section
variable{st:gw}{rest:List gw}{m u:MS}{e:bq}{me:M Dv}{pos:Pos}
theorem jY{m:M Dv}{σ:St}{H:Hp}{f:Dv->Hs->Sr}{D:Ends}{Q1:V->Hp->Prop}{μ:Nat->ah}{ρ:Ev}{h:Hs}(rs:Bw G μ h.length H ρ σ)(s:Bz G μ h H)(o:Cr G E μ h.length H ((m ρ h).thenS f) D)(k:∀μ1 d h1 v H1,Ext μ h.length H μ1 h1.length H1->Bw G μ1 h1.length H1 ρ σ->Bz G μ1 h1 H1->Bq G μ1 h1.length H1 d v->Cr G E μ1 h1.length H1 (f d h1) D->Q1 v H1):jC G E m σ H Q1:=
 ⟨μ,ρ,h,rs,s,(o.thenS (R:=Bq G)).mono λv H1⟨μ1,d,h1,x,s1,r1,o1⟩=>k μ1 d h1 v H1 x (rs.mono x) s1 r1 o1⟩
theorem MK{m:M Bool}{σ:St}{H:Hp}{f:Bool->Hs->Sr}{D:Ends}{Q1:Bool->Hp->Prop}{μ:Nat->ah}{ρ:Ev}{h:Hs}(rs:Bw G μ h.length H ρ σ)(s:Bz G μ h H)(o:Cr G E μ h.length H ((m ρ h).thenS f) D)(k:∀μ1 b h1 H1,Ext μ h.length H μ1 h1.length H1->Bw G μ1 h1.length H1 ρ σ->Bz G μ1 h1 H1->Cr G E μ1 h1.length H1 (f b h1) D->Q1 b H1):jJ G E m σ H Q1:=
 ⟨μ,ρ,h,rs,s,(o.thenS (R:=RB)).mono λv H1⟨μ1,d,h1,x,s1,r1,o1⟩=>by have e:v=d:=r1;subst e;exact k μ1 v h1 H1 x (rs.mono x) s1 o1⟩
def bW:MS:=λρ h=>.nx ρ h
def aI(m u:MS):MS:=λρ h=>match m ρ h with
 |.nx ρ1 h1=>u ρ1 h1
 |r=>r
def eI:kL X G E [] bW:=λ_=>Gf.imp VB λD σ H⟨μ,ρ,h,rs,s,o⟩=>o μ H σ Gs s rs
def aW(h1:iK X G E st m)(h2:kL X G E rest u):kL X G E (st::rest) (aI m u):=λhK=>Gf.imp (VC (h1 hK) (h2 hK)) λD σ H⟨μ,ρ,h,rs,s,o⟩=>by
 refine⟨μ,ρ,h,rs,s,?_⟩;unfold aI at o
 cases q:m ρ h with
 |nx ρ1 h1=>rw[q]at o;exact λμ1 H1 σ1 x1 s1 Cc=>⟨μ1,ρ1,h1,Cc,s1,Cr.ext o x1⟩
 |bk ρ1 h1=>rw[q]at o;exact o
 |ct ρ1 h1=>rw[q]at o;exact o
 |rt ρ1 h1=>rw[q]at o;exact o
 |ex ρ1 h1=>rw[q]at o;exact o
 |bad=>rw[q]at o;exact o
def bH(h1:iK X G E st m):kL X G E [st] m:=λhK=>JY (h1 hK)
def bN(me:M Dv):MS:=λρ h=>(me ρ h).thenS λ_ h1=>.nx ρ h1
def iM(he:aJ X G E e me)(hs:swapsWith e none pos.line X.env=pure false:=by rfl):iK X G E (.Expr e pos) (bN me):=λhK=>PS.imp (VE (he hK) hs) λD σ H⟨μ,ρ,h,rs,s,o⟩=>jY rs s o λμ1 d h1 v H1 x1 Cc s1 r1 o1=>o1 μ1 H1 σ Gs s1 Cc
def aO(me:M Dv):MS:=λρ h=>(me ρ h).thenS λd h1=>.rt d h1
def cB(he:aJ X G E e me):iK X G E (.Return (some e) pos) (aO me):=λhK=>PS.imp (VG (he hK)) λD σ H⟨μ,ρ,h,rs,s,o⟩=>jY rs s o λμ1 d h1 v H1 x1 Cc s1 r1 o1=>o1 μ1 H1 v Gs s1 r1
def bK(c:M Bool)(t u:MS):MS:=λρ h=>(c ρ h).thenS λb h1=>if b=true then t ρ h1 else u ρ h1
def eE(hc:hZ X G E c mc)(ha:kL X G E a m)(hb:kL X G E b u):iK X G E (.If c a b pos) (bK mc m u):=λhK=>PS.imp (VI (hc hK) (ha hK) (hb hK)) λD σ H⟨μ,ρ,h,rs,s,o⟩=>
 MK rs s o λμ1 k h1 H1 x1 Cc s1 o1=>by
  cases k with
  |true=>rw[if_pos rfl]at o1⊢;exact⟨μ1,ρ,h1,Cc,s1,o1⟩
  |false=>rw[if_neg (by decide)]at o1⊢;exact⟨μ1,ρ,h1,Cc,s1,o1⟩
def Bw.set{v:V}(rs:Bw G μ n H ρ σ)(i:Nat)(r:Bq G μ n H d v):Bw G μ n H (ρ.set i (some d)) (σ.set i (some v)):=⟨by rw[mm,mm];exact rs.len,λj d' e=>by
 have hl:=rs.len
 by_cases Dg:i=j
 ·subst Dg;have hi:i<ρ.length:=by have:=(bf.mp e).1;simpa using this
  rw[fe hi]at e;cases e;exact⟨v,fe (by lia),r⟩
 ·rw[fj Dg]at e⊢;exact rs.at_ j d' e⟩
abbrev dG:=Dv->Ev->Option Ev
def uD(G:Cfg)(st:dG):TG:=λv σ H Q=>∃μ ρ h d ρ',Bw G μ h H ρ σ/\Bq G μ h H d v/\st d ρ=some ρ'/\∀σ',Bw G μ h H ρ' σ'->Q σ' H
def jZ(X:Cx)(G:Cfg)(tg:bq)(st:dG):Prop:=X.K=G.K->PG X tg (uD G st)
def PG.imp{t t':TG}(h:PG X tg t)(i:∀v σ H Q,t' v σ H Q->t v σ H Q):PG X tg t':=λpins s σ H v u Q I r q=>h pins s σ H v u Q I r (i v σ H Q q)
def PGs.imp{t t':oM}(h:PGs X tg t)(i:∀v σ H Q,t' v σ H Q->t v σ H Q):PGs X tg t':=λpins s σ H v u Q I r q=>h pins s σ H v u Q I r (i v σ H Q q)
def aF(i:Nat):dG:=λd ρ=>some (ρ.set i (some d))
def Y4(hN:X.N.Nodup)(hi:X.N[i]?=some x)(hx:mV X.env.scope x)(hf:X.fn x=true∨X.env.scope.names.lookup x=some .local:=by first|exact .inl rfl|exact .inr rfl|assumption):jZ X G (.Name x pos) (aF i):=λ_=>PG.imp (VJ hN hi hx hf) λv σ H Q⟨μ,ρ,h,d,ρ',rs,r,e,k⟩=>by cases e;exact k _ (rs.set i r)
abbrev pV:=Bj->Ev->Option Ev
def Y5(G:Cfg)(st:pV):oM:=λvs σ H Q=>∃μ ρ h ds ρ',Bw G μ h H ρ σ/\RelDL G μ h H ds vs/\st ds ρ=some ρ'/\∀σ',Bw G μ h H ρ' σ'->Q σ' H
def zZ(X:Cx)(G:Cfg)(tg:List bq)(st:pV):Prop:=X.K=G.K->PGs X tg (Y5 G st)
def cE:pV:=λds ρ=>match ds with
 |[]=>some ρ
 |_=>none
def aV(s:dG)(t:pV):pV:=λds ρ=>match ds with
 |d::r=>match s d ρ with
  |some ρ1=>t r ρ1
  |none=>none
 |[]=>none
def gU:zZ X G [] cE:=λ_=>PGs.imp J0 λvs σ H Q⟨μ,ρ,h,ds,ρ',rs,r,e,k⟩=>by
 cases ds with
 |nil=>cases e;rw[RelDL]at r;subst r;exact⟨rfl,k _ rs⟩
 |cons d r=>cases e
def cV(h1:jZ X G tg s)(h2:zZ X G tgs t)(hs:(assignEach (tg::tgs) X.env).map (·.2)=assign tg X.env::(assignEach tgs X.env).map (·.2):=by rfl):zZ X G (tg::tgs) (aV s t):=λhK=>PGs.imp (DU (h1 hK) (h2 hK) hs) λvs σ H Q⟨μ,ρ,h,ds,ρ',rs,r,e,k⟩=>by
 cases ds with
 |nil=>cases e
 |cons d ds=>
  rw[RelDL]at r;obtain⟨v,rr,rfl,r1,r2⟩:=r;unfold aV at e;dsimp only at e
  cases q:s d ρ with
  |none=>rw[q]at e;cases e
  |some ρ1=>rw[q]at e;exact⟨v,rr,rfl,μ,ρ,h,d,ρ1,rs,r1,q,λσ1 Cc=>⟨μ,ρ1,h,ds,ρ',Cc,r2,e,k⟩⟩
def cC(n:Nat)(t:pV):dG:=λd ρ=>match d with
 |.tup ds=>if ds.length=n then t ds ρ else none
 |_=>none
def gW(hc:X.calm=true)(h:zZ X G tgs t)(hn:(assignEach tgs X.env).length=n:=by rfl)(F':(assignEach tgs X.env).findIdx? (·.1)=none:=by rfl):jZ X G (.Tuple tgs k pos) (cC n t):=λhK=>
 PG.imp (J1 hc (h hK) hn F') λv σ H Q⟨μ,ρ,hh,d,ρ',rs,r,e,kk⟩=>by
  cases d with
  |tup ds=>
   dsimp only[cC]at e
   split at e
   ·rename_i hl;obtain⟨a,vs,rfl,e1,r1⟩:=r;exact⟨a,vs,rfl,Gq e1,by rw[r1.length];exact hl,μ,ρ,hh,ds,ρ',rs,r1,e,kk⟩
   ·cases e
  |_=>cases e
def aM(me:M Dv)(st:dG):MS:=λρ h=>(me ρ h).thenS λd h1=>match st d ρ with
 |some ρ1=>.nx ρ1 h1
 |none=>.bad
def Y6{st:dG}(t:zY G E (aM me st) D σ H):zB (jC G E me) (uD G st) D σ H:=by
 let⟨μ,ρ,h,rs,s,o⟩:=t;refine jY rs s o λμ1 d h1 v H1 x1 Cc s1 r1 o1=>?_
 cases q:st d ρ with
 |none=>rw[q]at o1;exact o1.elim
 |some ρ1=>rw[q]at o1;exact⟨μ1,ρ,h1.length,d,ρ1,Cc,r1,q,λσ' rs'=>o1 μ1 H1 σ' Gs s1 rs'⟩
def rO{st:dG}(he:aJ X G E e me)(hg:jZ X G tg st)(hs:swapsWithSole [tg] e pos.line X.env=pure false:=by rfl)(hw:swappedStores [tg] e X.env=pure none:=by rfl)(h1:(assignEach [tg] X.env).map (·.2)=[assign tg X.env]:=by rfl):iK X G E (.Assign [tg] e pos) (aM me st):=λhK=>PS.imp (DW (he hK) (hg hK) hs hw h1) λ_ _ _ t=>Y6 t
def E7(hN:X.N.Nodup)(hi:X.N[i]?=some x)(hx:mV X.env.scope x)(he:aJ X G E e me)(hs:swapsWith e (some (.Name x pos')) pos.line X.env=pure false:=by rfl)(hf:X.fn x=true∨X.env.scope.names.lookup x=some .local:=by first|exact .inl rfl|exact .inr rfl|assumption):
  iK X G E (.Assign [.Name x pos'] e pos) (aM me (aF i)):=λhK=>PS.imp (DX hN hi hx (he hK) hs hf) λD σ H t=>by
 let⟨μ,ρ,h,rs,s,o⟩:=t;exact jY rs s o λμ1 d h1 v H1 x1 Cc s1 r1 o1=>o1 μ1 H1 _ Gs s1 (Cc.set i r1)
end
structure Src where
 n:Nat
 get:Nat->Hs->Bk
 fin:Hs->Bool
def Dj(G:Cfg)(μ0:Nat->ah)(n0:Nat)(H0:Hp)(src:Src)(J:It):Prop:=
 ∀(k:Nat)(μ:Nat->ah)(h:Hs)(H:Hp),Ext μ0 n0 H0 μ h.length H->Bz G μ h H->
  (k<src.n->∀d,src.get k h=some d->J.go k H/\∀x H',J.yld k H x H'->Di H H'/\Bq G μ h.length H' d x)/\(k=src.n->src.fin h=true->J.stop k H)
def E8(G:Cfg)(E:XK)(m:M Src):TI:=λσ H R=>∃μ ρ h,Bw G μ h.length H ρ σ/\Bz G μ h H/\Out G E μ h.length H (m ρ h) (Dj G) R
def kA(X:Cx)(G:Cfg)(E:XK)(tg iter:bq)(m:M Src):Prop:=X.K=G.K->PI X tg iter (E8 G E m)
def PI.imp{tg iter:bq}{t t':TI}(h:PI X tg iter t)(i:∀σ H R,t' σ H R->t σ H R):PI X tg iter t':=λpins s σ H R I q=>h pins s σ H R I (i σ H R q)
def cG(xs:Bj):Src:=⟨xs.length,λk _=>xs[k]?,λ_=>true⟩
def eJ(i n:Nat):Src:=⟨n,λk h=>match getL h i with
 |some xs=>if xs.length=n then xs[k]? else none
 |none=>none,λh=>match getL h i with
 |some xs=>xs.length==n
 |none=>false⟩
def cX(lo hi:Int):Src:=⟨(hi-lo).toNat,λk _=>some (.int (lo+k)),λ_=>true⟩
def bP(f:Dv->Hs->Rs Src)(m:M Dv):M Src:=λρ h=>(m ρ h).bind f
section
variable{tg e a b:bq}{me ma mb:M Dv}{pos p:Pos}
def dX:Dv->Hs->Rs Src
 |.ref i,h=>match getL h i with
  |some xs=>.ok (eJ i xs.length) h
  |none=>.bad
 |_,_=>.bad
def dH:Dv->Hs->Rs Src
 |.tup xs,h=>.ok (cG xs) h
 |_,_=>.bad
theorem uE(he:aJ X G E e me):kA X G E tg e (bP dX me):=λhK=>PI.imp (VY (he hK)) λσ H R⟨μ,ρ,h,rs,s,o⟩=>eZ rs s o λμ1 x h1 vx H1 x1 Cc s1 r1 o1=>by
 rw[hK]
 cases x with
 |ref i=>
  obtain⟨hi,rfl⟩:=r1;dsimp only[dX]at o1
  cases g:getL h1 i with
  |none=>rw[g]at o1;exact o1.elim
  |some xs=>
   rw[g]at o1;obtain⟨vs,e1,r2⟩:=s1.ob i _ (dN g);refine⟨_,rfl,⟨vs,He e1⟩,o1.val s1 λk μ2 h2 H2 x2 s2=>?_⟩;have emu:=x2.mu i hi;constructor
   ·intro hk d hd;dsimp only[eJ]at hd
    cases g2:getL h2 i with
    |none=>rw[g2]at hd;cases hd
    |some ys=>
     rw[g2]at hd;dsimp only at hd
     split at hd
     ·obtain⟨ws,e2,r3⟩:=s2.ob i _ (dN g2);rw[emu]at e2;obtain⟨v,ev,rv⟩:=r3.get hd;refine⟨⟨ws,v,He e2,ev⟩,λx H' hy=>?_⟩;obtain⟨rfl,hy⟩:=hy;have:=hy ws (He e2);rw[ev]at this;cases this;exact⟨Di.refl _,rv⟩
     ·cases hd
   ·intro hk hf;dsimp only[eJ]at hf
    cases g2:getL h2 i with
    |none=>rw[g2]at hf;cases hf
    |some ys=>
     rw[g2]at hf;obtain⟨ws,e2,r3⟩:=s2.ob i _ (dN g2);rw[emu]at e2;refine⟨ws,He e2,?_⟩;have h3:ys.length=xs.length:=by simpa using hf
     rw[r3.length,h3,hk];exact aq _
 |_=>exact o1.elim
theorem Dj.tup{μ:Nat->ah}{n:Nat}{H:Hp}{a:ah}{vs:Ho}{xs:Bj}{K:ar}(e:H a=some (.tup vs))(r:RelDL G μ n H xs vs)(hi:∀(X:Cx),True):Dj G μ n H (cG xs) (DZ K a):=by
 intro k μ2 h2 H2 x2 s2;have e2:=x2.im a (.tup vs) trivial e;have r2:=Gk x2 _ _ r;have inj:∀ws,Cd K H2 a ws->ws=vs->True:=λ_ _ _=>trivial;constructor
 ·intro hk d hd;obtain⟨v,ev,rv⟩:=r2.get hd;refine⟨⟨vs,v,Gq e2,ev⟩,λx H' hy=>?_⟩;obtain⟨rfl,hy⟩:=hy;have:=hy vs (Gq e2);rw[ev]at this;cases this;exact⟨Di.refl _,rv⟩
 ·intro hk _;exact⟨vs,Gq e2,by rw[r2.length,hk];exact aq _⟩
def kM(he:aJ X G E e me):kA X G E tg e (bP dH me):=λhK=>PI.imp (VZ (he hK)) λσ H R⟨μ,ρ,h,rs,s,o⟩=>eZ rs s o λμ1 x h1 vx H1 x1 Cc s1 r1 o1=>by
 cases x with
 |tup xs=>obtain⟨a,vs,rfl,e1,r2⟩:=r1;exact⟨a,rfl,⟨vs,Gq e1⟩,o1.val s1 (Dj.tup e1 r2 λ_=>trivial)⟩
 |_=>exact o1.elim
def jL(i:Int):Bool:=decide (-4611686018427387904<=i)&&decide (i<4611686018427387904)
def dI:Bj->Hs->Rs Src
 |[.int j],h=>if jL j=true then .ok (cX 0 j) h else .bad
 |_,_=>.bad
def lB:Bj->Hs->Rs Src
 |[.int i,.int j],h=>if jL i=true/\jL j=true then .ok (cX i j) h else .bad
 |_,_=>.bad
def aT(f:Bj->Hs->Rs Src)(ms:M Bj ):M Src:=λρ h=>(ms ρ h).bind f
def Dj.rng(lo hi:Int):Dj G μ n H (cX lo hi) (vZ lo (hi-lo).toNat):=by
 intro k μ2 h2 H2 x2 s2;constructor
 ·intro hk d hd;cases hd;exact⟨hk,λx H' hy=>by obtain⟨rfl,rfl⟩:=hy;exact⟨Di.refl _,rfl⟩⟩
 ·intro hk _;exact rf hk.symm
variable{ms:M Bj}
theorem mZ(hg:Gl X "range")(hm:X.mg "range"=none)(ha:eC X G E [a] ms)(hs:ay [a] X.env=[(false,eval a X.env)]:=by rfl):kA X G E tg (.Call (.Name "range" p) [a] [] pos) (aT dI ms):=λhK=>
 PI.imp (V2 hg hm (ha hK) hs) λσ H R⟨μ,ρ,h,rs,s,o⟩=>lY rs s o λμ1 ds h1 vs H1 x1 Cc s1 r1 o1=>by
  unfold dI at o1
  split at o1
  ·rename_i j
   split at o1
   ·rename_i hj;obtain⟨v,rfl,rv⟩:=uA r1;rw[Bq]at rv;subst rv;simp only[jL,cq,decide_eq_true_eq]at hj;refine⟨j,rfl,by lia,by lia,?_⟩;have:=o1.val s1 (Dj.rng (G:=G) (μ:=μ1) (n:=h1.length) (H:=H1) 0 j);rw[Int.sub_zero]at this;exact this
   ·exact o1.elim
  ·exact o1.elim
theorem ML(hg:Gl X "range")(hm:X.mg "range"=none)(ha:eC X G E [a,b] ms)(hs:ay [a,b] X.env=[(false,eval a X.env),(false,eval b X.env)]:=by rfl)(hs2:ay [b] X.env=[(false,eval b X.env)]:=by rfl):kA X G E tg (.Call (.Name "range" p) [a,b] [] pos) (aT lB ms):=λhK=>
 PI.imp (V3 hg hm (ha hK) hs hs2) λσ H R⟨μ,ρ,h,rs,s,o⟩=>lY rs s o λμ1 ds h1 vs H1 x1 Cc s1 r1 o1=>by
  unfold lB at o1
  split at o1
  ·rename_i i j
   split at o1
   ·rename_i hj;obtain⟨v,v',rfl,rv,rv'⟩:=zX r1;rw[Bq]at rv rv';subst rv;subst rv';simp only[jL,cq,decide_eq_true_eq]at hj;exact⟨i,j,rfl,⟨by lia,by lia,by lia,by lia⟩,o1.val s1 (Dj.rng (G:=G) (μ:=μ1) (n:=h1.length) (H:=H1) i j)⟩
   ·exact o1.elim
  ·exact o1.elim
end
def jD(src:Src)(st:dG)(body:MS):Nat->Nat->MS
 |0,_=>λρ h=>if src.fin h=true then .nx ρ h else .bad
 |f+1,k=>λρ h=>match src.get k h with
  |none=>.bad
  |some d=>match st d ρ with
   |none=>.bad
   |some ρ1=>match body ρ1 h with
    |.nx ρ2 h2=>jD src st body f (k+1) ρ2 h2
    |.ct ρ2 h2=>jD src st body f (k+1) ρ2 h2
    |.bk ρ2 h2=>.nx ρ2 h2
    |r=>r
def gX(mi:M Src)(st:dG)(body:MS):MS:=λρ h=>(mi ρ h).thenS λsrc h1=>jD src st body src.n 0 ρ h1
section
variable{tg iter:bq}{body:List gw}{mi:M Src}{st:dG}{mb:MS}{pos:Pos}
theorem rP(hp:yy (model X.prog X.w) X.A X.env X.xe)(hc:X.calm=true)(hi:kA X G E tg iter mi)(hg:jZ X G tg st)(hb:kL X G E body mb)(hs:∀x,foldedSetIterable iter X.env x=pure x:=by intro _;rfl):iK X G E (.For tg iter body [] pos) (gX mi st mb):=λhK=>PS.imp (V5 hp hc (hi hK) (hg hK) (hb hK) hs) λD σ H⟨μ,ρ,h,rs,s,o⟩=>by
 refine⟨μ,ρ,h,rs,s,(o.thenS (R:=Dj G)).mono λJ H1⟨μ1,src,h1,x1,s1,ok,o1⟩=>?_⟩;refine⟨λi m σ H=>∃μ2 ρ2 h2,Ext μ1 h1.length H1 μ2 h2.length H/\Bw G μ2 h2.length H ρ2 σ/\Bz G μ2 h2 H/\i+m=src.n/\Cr G E μ2 h2.length H (jD src st mb m i ρ2 h2) D,⟨src.n,μ1,ρ,h1,Gs,rs.mono x1,s1,Am _,o1⟩,?_⟩
 rintro i m σ2 H2 ⟨μ2,ρ2,h2,x2,Dn,s2,him,o2⟩
 cases m with
 |zero=>
  unfold jD at o2
  split at o2
  ·rename_i hf;exact .inl ⟨(ok i μ2 h2 H2 x2 s2).2 (by lia) hf,o2 μ2 H2 σ2 Gs s2 Dn⟩
  ·exact o2.elim
 |succ m=>
  unfold jD at o2
  cases q:src.get i h2 with
  |none=>rw[q]at o2;exact o2.elim
  |some d=>
   rw[q]at o2;dsimp only at o2
   cases q2:st d ρ2 with
   |none=>rw[q2]at o2;exact o2.elim
   |some ρ3=>
    rw[q2]at o2;dsimp only at o2;obtain⟨go,yl⟩:=(ok i μ2 h2 H2 x2 s2).1 (by lia) d q;refine .inr ⟨go,λσ' H'=>∃μ3 ρ4 h4,Ext μ1 h1.length H1 μ3 h4.length H'/\Bw G μ3 h4.length H' ρ4 σ'/\Bz G μ3 h4 H'/\(i+1)+m=src.n/\Cr G E μ3 h4.length H' (jD src st mb m (i+1) ρ4 h4) D,λσ' H' z=>⟨m,jz m,z⟩,λx H' hy=>?_⟩;obtain⟨sm,rx⟩:=yl x H' hy;have xs:Ext μ2 h2.length H2 μ2 h2.length H':=Gm sm;refine⟨μ2,ρ2,h2.length,d,ρ3,Dn.mono xs,rx,q2,λσ3 Ft=>⟨μ2,ρ3,h2,Ft,s2.same sm,?_⟩⟩;have step:∀ρ5 h5,Cr G E μ2 h2.length H2 (jD src st mb m (i+1) ρ5 h5) D->∀μ6 H6 σ6,Ext μ2 h2.length H' μ6 h5.length H6->Bz G μ6 h5 H6->Bw G μ6 h5.length H6 ρ5 σ6->
      ∃μ3 ρ4 h4,Ext μ1 h1.length H1 μ3 h4.length H6/\Bw G μ3 h4.length H6 ρ4 σ6/\Bz G μ3 h4 H6/\(i+1)+m=src.n/\Cr G E μ3 h4.length H6 (jD src st mb m (i+1) ρ4 h4) D:=
     λρ5 h5 o5 μ6 H6 σ6 x6 s6 rs6=>⟨μ6,ρ5,h5,(x2.trans xs).trans x6,rs6,s6,by lia,o5.ext (xs.trans x6)⟩
    cases q3:mb ρ3 h2 with
    |nx ρ5 h5=>rw[q3]at o2;exact step ρ5 h5 o2
    |ct ρ5 h5=>rw[q3]at o2;exact step ρ5 h5 o2
    |bk ρ5 h5=>rw[q3]at o2;exact λμ6 H6 σ6 x6 s6 rs6=>o2 μ6 H6 σ6 (xs.trans x6) s6 rs6
    |rt d5 h5=>rw[q3]at o2;exact λμ6 H6 σ6 x6 s6 rs6=>o2 μ6 H6 σ6 (xs.trans x6) s6 rs6
    |ex d5 h5=>rw[q3]at o2;exact λμ6 H6 σ6 x6 s6 rs6=>o2 μ6 H6 σ6 (xs.trans x6) s6 rs6
    |bad=>rw[q3]at o2;exact o2.elim
end
abbrev MC:=Ev->Hs->Bj->Rs (Ev×Bj)
def bB(me:M Dv):MC:=λρ h acc=>match me ρ h with
 |.ok d h1=>if acc.length<1000000 then .ok (ρ,acc++[d]) h1 else .bad
 |_=>.bad
def eS(src:Src)(st:dG)(test:M Bool)(inner:MC):Nat->Nat->MC
 |0,_=>λρ h acc=>if src.fin h=true then .ok (ρ,acc) h else .bad
 |f+1,k=>λρ h acc=>match src.get k h with
  |none=>.bad
  |some d=>match st d ρ with
   |none=>.bad
   |some ρ1=>match test ρ1 h with
    |.ok true h2=>match inner ρ1 h2 acc with
     |.ok r h3=>eS src st test inner f (k+1) r.1 h3 r.2
     |_=>.bad
    |.ok false h2=>eS src st test inner f (k+1) ρ1 h2 acc
    |_=>.bad
def lC(mi:M Src)(st:dG)(test:M Bool)(inner:MC):MC:=λρ h acc=>match mi ρ h with
 |.ok src h1=>eS src st test inner src.n 0 ρ h1 acc
 |_=>.bad
def cH:M Bool:=λ_ h=>.ok true h
def iP(cap:List (Option Nat))(ρ:Ev):Ev:=cap.map λo=>match o with
 |some j=>(ρ[j]?).getD none
 |none=>none
def bO(mi:M Src)(cap:List (Option Nat))(st:dG)(test:M Bool)(inner:MC):M Bj:=λρ h=>(mi ρ h).bind λsrc h1=>match eS src st test inner src.n 0 (iP cap ρ) h1 []with
 |.ok r h2=>.ok r.2 h2
 |_=>.bad
def wN(G:Cfg)(m:MC):TC:=λσ H vs K=>∃μ ρ h xs ρ' xs' h',Bw G μ h.length H ρ σ/\Bz G μ h H/\RelDL G μ h.length H xs vs/\m ρ h xs=.ok (ρ',xs') h'/\
 ∀μ' H' σ' Cm,Ext μ h.length H μ' h'.length H'->Bz G μ' h' H'->Bw G μ' h'.length H' ρ' σ'->RelDL G μ' h'.length H' xs' Cm->K σ' H' Cm
section
variable{G:Cfg}
def MM(rs:Bw G μ n H ρ σ)(cap:List (Option Nat)):Bw G μ n H (iP cap ρ) (tO cap σ):=⟨by simp[iP,tO],λi d e=>by
 unfold iP at e;rw[du]at e
 cases q:cap[i]? with
 |none=>rw[q]at e;cases e
 |some o=>
  rw[q]at e
  cases o with
  |none=>cases e
  |some j=>
   have e':(ρ[j]?).getD none=some d:=by simpa using e
   have e2:ρ[j]?=some (some d):=by
    cases z:ρ[j]? with
    |none=>rw[z]at e';cases e'
    |some y=>rw[z]at e';simp at e';rw[e']
   let⟨v,e3,r⟩:=rs.at_ j d e2;refine⟨v,?_,r⟩;unfold tO;rw[du,q];simp[e3]⟩
def AA{K:St->Hp->Ho->Prop}(t:wN G (bB me) σ H vs K):zM (jC G E me) σ H vs K:=by
 let⟨μ,ρ,h,xs,ρ',xs',h',rs,s,r,e,k⟩:=t;refine⟨μ,ρ,h,rs,s,?_⟩;unfold bB at e
 cases q:me ρ h with
 |bad=>rw[q]at e;cases e
 |ex c h1=>rw[q]at e;cases e
 |ok d h1=>
  rw[q]at e;dsimp only at e
  split at e
  ·rename_i hl;cases e;intro μ1 H1 v x1 s1 r1;refine⟨?_,k μ1 H1 σ _ x1 s1 (rs.mono x1) ((Gk x1 _ _ r).append (Gw r1 Gr))⟩;rw[r.length];exact aw hl (by decide)
  ·cases e
def MN{st:dG}{h1:Hs}{K:St->Hp->Ho->Prop}(ok:Dj G μ1 h1.length H1 src J)(rs:Bw G μ1 h1.length H1 ρ σ)(s1:Bz G μ1 h1 H1)(r:RelDL G μ1 h1.length H1 xs vs)(e:eS src st test inner src.n 0 ρ h1 xs=.ok (ρ',xs') h')(k:∀μ' H' σ' Cm,Ext μ1 h1.length H1 μ' h'.length H'->Bz G μ' h' H'->Bw G μ' h'.length H' ρ' σ'->RelDL G μ' h'.length H' xs' Cm->K σ' H' Cm):
  tP J (uD G st) (jJ G E test) (wN G inner) K σ H1 vs:=by
 refine⟨λi m σ H vs=>∃μ2 ρ2 h2 xs2,Ext μ1 h1.length H1 μ2 h2.length H/\Bw G μ2 h2.length H ρ2 σ/\Bz G μ2 h2 H/\RelDL G μ2 h2.length H xs2 vs/\i+m=src.n/\eS src st test inner m i ρ2 h2 xs2=.ok (ρ',xs') h',⟨src.n,μ1,ρ,h1,xs,Gs,rs,s1,r,Am _,e⟩,?_⟩
 rintro i m σ2 H2 Fq ⟨μ2,ρ2,h2,xs2,x2,Dn,s2,r2,him,e2⟩
 cases m with
 |zero=>
  unfold eS at e2
  split at e2
  ·rename_i hf;cases e2;exact .inl ⟨(ok i μ2 _ H2 x2 s2).2 (by lia) hf,k μ2 H2 σ2 Fq x2 s2 Dn r2⟩
  ·cases e2
 |succ m=>
  unfold eS at e2
  cases q:src.get i h2 with
  |none=>rw[q]at e2;cases e2
  |some d=>
   rw[q]at e2;dsimp only at e2
   cases q2:st d ρ2 with
   |none=>rw[q2]at e2;cases e2
   |some ρ3=>
    rw[q2]at e2;dsimp only at e2;let⟨go,yl⟩:=(ok i μ2 h2 H2 x2 s2).1 (by lia) d q;refine .inr ⟨go,λσ' H' Cm=>∃μ3 ρ4 h4 xs4,Ext μ1 h1.length H1 μ3 h4.length H'/\Bw G μ3 h4.length H' ρ4 σ'/\Bz G μ3 h4 H'/\RelDL G μ3 h4.length H' xs4 Cm/\(i+1)+m=src.n/\eS src st test inner m (i+1) ρ4 h4 xs4=.ok (ρ',xs') h',
     λσ' H' Cm z=>⟨m,jz m,z⟩,λx H' hy=>?_⟩
    let⟨sm,rx⟩:=yl x H' hy;have xsm:Ext μ2 h2.length H2 μ2 h2.length H':=Gm sm;refine⟨μ2,ρ2,h2.length,d,ρ3,Dn.mono xsm,rx,q2,λσ3 Ft=>⟨μ2,ρ3,h2,Ft,s2.same sm,?_⟩⟩
    cases q3:test ρ3 h2 with
    |bad=>rw[q3]at e2;cases e2
    |ex c h3=>rw[q3]at e2;cases e2
    |ok b h3=>
     rw[q3]at e2;intro μ4 H4 b' x4 s4 rb;have eb:b'=b:=rb;subst eb
     cases b' with
     |false=>rw[if_neg (by decide)];exact⟨μ4,ρ3,h3,xs2,(x2.trans xsm).trans x4,Ft.mono x4,s4,Gk (xsm.trans x4) _ _ r2,by lia,e2⟩
     |true=>
      rw[if_pos rfl];dsimp only at e2
      cases q4:inner ρ3 h3 xs2 with
      |bad=>rw[q4]at e2;cases e2
      |ex c h5=>rw[q4]at e2;cases e2
      |ok rr h5=>rw[q4]at e2;let⟨ρ5,xs5⟩:=rr;exact⟨μ4,ρ3,h3,xs2,ρ5,xs5,h5,Ft.mono x4,s4,Gk (xsm.trans x4) _ _ r2,q4,λμ6 H6 σ6 vs6 x6 s6 rs6 r6=>⟨μ6,ρ5,h5,xs5,((x2.trans xsm).trans x4).trans x6,rs6,s6,r6,by lia,e2⟩⟩
def MP{st:dG}{K:St->Hp->Ho->Prop}(t:wN G (lC mi st test inner) σ H vs K):LU (E8 G E mi) (uD G st) (jJ G E test) (wN G inner) σ H vs K:=by
 let⟨μ,ρ,h,xs,ρ',xs',h',rs,s,r,e,k⟩:=t;refine⟨μ,ρ,h,rs,s,?_⟩;unfold lC at e
 cases q:mi ρ h with
 |bad=>rw[q]at e;cases e
 |ex c h1=>rw[q]at e;cases e
 |ok src h1=>rw[q]at e;exact λμ1 H1 J x1 s1 ok=>MN ok (rs.mono x1) s1 (Gk x1 _ _ r) e λμ2 H2 σ2 Fq x2=>k μ2 H2 σ2 Fq (x1.trans x2)
def RL(G:Cfg):(Nat->ah)->Nat->Hp->Bj->V->Prop:=λμ n H xs v=>∃p vs,v=.ref p/\H p=some (.lst vs)/\(∀i,i<n->μ i≠p)/\RelDL G μ n H xs vs
def AB(G:Cfg)(E:XK)(m:M Bj ):TE:=λσ H Q=>∃μ ρ h,Bw G μ h.length H ρ σ/\Bz G μ h H/\Out G E μ h.length H (m ρ h) (RL G) Q
def mD(X:Cx)(G:Cfg)(E:XK)(pe:bq)(m:M Bj ):Prop:=X.K=G.K->PE X pe (AB G E m)
def Bz.adopt{μ:Nat->ah}{H:Hp}(s:Bz G μ h H)(e:H p=some (.lst vs))(hq:∀i,i<h.length->μ i≠p)(r:RelDL G μ h.length H ds vs):
  Ext μ h.length H (λi=>if i=h.length then p else μ i) (h++[Gi ds]).length H/\Bz G (λi=>if i=h.length then p else μ i) (h++[.lst ds]) H:=by
 have hl:(h++[Gi ds]).length=h.length+1:=by simp
 have x:Ext μ h.length H (λi=>if i=h.length then p else μ i) (h++[Gi ds]).length H:=⟨by lia,λi hi=>if_neg (bc hi),λa o _ e=>e⟩
 refine⟨x,λi j hi hj e=>?_,λi o q=>?_,s.tab⟩
 ·rw[hl]at hi hj
  by_cases h1:i=h.length<;>by_cases h2:j=h.length
  ·lia
  ·rw[if_pos h1,if_neg h2]at e;exact absurd e.symm (hq j (by lia))
  ·rw[if_neg h1,if_pos h2]at e;exact absurd e (hq i (by lia))
  ·rw[if_neg h1,if_neg h2]at e;exact s.inj i j (by lia) (by lia) e
 ·by_cases h1:i<h.length
  ·rw[ey h1]at q;have r1:=s.ob i o q
   cases o with
   |lst xs=>let⟨ws,e1,r2⟩:=r1;exact⟨ws,by rw[if_neg (bc h1)];exact e1,Gk x _ _ r2⟩
   |clo k t=>rw[if_neg (bc h1)];exact r1.clo x
   |dct ks=>rw[if_neg (bc h1)];exact r1
  ·rw[gh (by lia)]at q;have h2:i=h.length:=by have:=(bf.mp q).1;simp at this;lia
   subst h2;simp at q;subst q;exact⟨vs,by rw[if_pos rfl];exact e,Gk x _ _ r⟩
def bQ(m:M Bj ):M Dv:=λρ h=>(m ρ h).bind λxs h1=>.ok (.ref h1.length) (h1++[.lst xs])
theorem E9{E:XK}{m:M Bj}{σ:St}{H:Hp}{Q:VK}(t:jC G E (bQ m) σ H Q):AB G E m σ H Q:=by obtain⟨μ,ρ,h,rs,s,o⟩:=t;refine⟨μ,ρ,h,rs,s,(o.bind (R1:=RL G)).mono λv H1⟨μ1,xs,h1,x1,s1,⟨p,vs,ev,e1,hq,r1⟩,o1⟩=>?_⟩;subst ev;obtain⟨x2,s2⟩:=s1.adopt e1 hq r1;exact o1 _ _ _ x2 s2 ⟨by simp,by show Hk p=Hk (if h1.length=h1.length then p else μ1 h1.length);rw[if_pos rfl]⟩
def nA(h:mD X G E pe m):aJ X G E pe (bQ m):=λhK=>Gp (h hK) λ_ _ _ t=>E9 t
theorem AD{E E':XK}{mi:M Src}{cap:List (Option Nat)}{st:dG}{test:M Bool}{inner:MC}{σ:St}{H:Hp}{Q:VK}(t:AB G E (bO mi cap st test inner) σ H Q):zN (E8 G E mi) cap (uD G st) (jJ G E' test) (wN G inner) σ H Q:=by
 obtain⟨μ,ρ,h,rs,s,o⟩:=t;refine⟨μ,ρ,h,rs,s,(o.bind (R1:=Dj G)).mono λJ H1⟨μ1,src,h1,x1,s1,ok,o1⟩=>?_⟩
 cases q:eS src st test inner src.n 0 (iP cap ρ) h1 []with
 |bad=>rw[q]at o1;exact o1.elim
 |ex c h2=>rw[q]at o1;exact o1.elim
 |ok r h2=>rw[q]at o1;obtain⟨ρ',xs'⟩:=r;refine MN ok (MM (rs.mono x1) cap) s1 Gr q λμ2 H2 σ2 Fq x2 s2 Dn r2 p hp=>?_;exact o1 μ2 _ _ (x2.trans (Gm (cN hp))) (s2.same (cN hp)) ⟨p,Fq,rfl,cU,s2.not hp,Gk (Gm (cN hp)) _ _ r2⟩
end
section
variable{elt tg iter Dx Cb:bq}{ifs Cq:List bq}{sc:fi}{ps pos:Pos}{mi mi':M Src}{st En:dG}{test Em:M Bool}{me:M Dv}{N:Bh}{cap:List (Option Nat)}
def pW(X:Cx)(G:Cfg)(ifs:List bq)(m:M Bool):Prop:=X.K=G.K->PTs X ifs (jJ G E0 m)
def PTs.imp{t t':TT}(h:PTs Y ifs t)(i:∀σ H Q,t' σ H Q->t σ H Q):PTs Y ifs t':=λpins s σ H Q I q=>h pins s σ H Q I (i σ H Q q)
theorem jM{Y:Cx}:pW Y G [] cH:=λ_=>PTs.imp LN λσ H Q⟨μ,ρ,h,rs,s,o⟩=>o.val s rfl
def oQ(h:hZ Y G E0 c m):pW Y G [c] m:=λhK=>YB (h hK)
def Fo.imp{t t':TC}(h:Fo Y D m t)(i:∀σ H xs K,t' σ H xs K->t σ H xs K):Fo Y D m t':=λpins s σ H xs K I a f q=>h pins s σ H xs K I a f (i σ H xs K q)
def iB(hc:X.calm=true)(C:Cj X sc N cap)(hi:kA X G E tg iter mi)(hg:∀s H ex,jZ (bU X sc N s H ex) G tg st)(Er:∀s H ex,pW (bU X sc N s H ex) G ifs test)(hel:∀s H ex,aJ (bU X sc N s H ex) G E0 elt me)(hs:∀x,foldedSetIterable iter X.env x=pure x:=by intro _;rfl):mD X G E (.ListComp elt [⟨tg,iter,ifs,0⟩] sc ps) (bO mi cap st test (bB me)):=λhK=>
 Gp (LW hc C rfl (λit D env=>ES elt tg iter ifs sc ps (.ref it) D env) (hi hK) (λs H ex=>hg s H ex hK) (λs H ex=>Er s H ex hK) (λs H ex D=>Fo.imp (wG (hel s H ex hK)) λ_ _ _ _ t=>AA t) hs) λ_ _ _ t=>AD t
def Y7(hc:X.calm=true)(C:Cj X sc N cap)(hi:kA X G E tg iter mi)(hg:∀s H ex,jZ (bU X sc N s H ex) G tg st)(Er:∀s H ex,pW (bU X sc N s H ex) G ifs test)(hi':∀s H ex,kA (bU X sc N s H ex) G E0 Dx Cb mi')(Fh:∀s H ex,jZ (bU X sc N s H ex) G Dx En)(htt':∀s H ex,pW (bU X sc N s H ex) G Cq Em)(hel:∀s H ex,aJ (bU X sc N s H ex) G E0 elt me)(hs:∀x,foldedSetIterable iter X.env x=pure x:=by intro _;rfl)(hs':∀s H ex x,foldedSetIterable Cb (bU X sc N s H ex).env x=pure x:=by intro _ _ _ _;rfl):
  mD X G E (.ListComp elt [⟨tg,iter,ifs,0⟩,⟨Dx,Cb,Cq,0⟩] sc ps) (bO mi cap st test (lC mi' En Em (bB me))):=λhK=>
 Gp (LW hc C rfl (inner:=λD env=>tQ Cb (.ListComp elt [⟨tg,iter,ifs,0⟩,⟨Dx,Cb,Cq,0⟩] sc ps) 1 D env) (λit D env=>LP elt tg iter Dx Cb ifs Cq sc ps (.ref it) D env) (hi hK) (λs H ex=>hg s H ex hK) (λs H ex=>Er s H ex hK)
  (λs H ex D=>Fo.imp (LV (X:=bU X sc N s H ex) (D:=D) (gens:=[⟨tg,iter,ifs,0⟩,⟨Dx,Cb,Cq,0⟩]) (d:=1) rfl hc rfl (λit=>LQ elt tg iter Dx Cb ifs Cq sc ps (.ref it) D _) (hi' s H ex hK) (Fh s H ex hK) (htt' s H ex hK) (Fo.imp (wG (hel s H ex hK)) λ_ _ _ _ t=>AA t) (hs' s H ex)) λ_ _ _ _ t=>MP t) hs) λ_ _ _ t=>AD t
end
def eK(T:ah)(h:cu):Prop:=∃oT ts,h.get? T=some oT/\oT.data=.fields ts/\ts[3]?=some .none
structure Chg(fs:List ah)(e T:ah)(h h':cu):Prop where
 new:h.objs.size<=T
 keep:∀b o,b≠e->b∉fs->h.get? b=some o->h'.get? b=some o
 slot:∀b o,b≠e->h.get? b=some o->∃sl,h'.get? b=some {o with slots:=sl}
 tb:eK T h'
def Y8(f:Array af->Array af)(o:Obj):(Obj.mapFields f o).dict=o.dict:=by
 unfold Obj.mapFields
 split<;>rfl
section
variable{M:zh}{A:cb}{E:af->ag->Prop}{s:ag}
def FA{v:af}{Q:Unit->ag->Prop}(e:s.heap.get? a=some o)(hd:o.data=.fields vs)(hi:i<vs.size)(k:∀h' o',je a s.heap h'->h'.get? a=some o'->o'.cls=o.cls->o'.dict=o.dict->o'.data=.fields (vs.setIfInBounds i v)->Q () {s with heap:=h'}):wpAny M A (setField (.ref a) i v) Q E s:=
 have d':=wq hd (·.setIfInBounds i v)
 An e hd hi (k _ _ (pg ..) (ph _ e (Aw d')) (Obj.cls_mapFields ..) (Y8 ..) d')
def Y9{head v:af}{Q:af->ag->Prop}(Df:IsPlace pl)(k:∀ob ts,ob.data=.fields ts->3<ts.size->ob.isFreed=false->Q (.ref s.heap.objs.size) {s with heap:=s.heap.push ob}):
  wpAny M A (zc head v .none (rawInt L) .none pl) Q E s:=
 dw (k _ _ rfl (by simp only[ax,bw,di,og];omega) rfl) (Df.sizeOk5 ..)
def MQ{Q:Unit->ag->Prop}(he:s.heap.get? e=some oe)(hd:oe.data=.fields vs)(h1:vs[1]?=some (.ref T))(hT:s.heap.get? T=some oT)(hdT:oT.data=.fields ts)(hs:3<ts.size)(k:∀h',je T s.heap h'->eK T h'->Q () {s with heap:=h'}):wpAny M A (setFlight (.ref e) none) Q E s:=by
 refine aa (fg he hd h1 ?_);show wpAny M A (if(iu T !=jy)=true then _ else _) Q E s;rw[if_pos (by simp)];exact FA hT hdT hs λh' o' sb g _ _ d=>k h' sb ⟨o',_,g,d,by rw[jh hs];rfl⟩
theorem MR{base:cu}{l:List Env}{a:ah}{o:Obj}{vs:Array af}(hl:s.heap.FunFrames base l)(e:s.heap.get? a=some o)(hd:o.data=.fields vs):a∉dR l:=λhm=>by obtain⟨_,o',e',nf⟩:=hl.mem hm;rw[e]at e';cases e';exact nf vs hd
theorem MT{base:cu}{env:Env}{outer:List Env}{L e:ah}{oe:Obj}{vs:Array af}{head a0:af}{nx:Bool}{Q:Unit->ag->Prop}(hfr:A.frames=some (env::outer))(hl:s.heap.FunFrames base (env::outer))(hf:env.frame=some L)(he:s.heap.get? e=some oe)(hd:oe.data=.fields vs)(hdn:oe.dict=none)(Cv:1<vs.size)(h0:vs[0]?=some a0)(k:∀h' T,Chg (dR (env::outer)) e T s.heap h'->dU oe.cls e T a0 h'->Q () {s with heap:=h'}):
  wpAny M A (do let a <-frameOf env;let pl <-entryPlaceOf L nx;let b <-zc head a .none (rawInt L) .none pl;setField (.ref e) 1 b)
   (λ_ s'=>wpAny M A (setFlight (.ref e) none) Q E s') E s:=by
 have ne:=MR hl he hd;refine aa (wpAny_frameOf_fun hfr hl hf λg1 so=>aa (wpAny_entryPlaceOf λpl Df=>aa (Y9 Df λob ts dt hts nf=>?_)));have e1:g1.get? e=some oe:=(so.2.1 e ne).trans he;have lt:e<g1.objs.size:=av e1;refine FA (s:={s with heap:=g1.push ob}) (ao _ e1) hd Cv λg2 oe2 sb2 ge c2 dn2 d2=>?_;have gT:g2.get? g1.objs.size=some ob:=sb2.extBut _ _ (jw lt) (bg _ nf);refine MQ (s:={s with heap:=g2}) ge d2 (T:=g1.objs.size) (by rw[jh Cv]) gT dt hts λg3 sb3 tb=>?_;have kp:∀b o,b≠e->g1.get? b=some o->g3.get? b=some o:=λb o hb q=>sb3.extBut _ _ (bc (av q)) (sb2.extBut _ _ hb (ao _ q));refine k g3 g1.objs.size ⟨rf so.1.symm,λb o hb hn q=>kp b o hb ((so.2.1 b hn).trans q),λb o hb q=>?_,tb⟩ ⟨oe2,_,sb3.extBut _ _ (bc lt) ge,c2,d2,?_,?_,dn2.trans hdn⟩
 ·obtain⟨sl,q'⟩:=so.2.2 b o q;exact⟨sl,kp b _ hb q'⟩
 ·rw[Array.getElem?_setIfInBounds_ne (by decide)];exact h0
 ·rw[jh Cv]
def ZA{Q:Unit->ag->Prop}(hfr:A.frames=some (env::outer))(hl:s.heap.FunFrames base (env::outer))(hf:env.frame=some L)(he:s.heap.get? e=some oe)(hd:oe.data=.fields vs)(hdn:oe.dict=none)(h0:vs[0]?=some a0)(h1:vs[1]?=some .none)(k:∀h' T,Chg (dR (env::outer)) e T s.heap h'->dU oe.cls e T a0 h'->Q () {s with heap:=h'}):
  wpAny M A (noteFrame (.ref e) env) (λ_ s'=>wpAny M A (setFlight (.ref e) none) Q E s') E s:=by
 unfold noteFrame;rw[hf];refine aa (fg he hd h1 ?_);exact MT hfr hl hf he hd hdn (dy.mp h1).1 h0 k
theorem ZC{base:cu}{env:Env}{outer:List Env}{L e T:ah}{C a0:af}{Q:Unit->ag->Prop}(hfr:A.frames=some (env::outer))(hl:s.heap.FunFrames base (env::outer))(hf:env.frame=some L)(hx:dU C e T a0 s.heap)(ht:eK T s.heap)(hne:T≠e)(k:∀h' T',s.heap.objs.size<=T'->(∀b o,b≠e->b≠T->b∉dR (env::outer)->s.heap.get? b=some o->h'.get? b=some o)->(∀b o,b≠e->b≠T->s.heap.get? b=some o->∃sl,h'.get? b=some {o with slots:=sl})->
   dU C e T' a0 h'->eK T h'->eK T' h'->Q () {s with heap:=h'}):
  wpAny M A (noteFrame (.ref e) env) (λ_ s'=>wpAny M A (setFlight (.ref e) none) Q E s') E s:=by
 obtain⟨oe,vs,he,rfl,hd,h0,h1,hdn⟩:=hx;obtain⟨oT,ts,hT,hdT,h3⟩:=ht;have l3:3<ts.size:=(dy.mp h3).1;have nT:=MR hl hT hdT;unfold noteFrame;rw[hf];refine aa (fg he hd h1 ?_);rw[if_pos (by simp)];refine aa (fg hT hdT h3 ?_);rw[if_neg (by simp[rawInt])];refine aa (FA hT hdT l3 λg o' sb gT _ _ dT=>?_);have hl':g.FunFrames base (env::outer):=hl.of_keeps λb o q nf=>⟨o,sb.extBut _ _ (λz=>by subst z;rw[hT]at q;cases q;exact nf ts hdT) q,rfl⟩
 refine MT (s:={s with heap:=g}) hfr hl' hf (sb.extBut _ _ (dh hne) he) hd hdn (dy.mp h1).1 h0 λh' T' c x=>?_;refine k h' T' (by rw[<-sb.1];exact c.new) (λb o n1 n2 n3 q=>c.keep b o n1 n3 (sb.extBut _ _ n2 q)) (λb o n1 n2 q=>c.slot b o n1 (sb.extBut _ _ n2 q)) x ⟨_,_,c.keep T _ hne nT gT,dT,?_⟩ c.tb;rw[jh l3]
end
def FC(x:Bv P w H h a o):∃ob,h.get? a=some ob:=by
 cases o with
 |lst xs=>let⟨_,_,_,_,e⟩:=x;exact⟨_,e⟩
 |tup xs=>let⟨_,_,_,ob,e,_⟩:=x;exact⟨_,e⟩
 |dK kvs=>let⟨_,_,_,_,o,_,_,e,_⟩:=x;exact⟨_,e⟩
 |dT kvs=>let⟨_,_,_,_,o,_,_,e,_⟩:=x;exact⟨_,e⟩
 |set S n=>let⟨o,_,_,_,e,_⟩:=x;exact⟨_,e⟩
 |ins C dx fs=>let⟨_,_,_,e,_⟩:=x;exact⟨_,e⟩
 |own y=>exact x
 |xd fs=>let⟨_,⟨_,_,_,e,_⟩,_⟩:=x;exact⟨_,e⟩
 |rng lo hi=>let⟨_,_,_,e⟩:=x;exact⟨_,e⟩
 |frz ob u=>let⟨e,_⟩:=x;exact⟨_,e⟩
 |tbl ps=>exact⟨_,(show h.get? a=some _ from x)⟩
 |met f y=>exact⟨_,(show h.get? a=some _ from x)⟩
 |ext φ=>let⟨_,e,_⟩:=x;exact e
def AE(base:cu)(H:Hp)(C:af)(e:ah):Prop:=∃T a0,H e=some (.ext (dU C e T a0))/\H T=some (.ext (eK T))/\base.get? e=none/\T≠e
def wO(e:ah)(H H':Hp):Prop:=∀b o,b≠e->H b=some o->H' b=some o
def ZD{h1 h2:cu}(x:dU C e T a0 h1)(k:∀o,h1.get? e=some o->h2.get? e=some o):dU C e T a0 h2:=by let⟨oe,vs,he,r⟩:=x;exact⟨oe,vs,k oe he,r⟩
def ZE{h1 h2:cu}(x:eK T h1)(k:∀o,h1.get? T=some o->h2.get? T=some o):eK T h2:=by let⟨oe,vs,he,r⟩:=x;exact⟨oe,vs,k oe he,r⟩
def MU(x:dU C e T a0 h):Bv P w H h e (.ext (dU C e T a0)):=⟨x,(let ⟨oe,_,he,_⟩:=x;⟨oe,he⟩),λ_ _ y k=>ZD y k⟩
def AF(x:eK T h):Bv P w H h T (.ext (eK T)):=⟨x,(let ⟨oe,_,he,_⟩:=x;⟨oe,he⟩),λ_ _ y k=>ZE y k⟩
section
variable{P:bp}{w:cm}{M:zh}{A:cb}{E:af->ag->Prop}{s:ag}{H:Hp}{base:cu}{env:Env}{outer:List Env}{L e:ah}{C:af}
theorem FD{Q:Unit->ag->Prop}(hfr:A.frames=some (env::outer))(hl:s.heap.FunFrames base (env::outer))(hf:env.frame=some L)(hok:Cz P w H s.heap)(hfree:∀b∈dR (env::outer),H b=none)(fl:AE base H C e)(k:∀h' H',Un (dR (env::outer)) [] H H' s.heap h'->Cz P w H' h'->AE base H' C e->wO e H H'->Q () {s with heap:=h'}):
  wpAny M A (noteFrame (.ref e) env) (λ_ s'=>wpAny M A (setFlight (.ref e) none) Q E s') E s:=by
 obtain⟨T,a0,he,hT,hb,hne⟩:=fl;have xe:dU C e T a0 s.heap:=(show Bv P w H s.heap e _ from hok e _ he).1;have xt:eK T s.heap:=(show Bv P w H s.heap T _ from hok T _ hT).1;refine ZC hfr hl hf xe xt hne λh' T' Es keep slot x' t0 t'=>?_;have nT':H T'=none:=hok.fresh Es;have eT':T'≠e:=(gF he nT').symm;have TT':T'≠T:=(gF hT nT').symm;have sx:wO e H (upd (upd H e (.ext (dU C e T' a0))) T' (.ext (eK T'))):=λb o hbe q=>by rw[bT (gF q nT'),bT hbe];exact q
 have ee:upd (upd H e (.ext (dU C e T' a0))) T' (.ext (eK T')) e=some (.ext (dU C e T' a0)):=by rw[bT (dh eT'),cU]
 refine k h' (upd (upd H e (.ext (dU C e T' a0))) T' (.ext (eK T'))) ?_ ?_ ⟨T',a0,ee,cU,hb,eT'⟩ sx
 ·have free:∀b o,s.heap.get? b=some o->H b=none->upd (upd H e (.ext (dU C e T' a0))) T' (.ext (eK T')) b=none:=λb o q n=>by have h1:b≠T':=bc (aw (av q) Es);have h2:b≠e:=(gF he n).symm;rw[bT h1,bT h2];exact n
  refine⟨λb o q n hb _=>keep b o (gF he n).symm (gF hT n).symm hb q,λb o q n _ _=>slot b o (gF he n).symm (gF hT n).symm q,λb o q n _=>free b o q n,λb o q _=>?_,λb xs q=>?_,λb o u q=>?_,λb ps q=>?_⟩
  ·by_cases h1:b=e
   ·subst h1;obtain⟨oe,_,z,_⟩:=x';exact⟨oe,z⟩
   ·by_cases h2:b=T
    ·subst h2;obtain⟨oe,_,z,_⟩:=t0;exact⟨oe,z⟩
    ·obtain⟨sl,z⟩:=slot b o h1 h2 q;exact⟨_,z⟩
  ·exact sx b _ (oK q he (by intro z;cases z)) q
  ·exact sx b _ (oK q he (by intro z;cases z)) q
  ·exact⟨#[],by rw[sx b _ (oK q he (by intro z;cases z)) q];simp⟩
 ·intro a o q
  by_cases h1:a=T'
  ·subst h1;rw[cU]at q;cases q;exact AF t'
  ·rw[bT h1]at q
   by_cases h2:a=e
   ·subst h2;rw[cU]at q;cases q;exact MU x'
   ·rw[bT h2]at q
    by_cases h3:a=T
    ·subst h3;rw[hT]at q;cases q;exact AF t0
    ·have nf:a∉dR (env::outer):=λz=>by rw[hfree a z]at q;cases q
     refine(hok a o q).stay (λb u hb z=>?_) (λb z=>sx b _ (oK z he (by intro y;cases y)) z) λb xs z=>sx b _ (oK z he (by intro y;cases y)) z
     rcases hb with rfl|hb
     ·exact keep b u h2 h3 nf z
     ·exact keep b u (oK hb he (by intro y;cases y)) (oK hb hT (by intro y;cases y)) (λy=>by rw[hfree b y]at hb;cases hb) z
theorem MV{Q:Unit->ag->Prop}{h0:cu}{args:List af}(hfr:A.frames=some (env::outer))(hl:h0.FunFrames base (env::outer))(hf:env.frame=some L)(hok:Cz P w H h0)(hfree:∀b∈dR (env::outer),H b=none)(hsb:∀b o,base.get? b=some o->h0.get? b=some o)(mx:Heap.MadeExcOf h0 s.heap e C args)(k:∀h' H',Un (dR (env::outer)) [] H H' h0 h'->Cz P w H' h'->AE base H' C e->Di H H'->Q () {s with heap:=h'}):
  wpAny M A (noteFrame (.ref e) env) (λ_ s'=>wpAny M A (setFlight (.ref e) none) Q E s') E s:=by
 obtain⟨t,he,hnt,ht⟩:=mx.there;have hbn:base.get? e=none:=by
  cases q:base.get? e with
  |none=>rfl
  |some o=>have:=hsb e o q;rw[mx.new]at this;cases this
 have nH:H e=none:=by
  cases q:H e with
  |none=>rfl
  |some o=>
   have z:∀a o,H a=some o->h0.get? a≠none:=λa o q n=>by
    have lt:=hok.lt q;have:=(hok a o q)
    have ex:∃ob,h0.get? a=some ob:=FC this;obtain⟨ob,eo⟩:=ex;rw[n]at eo;cases eo
   exact absurd mx.new (z e o q)
 have hl1:s.heap.FunFrames base (env::outer):=hl.of_keeps λb o hb _=>⟨o,mx.keeps b o hb,rfl⟩
 refine ZA hfr hl1 hf he rfl rfl (a0:=.ref t) rfl rfl λh' T c x=>?_;have ne_e:∀b o,h0.get? b=some o->b≠e:=λb o q z=>by subst z;rw[mx.new]at q;cases q
 have lt0:∀b o,h0.get? b=some o->b<T:=λb o q=>aw (av (mx.keeps b o q)) c.new;have nT:H T=none:=by
  cases q:H T with
  |none=>rfl
  |some o=>obtain⟨ob,eo⟩:=FC (hok T o q);exact absurd (lt0 T ob eo) (ig _)
 have eT:T≠e:=jw (aw (av he) c.new);have sm:Di H (upd (upd H e (.ext (dU C e T (.ref t)))) T (.ext (eK T))):=λb o q=>by rw[bT (gF q nT),bT (gF q nH)];exact q
 refine k h' (upd (upd H e (.ext (dU C e T (.ref t)))) T (.ext (eK T))) ?_ ?_ ⟨T,.ref t,by rw[bT (dh eT),cU],cU,hbn,eT⟩ sm
 ·refine⟨λb o q n hb _=>c.keep b o (ne_e b o q) hb (mx.keeps b o q),λb o q n _ _=>c.slot b o (ne_e b o q) (mx.keeps b o q),λb o q n _=>?_,λb o q _=>?_,λb xs q=>sm b _ q,λb o u q=>sm b _ q,λb ps q=>⟨#[],by rw[sm b _ q];simp⟩⟩
  ·rw[bT (bc (lt0 b o q)),bT (ne_e b o q)];exact n
  ·obtain⟨sl,z⟩:=c.slot b o (ne_e b o q) (mx.keeps b o q);exact⟨_,z⟩
 ·intro a o q
  by_cases h1:a=T
  ·subst h1;rw[cU]at q;cases q;exact AF c.tb
  ·rw[bT h1]at q
   by_cases h2:a=e
   ·subst h2;rw[cU]at q;cases q;exact MU x
   ·rw[bT h2]at q;have nf:a∉dR (env::outer):=λz=>by rw[hfree a z]at q;cases q
    refine(hok a o q).stay (λb u hb z=>?_) (λb z=>sm b _ z) λb xs z=>sm b _ z
    rcases hb with rfl|hb
    ·exact c.keep b u (ne_e b u z) nf (mx.keeps b u z)
    ·exact c.keep b u (ne_e b u z) (λy=>by rw[hfree b y]at hb;cases hb) (mx.keeps b u z)
end
def aZ(P:bp)(w:cm)(base:cu):mW:=λouter H s E u s'=>∃e C H',u=.ref e/\s'.os=s.os/\uj s'.gens/\Un (dR outer) [] H H' s.heap s'.heap/\Cz P w H' s'.heap/\AE base H' C e/\E u none H'
def ZF(X:Cx)(E:XK):Prop:=∀(pins:List (ah×Obj))(σ:St)(H:Hp)(s:ag)(h':cu)(e:ah)(C:af)(args:List af),Inv X pins σ H s->Heap.MadeExcOf s.heap h' e C args->
 (∀H',Di H H'->(∃T a0,H' e=some (.ext (dU C e T a0)))->E (.ref e) none H')->X.xe (.ref e) {s with heap:=h'}
structure Good(X:Cx)(G:Cfg)(E:XK)(k:Nat):Prop where
 calm:X.calm=true
 room:Ci k X.A
 K:X.K=G.K
 pas:EE (aZ X.prog X.w X.base) X E
 own:yy (model X.prog X.w) X.A X.env X.xe
 rais:ZF X E
def FE(E:XK):Prop:=∀e H H',wO e H H'->(∃C T a0 T' a0',H e=some (.ext (dU C e T a0))/\(∃h,dU C e T a0 h)/\H' e=some (.ext (dU C e T' a0')))->E (.ref e) none H->E (.ref e) none H'
section
variable{P:bp}{w:cm}{K:ar}{mg:Str->Option af}{base:cu}{N:Bh}{qual:Str}{scope:fi}{f:ah}{cdv:af}{A:cb}{outer:List Env}{s0:ag}{H0:Hp}{E0:XK}{G:Cfg}{E:XK}{k:Nat}
def FF(hr:Ci k (A.deeper (envOfC qual scope s0.heap.objs.size f cdv)))(hK:K=G.K)(hE:∀u H',E u none H'->E0 u none H')(hF:FE E):
  Good (fU (aZ P w base) P w K mg base N qual scope f cdv A outer s0 H0 E0) G E k where
 calm:=rfl
 room:=hr
 K:=hK
 own:=zy
 pas:=by intro pins σ H s u s' I ⟨e,C,H',eu,os,bare,un,hok,fl,he⟩;subst eu;have I':=I.call' os un hok bare (λb z=>absurd z (by simp));refine aa (FD (P:=P) (w:=w) (H:=H') (base:=base) I'.ok.frames I'.stack rfl hok I'.stkFree fl λh'' H'' un2 Ea Gb sx=>?_);have I2:=I'.call (h':=h'') (g':=s'.gens) (d':=s'.drawn) (t':=s'.toks) un2 Ea I'.bare (λb z=>absurd z (by simp));let⟨T,a0,h1,_⟩:=id fl;let⟨T2,a2,h3,_⟩:=id Gb;have xe1:dU C e T a0 s'.heap:=(show Bv P w H' s'.heap e _ from hok e _ h1).1;have:E (.ref e) none H'':=hF e H' H'' sx ⟨C,T,a0,T2,a2,h1,⟨_,xe1⟩,h3⟩ he;exact⟨e,C,H'',rfl,I2.os,I2.bare,I2.base,Ea,Gb,hE _ _ this⟩
 rais:=by intro pins σ H s h' e C args I mx he;refine aa (MV (P:=P) (w:=w) (H:=H) (base:=base) I.ok.frames I.stack rfl I.hok I.stkFree I.bk mx λh'' H'' un2 Ea Gb sm=>?_);have I2:=I.call (h':=h'') (g':=s.gens) (d':=s.drawn) (t':=s.toks) un2 Ea I.bare (λb z=>absurd z (by simp));let⟨T2,a2,h3,_⟩:=id Gb;exact⟨e,C,H'',rfl,I2.os,I2.bare,I2.base,Ea,Gb,hE _ _ (he H'' sm ⟨T2,a2,h3⟩)⟩
def dO(g:Good X G E k):Good (bU X sc N' s H ex) G L2.E0 k where
 calm:=g.calm
 room:=g.room
 K:=g.K
 own:=PassesOwn.never
 pas:=λ_ _ _ _ _ _ _⟨_,_,_,_,_,_,_,_,_,z⟩=>z
 rais:=λ_ _ H s h' e C args I mx he=>by
  have nH:H e=none:=by
   cases q:H e with
   |none=>rfl
   |some o=>let⟨ob,eo⟩:=FC (I.hok e o q);rw[mx.new]at eo;cases eo
  exact he (upd H e (.ext (dU C e 0 .none))) (cN nH) ⟨0,.none,cU⟩
def bY(n:Nat)(ds:Bj):Ev:=ds.map some++bu (n-ds.length) none
def bF:Sr->Rs Dv
 |.rt d h=>.ok d h
 |.nx _ h=>.ok .non h
 |.ex c h=>.ex c h
 |_=>.bad
def bA(np n:Nat)(mb:MS):Bi:=λds h=>if ds.length=np then bF (mb (bY n ds) h)else .bad
def cK(G:Cfg)(F:Bi):Sp:=λvs H Q E=>∃μ h ds,RelDL G μ h.length H ds vs/\Bz G μ h H/\Out G E μ h.length H (F ds h) (Bq G) Q
theorem FG{μ:Nat->ah}{n:Nat}{H:Hp}{ds:Bj}{vs:Ho}(r:RelDL G μ n H ds vs)(N:Bh):Bw G μ n H (bY N.length ds) (start N vs):=by
 have hl:=r.length;refine⟨by simp[bY,start,hl],λi d e=>?_⟩;unfold bY at e
 by_cases hi:i<ds.length
 ·rw[ey (by simpa using hi),du]at e
  cases q:ds[i]? with
  |none=>rw[q]at e;cases e
  |some d'=>rw[q]at e;cases e;obtain⟨v,e1,r1⟩:=r.get q;refine⟨v,?_,r1⟩;unfold start;rw[ey (by simp;omega),du,e1];rfl
 ·rw[gh (by simpa using hi),ua]at e
  split at e<;>cases e
def EB(G:Cfg)(μ0:Nat->ah)(n0:Nat)(H0:Hp)(r:Sr):XK:=λu _ H'=>∃c h' μ',r=.ex c h'/\Ext μ0 n0 H0 μ' h'.length H'/\Bz G μ' h' H'/\zP G H' c u
def Bz.sameX{H H':Hp}(s:Bz G μ h H)(sx:wO e H H')(hx:∃φ,H e=some (.ext φ)):Bz G μ h H'/\∀(n:Nat),Ext μ n H μ n H':=by
 let⟨φ,hx⟩:=hx;have x:∀n:Nat,Ext μ n H μ n H':=λn=>⟨aq _,λ_ _=>rfl,λa o i q=>sx a o (by rintro rfl;rw[hx]at q;cases q;exact i) q⟩
 refine⟨⟨s.inj,λi o q=>?_,s.tab.keep λa o _ n2 q=>sx a o (by rintro rfl;rw[hx]at q;cases q;exact n2 _ rfl) q⟩,x⟩;have r:=s.ob i o q
 cases o with
 |lst xs=>let⟨vs,e1,r1⟩:=r;exact⟨vs,sx _ _ (oK e1 hx (by intro z;cases z)) e1,Gk (x _) _ _ r1⟩
 |clo k t=>exact r.clo (x _)
 |dct ks=>exact sx _ _ (oK r hx (by intro z;cases z)) r
def FH:FE (EB G μ0 n0 H0 r):=by intro e H H' sx ⟨C,T,a0,T',a0',h1,⟨hp,hx⟩,h3⟩ ⟨c,h',μ',er,x,s,e',φ,eu,h4,h5⟩;cases eu;let⟨s2,x2⟩:=s.sameX sx ⟨_,h1⟩;refine⟨c,h',μ',er,x.trans (x2 _),s2,e,_,rfl,h3,λhh z=>?_⟩;rw[h1]at h4;cases h4;let⟨o,g1,g2⟩:=h5 hp hx;let⟨oe,vs,g3,g4,_⟩:=hx;rw[g3]at g1;cases g1;let⟨oe',Cm,g5,g6,_⟩:=z;exact⟨oe',g5,by rw[g6,<-g4,g2]⟩
def dP{st:gw}(Fn:Fun K x qual st f fd)(S:Br N ps (aR st))(hK:K=G.K)(Cp:∀(cdv:af)(A:cb)(outer:List Env)(s:ag)(H:Hp)(E₀ E:XK),Good (fU (aZ P w base) P w K mg base N qual (aR st) f cdv A outer s H E₀) G E k->kL (fU (aZ P w base) P w K mg base N qual (aR st) f cdv A outer s H E₀) G E (gR st) mb):
  Bu P w K mg base (aZ P w base) (k+1) f fd ps (cK G (bA ps.length N.length mb)):=by
 obtain⟨oc,od,kV,doc,pm,an,cdv,ct,osl,rfl,lk,hcd⟩:=Fn.ex;have hlen:∀vs H Q E,cK G (bA ps.length N.length mb) vs H Q E->vs.length=ps.length:=λvs H Q E⟨μ,h,ds,r,sm,o⟩=>by
  rw[r.length];unfold bA at o
  by_cases hd:ds.length=ps.length
  ·exact hd
  ·rw[if_neg hd]at o;exact o.elim
 refine EF lk hcd S hlen λA outer s H vs Q E hr hsp=>?_;have hl:=hlen _ _ _ _ hsp;let⟨μ,h,ds,r,sm,o⟩:=hsp;have o':Out G E μ h.length H (bF (mb (bY N.length ds) h)) (Bq G) Q:=by unfold bA at o;rw[if_pos (by rw[<-r.length];exact hl)]at o;exact o
 refine⟨_,Cp cdv A outer s H E (EB G μ h.length H (mb (bY N.length ds) h)) (FF hr hK (λu H'⟨c,h',μ',er,x,s',fl⟩=>?_) FH) hK,?_⟩
 ·rw[er]at o';exact o' μ' H' u x s' fl
 ·refine⟨μ,bY N.length ds,h,FG r N,sm,?_⟩
  cases q:mb (bY N.length ds) h with
  |bad=>rw[q]at o';exact o'.elim
  |bk ρ h'=>rw[q]at o';exact o'.elim
  |ct ρ h'=>rw[q]at o';exact o'.elim
  |rt d h'=>rw[q]at o';exact o'
  |nx ρ h'=>rw[q]at o';exact λμ' H' σ' x' s' rs'=>o' μ' H' .non x' s' rfl
  |ex c h'=>exact λμ' H' u x' s' fl=>⟨c,h',μ',rfl,x',s',fl⟩
theorem FI{X:Cx}{F:Bi}{ps:Bh}{fd:br}{x:Str}{p pos:Pos}{e:bq}{es:List bq}{ms:M Bj}{j:Nat}(g:Good X G E k)(Fn:Bu X.prog X.w X.K X.mg X.base (aZ X.prog X.w X.base) j f fd ps (cK G F))(hj:j<=k)(hg:Gl X x)(hm:X.mg x=some (.ref f))(hk:kq X.K (.ref f)=true)(hb:Binds X.K fd ps [])(ha:eC X G E (e::es) ms)(Dw:(x==Hn)=false:=by decide)(he:ay (e::es) X.env=(false,eval e X.env)::ay es X.env:=by rfl)(Df:(backTo pos (ay es X.env)).any (·.1)=false:=by rfl):
  aJ X G E (.Call (.Name x p) (e::es) [] pos) (aD F ms):=λhK=>
 Gp (KJ Fn (g.room.mono hj) hg hm hk hb .nil g.pas (ha hK) Dw he Df) λσ H Q⟨μ,ρ,h,rs,s,o⟩=>lY rs s o λμ1 ds1 h1 vs H1 x1 Cc s1 r1 o1=>by rw[nv];exact⟨μ1,h1,ds1,r1,s1,o1⟩
end
abbrev wQ:List af:=[.type "ValueError",.type "Exception",.type "BaseException",.type "object"]
def ZG{K:ar}(p:bp)(m:Mod K mg base):∃loose mb,PySem.W.TopRead p loose mg mb base:=by
 let⟨mb,hb,hbb⟩:=m.blt;let⟨o,es,ep,ho,hd,hk,hf⟩:=id m.glob;refine⟨es.toList.filterMap λe=>match e.key with
  |.str n _=>some n
  |_=>none,mb,m.glob,hb,m.nolimit,hbb,λx _ hx _ _ _=>?_⟩
 rw[<-hf x]
 cases q:nsFind es x with
 |none=>rfl
 |some v=>
  exfalso
  apply hx
  unfold nsFind findBy at q;let⟨e,he,_⟩:=Option.map_eq_some_iff.mp q;have h1:=Array.find?_some he;have h2:=Array.mem_of_find?_eq_some he;let⟨n,t,hn⟩:=hk e h2;rw[hn]at h1;have h3:n=x:=by simpa[Value.isStr]using h1
  exact ka.mpr ⟨e,by simpa using h2,by rw[hn,h3]⟩
section
variable{k:Nat}{x:Str}{C:ah}{np cpos pos:Pos}{e:bq}{es:List bq}{t:TA}{ms:M Bj}{c:Nat}
theorem ZH(g:Good X G E k)(hg:Gl X x)(hm:X.mg x=some (.ref C))(hns:tw X.K dg x=some (some (.ref C)))(hx:sf X.K C wQ "ValueError.__new__"=true)(ha:PA X (e::es) t)(hd:(x==Hn)=false:=by decide)(he:ay (e::es) X.env=(false,eval e X.env)::ay es X.env:=by rfl)(Df:(backTo cpos (ay es X.env)).any (·.1)=false:=by rfl):
  PS X (.Raise (some (.Call (.Name x np) (e::es) [] cpos)) none pos) (λ_ σ H=>t σ H λvs H1=>vs.length<=cg/\∀e H',Di H1 H'->(∃T a0,H' e=some (.ext (dU (.ref C) e T a0)))->E (.ref e) none H'):=by
 intro pins s σ H D I h;obtain⟨bm,N,nm,q,bs,hdct,sn,sub,ab,col,dd,k0,k1,k2,k3,k5,mN,hC,hN,hni,T⟩:=(let ⟨_,_,tr⟩:=ZG X.prog I.ok.mod;PySem.W.own_of_in I.ok.mod.kin tr hns hx).obj;refine wpAny_Raise_call_subU (C:=C) (nm:=nm) (q:=q) (N:=N) (bs:=bs) (bm:=bm) (hdct:=hdct) (sn:=sn) (sub:=sub) (ab:=ab) (col:=col) (dd:=dd) (k0:=k0) (k1:=k1) (k2:=k2) (k3:=k3) (k5:=k5)
  yd (by decide) yd (mN:=mN) (T.hasType (by decide)) (I.ok.hd g.calm) (by rw[he];show(false||(backTo cpos (ay es X.env)).any (·.1))=false;rw[Df];rfl) hni (vY I hg hm ⟨rfl,?_⟩ hd)
 have hh:=ha cpos pins s σ H _ I h;rw[he]at hh⊢;refine Calls.evalArgs_plain (aY hh λus s2⟨vs,H2,I2,r,hz,w⟩=>⟨rfl,by rw[<-r.length];exact hz,I2.bk _ _ hC,hN.keeps I2.bk,T.keeps I2.bk,λh' e' mx=>?_⟩);exact g.rais pins σ H2 s2 h' e' _ _ I2 mx λH' sm z=>w e' H' sm z
def ZI{H:Hp}{e:ah}(hc:C=G.cl c)(z:∃T a0,H e=some (.ext (dU (.ref C) e T a0))):zP G H c (.ref e):=by let⟨T,a0,z⟩:=z;exact⟨e,_,rfl,z,λh⟨oe,vs,h1,h2,_⟩=>⟨oe,h1,by rw[h2,hc]⟩⟩
def rQ(c:Nat)(ms:M Bj ):MS:=λρ h=>(ms ρ h).thenS λds h1=>if ds.length<=1000 then .ex c h1 else .bad
theorem FJ(g:Good X G E k)(hg:Gl X x)(hm:X.mg x=some (.ref C))(hns:tw X.K dg x=some (some (.ref C)))(hx:sf X.K C wQ "ValueError.__new__"=true)(hc:C=G.cl c)(ha:eC X G E (e::es) ms)(hd:(x==Hn)=false:=by decide)(he:ay (e::es) X.env=(false,eval e X.env)::ay es X.env:=by rfl)(Df:(backTo cpos (ay es X.env)).any (·.1)=false:=by rfl):
  iK X G E (.Raise (some (.Call (.Name x np) (e::es) [] cpos)) none pos) (rQ c ms):=λhK=>PS.imp (ZH g hg hm hns hx (ha hK) hd he Df) λD σ H⟨μ,ρ,h,rs,s,o⟩=>
 ⟨μ,ρ,h,rs,s,(o.thenS (R:=RelDL G)).mono λvs H1⟨μ1,ds,h1,x1,s1,r1,o1⟩=>by
  split at o1
  ·rename_i hl;refine⟨by rw[r1.length];exact cp hl (by decide),λe' H' sm z=>?_⟩;exact o1 μ1 H' (.ref e') (Gm sm) (s1.same sm) (ZI hc z)
  ·exact o1.elim⟩
end
open PySem.W
section
variable{prog:bp}{w:cm}{A:cb}{E:af->ag->Prop}{h:cu}{g:Array GenState}{d:Drawn}{t:Nat}{os:OsState}{a C:ah}{o:Obj}{K:Frag}
structure Du(K:Frag)(C:ah):Prop where
 ga:findIn K (.ref C) "__getattribute__"=some (some (.builtin "BaseException.__getattribute__"))
 ng:findIn K (.ref C) "__getattr__"=some none
 cl:findIn K (.ref C) "__class__"=some (some (.builtin "object.__class__"))
 ob:mroIn K C (.type "object")=some true
 be:subIn K (.ref C) (.type "BaseException")=some true
 se:kitCls K (.ref C) (.ref C)=some true
 lk:∃oc od cd osl,K.lookup C=some ⟨oc,od,.cls cd,osl⟩
def kindGa:builtinKind "BaseException.__getattribute__"=some .slot/\splitId "BaseException.__getattribute__"=some ("BaseException","__getattribute__"):=by decide+kernel
def ZJ:(vt "BaseException.__getattribute__"==vt "object.__getattribute__")=false:=by decide+kernel
section
variable{R:yb->ag->Prop}{s:ag}
theorem ZK{M:zh}{n:af}{Q:Unit->ag->Prop}(X:K.In s.heap)(I:InstAt s.heap a o C none)(k:Du K C)(hq:Q () s):wpAny M A (checkBuiltinCall "BaseException.__getattribute__" ⟨[.ref a,n],[]⟩) Q E s:=by
 have one:Looks M s.heap (isInstance (.ref a) (.type "BaseException")) true:=I.type.andThen (looks_subIn X k.be);have two:=F.args_bexc_ga (.ref a) n;obtain⟨hh,g,d,t,os⟩:=s;unfold checkBuiltinCall;rw[kindGa.1,kindGa.2];refine aa (one.at ?_)
 repeat (first|assumption|wp_step)
def ZL(X:K.In s.heap)(I:InstAt s.heap a o C none)(k:Du K C)(hq:R (.ok (.ret (.ref C))) s):codeAny (model prog w) A (.call (.builtin "BaseException.__getattribute__") ⟨[.ref a,.str "__class__" n],[]⟩) R s:=by
 refine rh F.excAttr_ValueError.ga.plain F.entry_bexc_ga (ZK X I k ?_);have own:=I.type (M:=model prog w);have entry:=looks_findIn (M:=model prog w) X k.cl;have of_get:=F.slot_gs_get.lookup;have of_set:=F.slot_gs_set.lookup;have kind:=F.typeOf_object_class;have kindIs:s.TypeIs (.builtin "object.__class__") "getset_descriptor":=kind;let⟨hh,g,d,t,os⟩:=s
 repeat (any_goals (first|assumption|with_reducible refine own.at ?_|with_reducible refine entry.at ?_|wp_step))
 exact class_get (s:=⟨hh,g,d,t,os⟩) X I k.ob (by repeat (any_goals (first|assumption|wp_step)))
end
theorem ZM{Q:Option af->ag->Prop}(X:K.In h)(I:InstAt h a o C none)(k:Du K C)(hq:Q (some (.ref C)) ⟨h,g,d,t+1,os⟩):
  wpAny (model prog w) A (getAttr? (.ref a) "__class__") Q E ⟨h,g,d,t,os⟩:=by
 have own:=I.type (M:=model prog w);have first_:=looks_findIn (M:=model prog w) X k.ga;have then_:=looks_findIn (M:=model prog w) X k.ng;have bound:=F.excAttr_ValueError.ga.bind (.ref a);have other:=ZJ;have apart:(onTheHeap (iu C)&&vt "BaseException.__getattribute__"==vt "object.__getattribute__")=false:=by rw[other];rfl
 unfold getAttr? getAttrBy?
 repeat (any_goals (first|assumption|with_reducible refine own.at ?_|with_reducible refine first_.at ?_|with_reducible refine then_.at ?_|wp_step))
 exact ZL X I k (by repeat (any_goals (first|assumption|wp_step)))
def ZN(a C:ah)(h:cu):Prop:=∃o,InstAt h a o C none
def ZO(k:Du K C):KitX K (.ref a) (.ref C) (ZN a C) where
 ty:=λ_ _ _⟨_,I⟩=>I.type
 it:=λ_ _ X _=>(kit_cls X k.se).2.1
 ne:=λh tp dd its n sl X htp=>by
  cases z:(iu C==iu tp)with
  |false=>rfl
  |true=>
   obtain rfl:C=tp:=by simpa using z
   let⟨oc,od,cd,osl,lk⟩:=k.lk;have:=X _ _ lk;rw[htp]at this;simp at this
 ca:=λ{prog w A E Q s}X⟨o,I⟩hq=>by let⟨hh,g,d,t,os⟩:=s;exact ZM X I k hq
end
inductive Ty where
 |non|bl|int|str|tup|lst|dct|exc (c:Nat)
def jN:Dv->Hs->Option Ty
 |.non,_=>some .non
 |.bl _,_=>some .bl
 |.int _,_=>some .int
 |.str _,_=>some .str
 |.tup _,_=>some .tup
 |.ref i,h=>match getL h i with
  |some _=>some .lst
  |none=>none
 |.edc,_=>some .dct
 |.exc c,_=>some (.exc c)
 |.scr,_=>none
def nB(cl:Nat->ah):Ty->af
 |.non=>.type "NoneType"
 |.bl=>.type "bool"
 |.int=>.type "int"
 |.str=>.type "str"
 |.tup=>.type "tuple"
 |.lst=>.type "list"
 |.dct=>.type "dict"
 |.exc c=>.ref (cl c)
def bI(f:Ty->Option Bool)(d:Dv)(h:Hs):Rs Dv:=match jN d h with
 |some ty=>match f ty with
  |some b=>.ok (.bl b) h
  |none=>.bad
 |none=>.bad
section
variable{pins:List (ah×Obj)}{σ:St}{H:Hp}{s:ag}
def MW{v:V}(I:Inv X pins σ H s)(sm:Bz G μ h H)(r:Bq G μ h.length H d v)(ru:RelV v u)(e:jN d h=some ty)(hex:∀c,ty=.exc c->Du X.K (G.cl c)):
  ∃P,KitX X.K u (nB G.cl ty) P/\P s.heap/\u≠.builtin "__main__.__loader__#opaque":=by
 cases d with
 |non=>cases e;rw[Bq]at r;subst r;cases ru;exact⟨_,kitx_none,trivial,λz=>nomatch z⟩
 |bl b=>cases e;rw[Bq]at r;subst r;cases ru;exact⟨_,kitx_bool,trivial,λz=>nomatch z⟩
 |int i=>cases e;rw[Bq]at r;subst r;obtain⟨t,rfl⟩:=ru;exact⟨_,kitx_int,trivial,λz=>nomatch z⟩
 |str i=>cases e;rw[Bq]at r;subst r;obtain⟨t,rfl⟩:=ru;exact⟨_,kitx_str,trivial,λz=>nomatch z⟩
 |tup ds=>
  cases e;obtain⟨a,vs,rfl,ea,_⟩:=r;cases ru;let⟨_,_,_,o,h1,h2,_⟩:=(show Bv X.prog X.w H s.heap a (.tup vs) from I.hok a _ ea)
  exact⟨_,kitx_tuple,⟨o,h1,h2⟩,λz=>nomatch z⟩
 |ref i=>
  dsimp only[jN]at e
  cases g:getL h i with
  |none=>rw[g]at e;cases e
  |some xs=>
   rw[g]at e;cases e;obtain⟨_,rfl⟩:=r;cases ru;let⟨vs,ea,_⟩:=sm.ob i _ (dN g);let⟨_,_,n,_,h1⟩:=(show Bv X.prog X.w H s.heap (μ i) (.lst vs) from I.hok _ _ ea)
   exact⟨_,kitx_list,⟨_,h1,rfl⟩,λz=>nomatch z⟩
 |edc=>
  cases e;obtain⟨a,rfl,ea⟩:=r;cases ru;let⟨_,_,vs,_,p⟩:=(show Bv X.prog X.w H s.heap a (.dK []) from I.hok a _ ea)
  let⟨o,es,ep,h1,h2,_⟩:=p;exact⟨_,kitx_dict,⟨o,h1,h2.1⟩,λz=>nomatch z⟩
 |exc c=>
  cases e;obtain⟨a,o,uo,rfl,ea,hc,hdn,vs,hd⟩:=r;cases ru;let⟨h1,_⟩:=(show Bv X.prog X.w H s.heap a (.frz o uo) from I.hok a _ ea)
  refine⟨_,ZO (hex c rfl),⟨o,h1,hc,?_,?_⟩,λz=>nomatch z⟩
  ·unfold notCls;rw[hd]
  ·rw[hdn];trivial
 |scr=>cases e
end
section
variable{a b:bq}{ma:M Dv}{p pos:Pos}{f:Ty->Option Bool}
def MX:dz "isinstance"=some (.builtin "isinstance"):=by decide+kernel
def MY(G:Cfg)(f:Ty->Option Bool)(c:V):Ho->Hp->VK->Prop:=λxs H Q=>∃μ h d v ty bb,xs=[v,c]/\Bz G μ h H/\Bq G μ h.length H d v/\jN d h=some ty/\f ty=some bb/\Q (.bl bb) H
def ZP{c:V}(hc:(∃T,c=.ty T)∨∃C,c=.ref C)(rc:RelV c u)(hf:∀ty bb,f ty=some bb->kitOne X.K (nB G.cl ty) u=some bb)(hex:∀c bb,f (.exc c)=some bb->Du X.K (G.cl c)):Bx X (.builtin "isinstance") (MY G f c):=by
 intro pins s σ H xs us Q I rv ⟨μ,h,d,v,ty,bb,e1,sm,r,et,ef,q⟩;subst e1;obtain⟨u1,u2,rfl,r1,r2⟩:=wC rv;have e2:u2=u:=by rcases hc with⟨T,rfl⟩|⟨C,rfl⟩<;>(cases rc;cases r2;rfl)
 subst e2;let⟨P,Z,hP,hne⟩:=MW I sm r r1 et (λc z=>by subst z;exact hex c bb ef);exact kia_one Z I.kIn hP (hf ty bb ef) hne λtk=>⟨.bl bb,H,I.tok _,rfl,q⟩
def rR(hg:Gl X x)(hm:X.mg x=none)(hv:dz x=some (.type T))(hn:x≠"__name__":=by decide)(hd:(x==Hn)=false:=by decide):PE X (.Name x pos) (tC (.ty T)):=λpins s σ H Q I h=>tH I hg hm hv ⟨.ty T,H,I,rfl,h⟩ hn hd
theorem uF{c:V}{u:af}(hg:Gl X "isinstance")(hm:X.mg "isinstance"=none)(ha:aJ X G E a ma)(hb:PE X b (tC c))(hc:(∃T,c=.ty T)∨∃C,c=.ref C)(rc:RelV c u)(hf:∀ty bb,f ty=some bb->kitOne G.K (nB G.cl ty) u=some bb)(hex:∀c bb,f (.exc c)=some bb->Du G.K (G.cl c))(he:ay [a,b] X.env=[(false,eval a X.env),(false,eval b X.env)]:=by rfl)(Eh:ay [b] X.env=[(false,eval b X.env)]:=by rfl):
  aJ X G E (.Call (.Name "isinstance" p) [a,b] [] pos) (m1 (bI f) ma):=λhK=>
 Gp (tK (ZP (G:=G) (f:=f) hc rc (by rw[hK];exact hf) (by rw[hK];exact hex)) hg hm MX (hY (ha hK) (hY hb jI Eh) (by rw[he,Eh])) (by decide) (by decide) (by rw[he,Eh]) (by rw[Eh];rfl))
  λσ H Q⟨μ,ρ,h,rs,s,o⟩=>eZ rs s o λμ1 d h1 v H1 x1 Cc s1 r1 o1=>by
   show MY G f c [v,c] H1 Q;unfold bI at o1
   cases q:jN d h1 with
   |none=>rw[q]at o1;exact o1.elim
   |some ty=>
    rw[q]at o1;dsimp only at o1
    cases q2:f ty with
    |none=>rw[q2]at o1;exact o1.elim
    |some bb=>rw[q2]at o1;exact⟨μ1,h1,d,v,ty,bb,rfl,s1,r1,q,q2,o1.val s1 rfl⟩
def MZ(G:Cfg)(f:Ty->Option Bool)(cs:Ho):Ho->Hp->VK->Prop:=λxs H Q=>∃μ h d v ty bb tp,xs=[v,.ref tp]/\H tp=some (.tup cs)/\Bz G μ h H/\Bq G μ h.length H d v/\jN d h=some ty/\f ty=some bb/\Q (.bl bb) H
def ZQ(Ew:∀us',Bs cs us'->us'=us)(hf:∀ty bb,f ty=some bb->kitAny X.K (nB G.cl ty) us=some bb)(hex:∀c bb,f (.exc c)=some bb->Du X.K (G.cl c)):Bx X (.builtin "isinstance") (MZ G f cs):=by
 intro pins s σ H xs uu Q I rv ⟨μ,h,d,v,ty,bb,tp,e1,etp,sm,r,et,ef,q⟩;subst e1;obtain⟨u1,u2,rfl,r1,r2⟩:=wC rv;cases r2;let⟨_,its,rits,o,h1,h2,_,n,h3⟩:=(show Bv X.prog X.w H s.heap tp (.tup cs) from I.hok tp _ etp)
 have eits:=Ew its rits;subst eits;let⟨oc,od,odata,osl⟩:=o
 cases h2;cases h3
 let⟨P,Z,hP,hne⟩:=MW I sm r r1 et (λc z=>by subst z;exact hex c bb ef);exact kia_tup Z I.kIn hP h1 (hf ty bb ef) hne λtk=>⟨.bl bb,H,I.tok _,rfl,q⟩
theorem ZR{cs:Ho}{us:List af}{bs:List bq}{kt:Nat}{tpos:Pos}(hg:Gl X "isinstance")(hm:X.mg "isinstance"=none)(ha:aJ X G E a ma)(hb:PA X bs (λ_ H Q=>Q cs H))(hl:cs.length<=cg)(Ew:∀us',Bs cs us'->us'=us)(hf:∀ty bb,f ty=some bb->kitAny G.K (nB G.cl ty) us=some bb)(hex:∀c bb,f (.exc c)=some bb->Du G.K (G.cl c))(he:ay [a,.Tuple bs kt tpos] X.env=[(false,eval a X.env),(false,eval (.Tuple bs kt tpos) X.env)]:=by rfl)(Eh:ay [.Tuple bs kt tpos] X.env=[(false,eval (.Tuple bs kt tpos) X.env)]:=by rfl):
  aJ X G E (.Call (.Name "isinstance" p) [a,.Tuple bs kt tpos] [] pos) (m1 (bI f) ma):=λhK=>
 Gp (tK (ZQ (G:=G) (f:=f) Ew (by rw[hK];exact hf) (by rw[hK];exact hex)) hg hm MX (hY (ha hK) (hY (KI hb) jI Eh) (by rw[he,Eh])) (by decide) (by decide) (by rw[he,Eh]) (by rw[Eh];rfl))
  λσ H Q⟨μ,ρ,h,rs,s,o⟩=>eZ rs s o λμ1 d h1 v H1 x1 Cc s1 r1 o1=>by
   refine⟨hl,λtp htp=>?_⟩;show MZ G f cs [v,.ref tp] (upd H1 tp (.tup cs)) Q;unfold bI at o1
   cases q:jN d h1 with
   |none=>rw[q]at o1;exact o1.elim
   |some ty=>
    rw[q]at o1;dsimp only at o1
    cases q2:f ty with
    |none=>rw[q2]at o1;exact o1.elim
    |some bb=>rw[q2]at o1;have x2:Ext μ1 h1.length H1 μ1 h1.length (upd H1 tp (.tup cs)):=Gm (cN htp);exact⟨μ1,h1,d,v,ty,bb,tp,rfl,cU,s1.same (cN htp),Gx x2 _ _ r1,q,q2,o1 μ1 _ _ x2 (s1.same (cN htp)) rfl⟩
end
def pX:Dv->Option Bool
 |.bl b=>some b
 |_=>none
theorem FK:∀{xs:Bj}{vs:Ho}{bs:List Bool},RelDL G μ n H xs vs->bE pX xs=some bs->vs=bs.map V.bl
 |[],vs,bs,r,e=>by cases e;rw[RelDL]at r;exact r
 |x::xs,vs,bs,r,e=>by
  rw[RelDL]at r;obtain⟨v,rr,rfl,r1,r2⟩:=r;unfold bE at e
  cases x with
  |bl b=>
   dsimp only[pX]at e
   cases q:bE pX xs with
   |none=>rw[q]at e;cases e
   |some zs=>rw[q]at e;cases e;rw[Bq]at r1;subst r1;rw[FK r2 q];rfl
  |_=>cases e
section
variable{X:Cx}{pins:List (ah×Obj)}{σ:St}{H:Hp}{s:ag}
def ZS(bs:List Bool):(ba bs.length).all (λi=>bs.getD i false)=bs.all id:=by
 rw[dk,dv,dv];constructor
 ·intro h b hb;obtain⟨i,hi,rfl⟩:=vh.mp hb;simpa[qz,hi]using h i (bx.mpr hi)
 ·intro h i hi;have hi:=bx.mp hi;simpa[qz,hi]using h _ (dj hi)
def ZT(bs:List Bool):(ba bs.length).any (λi=>bs.getD i false)=bs.any id:=by
 rw[dk,pz,pz];constructor
 ·rintro ⟨i,hi,h⟩
  have hi:=bx.mp hi;exact⟨bs[i],dj hi,by simpa[qz,hi]using h⟩
 ·rintro ⟨b,hb,h⟩
  obtain⟨i,hi,rfl⟩:=vh.mp hb;exact⟨i,bx.mpr hi,by simpa[qz,hi]using h⟩
def ZU{bs:List Bool}(rv:Bs (bs.map V.bl) its){v:af}(e:its.toArray[i]?=some v):v=.bool (bs.getD i false):=by
 have hl:=rv.length;rw[bo]at hl;have e':its[i]?=some v:=by simpa using e
 have hi:i<its.length:=(bf.mp e').1;have hb:i<bs.length:=by lia
 let⟨u,e2,r⟩:=rv.get (i:=i) (x:=V.bl bs[i]) (by simp[hb]);rw[e']at e2;cases e2;have hg:bs.getD i false=bs[i]:=by simp[qz,hb]
 rw[hg];exact r
theorem M1{bs:List Bool}{its:List af}{A:cb}(rv:Bs (bs.map V.bl) its):TruthOf X.prog X.w A (λi v=>its.toArray[i]?=some v) (λi=>bs.getD i false):=by intro i v s Q E e q;rw[ZU rv e];exact nj q
def M3{h':cu}(I:Inv X pins σ H s)(k:∀b u,b∉[s.heap.objs.size]->(s.heap.push o).get? b=some u->h'.get? b=some u):Inv X pins σ H {s with heap:=h',toks:=tk}:=by have I1:Inv X pins σ H {s with heap:=s.heap.push o}:=I.kept (t':=s.toks) λb u e=>ao _ e;let⟨f0,f1,f2,f3,f4,f5⟩:=I.fpOk (aq s.heap.objs.size) I.fresh;exact I1.turned (t':=tk) (λb u hb e=>k b u (by simpa using hb) e) f0 f1 f3 f4 f5
def ZV(hc:X.calm=true):Bx X (.builtin "all") (λxs H Q=>∃(p:ah)(bs:List Bool),xs=[.ref p]/\H p=some (.lst (bs.map V.bl))/\Q (.bl (bs.all id)) H):=by
 intro pins s σ H xs us Q I rv ⟨p,bs,e,hp,q⟩;subst e;obtain⟨u,rfl,ru⟩:=jB rv;cases ru;let⟨its,rits,pl,hz⟩:=I.list (He hp);have hn:its.toArray.size=bs.length:=by have:=rits.length;simp at this⊢;lia
 have ne:p≠s.heap.objs.size:=bc (I.hok.lt hp);refine call_all_walk (uk pl.isList ⟨_,_,_,_,_,_,λi=>bs.getD i false,rfl,Bd (A:=X.A.in1) (show X.A.in1.handled=none from I.ok.hd hc) _ p ne its.toArray,⟨⟨_,bg _ rfl,rfl,rfl⟩,pl.isList.push _⟩,M1 rits,λh' tk k=>?_⟩);rw[hn,ZS];exact⟨.bl _,H,(M3 (tk:=tk) I k:Inv X pins σ H {s with heap:=h',toks:=tk}),rfl,q⟩
def ZW(hc:X.calm=true):Bx X (.builtin "any") (λxs H Q=>∃(p:ah)(bs:List Bool),xs=[.ref p]/\H p=some (.lst (bs.map V.bl))/\Q (.bl (bs.any id)) H):=by
 intro pins s σ H xs us Q I rv ⟨p,bs,e,hp,q⟩;subst e;obtain⟨u,rfl,ru⟩:=jB rv;cases ru;let⟨its,rits,pl,hz⟩:=I.list (He hp);have hn:its.toArray.size=bs.length:=by have:=rits.length;simp at this⊢;lia
 have ne:p≠s.heap.objs.size:=bc (I.hok.lt hp);refine call_any_walk (uk pl.isList ⟨_,_,_,_,_,_,λi=>bs.getD i false,rfl,Bd (A:=X.A.in1) (show X.A.in1.handled=none from I.ok.hd hc) _ p ne its.toArray,⟨⟨_,bg _ rfl,rfl,rfl⟩,pl.isList.push _⟩,M1 rits,λh' tk k=>?_⟩);rw[hn,ZT];exact⟨.bl _,H,(M3 (tk:=tk) I k:Inv X pins σ H {s with heap:=h',toks:=tk}),rfl,q⟩
end
section
variable{e:bq}{ml:M Bj}{x:Str}{p pos:Pos}{bid T:String}
def mL(f:Bi)(ml:M Bj ):M Dv:=λρ h=>(ml ρ h).bind f
def FL(G:Cfg)(r:Ho->Hp->VK->Prop)(f:Bi):Prop:=∀(E:XK)(μ:Nat->ah)(h:Hs)(H:Hp)(xs:Bj)(a:ah)(vs:Ho)(Q:VK),Bz G μ h H->H a=some (.lst vs)->RelDL G μ h.length H xs vs->Out G E μ h.length H (f xs h) (Bq G) Q->r [.ref a] H Q
theorem M4{r:Ho->Hp->VK->Prop}{f:Bi}(hd:FL G r f){σ:St}{H:Hp}{Q:VK}(t:jC G E (mL f ml) σ H Q):zF r (KH (AB G E ml) KG) σ H Q:=by obtain⟨μ,ρ,h,rs,s,o⟩:=t;refine⟨μ,ρ,h,rs,s,(o.bind (R1:=RL G)).mono λv H1⟨μ1,xs,h1,x1,s1,⟨a,vs,ev,ea,_,r1⟩,o1⟩=>?_⟩;subst ev;exact hd E μ1 h1 H1 xs a vs Q s1 ea r1 o1
def M5(hc:Bx X (.builtin bid) r)(hd:FL G r f)(hg:Gl X x)(hm:X.mg x=none)(hv:dz x=some (.builtin bid))(ha:mD X G E e ml)(hn:x≠"__name__":=by decide)(Dw:(x==Hn)=false:=by decide)(he:ay [e] X.env=[(false,eval e X.env)]:=by rfl):aJ X G E (.Call (.Name x p) [e] [] pos) (mL f ml):=λhK=>
 Gp (tK hc hg hm hv (hY (ha hK) jI he) hn Dw he rfl) λ_ _ _ t=>M4 hd t
def ZX(hc:Bx X (.type T) r)(hd:FL G r f)(hg:Gl X x)(hm:X.mg x=none)(hv:dz x=some (.type T))(ha:mD X G E e ml)(hn:x≠"__name__":=by decide)(Dw:(x==Hn)=false:=by decide)(he:ay [e] X.env=[(false,eval e X.env)]:=by rfl):aJ X G E (.Call (.Name x p) [e] [] pos) (mL f ml):=λhK=>
 Gp (tL hc hg hm hv (hY (ha hK) jI he) hn Dw he rfl) λ_ _ _ t=>M4 hd t
def ZY:dz "all"=some (.builtin "all"):=by decide+kernel
def ZZ:dz "any"=some (.builtin "any"):=by decide+kernel
def kB(xs:Bj)(h:Hs):Rs Dv:=match bE pX xs with
 |some bs=>.ok (.bl (bs.all id)) h
 |none=>.bad
def wR(xs:Bj)(h:Hs):Rs Dv:=match bE pX xs with
 |some bs=>.ok (.bl (bs.any id)) h
 |none=>.bad
theorem uG(hc:X.calm=true)(hg:Gl X "all")(hm:X.mg "all"=none)(ha:mD X G E e ml)(he:ay [e] X.env=[(false,eval e X.env)]:=by rfl):aJ X G E (.Call (.Name "all" p) [e] [] pos) (mL kB ml):=
 M5 (ZV hc) (λE μ h H xs a vs Q s ea r o=>by
  unfold kB at o
  cases q:bE pX xs with
  |none=>rw[q]at o;exact o.elim
  |some bs=>rw[q]at o;exact⟨a,bs,rfl,by rw[ea,FK r q],o.val s rfl⟩) hg hm ZY ha (by decide) (by decide) he
theorem Z0(hc:X.calm=true)(hg:Gl X "any")(hm:X.mg "any"=none)(ha:mD X G E e ml)(he:ay [e] X.env=[(false,eval e X.env)]:=by rfl):aJ X G E (.Call (.Name "any" p) [e] [] pos) (mL wR ml):=
 M5 (ZW hc) (λE μ h H xs a vs Q s ea r o=>by
  unfold wR at o
  cases q:bE pX xs with
  |none=>rw[q]at o;exact o.elim
  |some bs=>rw[q]at o;exact⟨a,bs,rfl,by rw[ea,FK r q],o.val s rfl⟩) hg hm ZZ ha (by decide) (by decide) he
def pY(xs:Bj)(h:Hs):Rs Dv:=.ok (.tup xs) h
def M6(hg:Gl X "tuple")(hm:X.mg "tuple"=none)(ha:mD X G E e ml)(he:ay [e] X.env=[(false,eval e X.env)]:=by rfl):aJ X G E (.Call (.Name "tuple" p) [e] [] pos) (mL pY ml):=ZX K8 (λE μ h H xs a vs Q s ea r o=>⟨a,vs,rfl,.inl ⟨He ea,λl hl=>o μ _ _ (Gm (cN hl)) (s.same (cN hl)) ⟨l,vs,rfl,cU,Gk (Gm (cN hl)) _ _ r⟩⟩⟩) hg hm zV ha (by decide) (by decide) he
end
section
variable{o e i:bq}{mo me mi:M Dv}{ml:M Bj}{pos apos cpos:Pos}
theorem Z1{H:Hp}{a:ah}{vs:Ho}(e:H a=some (.lst vs)):zG X.K "list" (.ref a) H:=.inl ⟨rfl,vs,He e⟩
def rS(o d:Dv)(h:Hs):Rs Dv:=match o with
 |.ref j=>match getL h j with
  |some xs=>if xs.length<1000000 then .ok .non (h.set j (.lst (xs++[d])))else .bad
  |none=>.bad
 |_=>.bad
def kC(o:Dv)(h:Hs):Bool:=match o with
 |.ref j=>(getL h j).isSome
 |_=>false
def iQ(mo me:M Dv):M Dv:=λρ h=>(mo ρ h).bind λx h1=>if kC x h1=true then(me ρ h1).bind λd h2=>rS x d h2 else .bad
theorem FN{μ:Nat->ah}{h:Hs}{H:Hp}{x:Dv}{v:V}(s:Bz G μ h H)(r:Bq G μ h.length H x v)(e:kC x h=true):zG X.K "list" v H:=by
 cases x with
 |ref j=>obtain⟨xs,q⟩:=yt.mp (show(getL h j).isSome=true from e);obtain⟨vs,ea,_⟩:=s.ob j _ (dN q);obtain⟨_,rfl⟩:=r;exact Z1 ea
 |_=>cases e
theorem uH{y:Str}{np:Pos}(ho:aJ X G E (.Name y np) mo)(he:aJ X G E e me)(hs:ay [e] X.env=[(false,eval e X.env)]:=by rfl)(hl:(apos.endLine==cpos.line)=true:=by rfl):aJ X G E (.Call (.Attribute (.Name y np) "append" apos) [e] [] cpos) (iQ mo me):=λhK=>
 Gp (EM sk PySem.F.slot_list_append PySem.F.type_list_append XX (ho hK) (hY (he hK) jI hs) rfl (by rw[hs];rfl) hl hs rfl) λσ H Q⟨μ,ρ,h,rs,s,oo⟩=>eZ rs s oo λμ1 x h1 vx H1 x1 Cc s1 r1 o1=>by
  split at o1
  ·rename_i hl;refine⟨FN s1 r1 hl,eZ Cc s1 o1 λμ2 d h2 vd H2 x2 Dn s2 r2 o2=>?_⟩
   cases x with
   |ref j=>
    dsimp only[rS]at o2
    cases q:getL h2 j with
    |none=>rw[q]at o2;exact o2.elim
    |some xs=>
     rw[q]at o2;dsimp only at o2
     split at o2
     ·rename_i hz;obtain⟨vs,ea,ra⟩:=s2.ob j _ (dN q);obtain⟨_,rfl⟩:=Gx x2 _ _ r1;obtain⟨x3,s3⟩:=s2.write (dN q) (ra.append (Gw r2 Gr));exact⟨_,vs,vd,rfl,rfl,ea,by rw[ra.length];exact aw hz (by decide),o2 μ2 _ _ x3 s3 rfl⟩
     ·exact o2.elim
   |_=>exact o2.elim
  ·exact o1.elim
end
section
variable{e i:bq}{mo me mi:M Dv}{ml:M Bj}{pos apos cpos np:Pos}{y:Str}
def wU(o:Dv)(ys:Bj)(h:Hs):Rs Dv:=match o with
 |.ref j=>match getL h j with
  |some xs=>lim (xs.length+ys.length) (.ok .non (h.set j (.lst (xs++ys))))
  |none=>.bad
 |_=>.bad
def lD(mo:M Dv)(ml:M Bj ):M Dv:=λρ h=>(mo ρ h).bind λx h1=>if kC x h1=true then(ml ρ h1).bind λys h2=>wU x ys h2 else .bad
theorem M7(ho:aJ X G E (.Name y np) mo)(he:mD X G E e ml)(hs:ay [e] X.env=[(false,eval e X.env)]:=by rfl)(hl:(apos.endLine==cpos.line)=true:=by rfl):aJ X G E (.Call (.Attribute (.Name y np) "extend" apos) [e] [] cpos) (lD mo ml):=λhK=>
 Gp (EM sk PySem.F.slot_list_extend PySem.F.type_list_extend XZ (ho hK) (hY (he hK) jI hs) rfl (by rw[hs];rfl) hl hs rfl) λσ H Q⟨μ,ρ,h,rs,s,oo⟩=>eZ rs s oo λμ1 x h1 vx H1 x1 Cc s1 r1 o1=>by
  split at o1
  ·rename_i hl;refine⟨FN s1 r1 hl,μ1,ρ,h1,Cc,s1,(o1.bind (R1:=RL G)).mono λv H2⟨μ2,ys,h2,x2,s2,⟨b,ws,ev,eb,nb,rb⟩,o2⟩=>?_⟩;subst ev
   cases x with
   |ref j=>
    dsimp only[wU]at o2
    cases q:getL h2 j with
    |none=>rw[q]at o2;exact o2.elim
    |some xs=>
     rw[q]at o2;dsimp only at o2;unfold lim at o2
     split at o2
     ·rename_i hz;obtain⟨vs,ea,ra⟩:=s2.ob j _ (dN q);obtain⟨_,rfl⟩:=Gx x2 _ _ r1;obtain⟨x3,s3⟩:=s2.write (dN q) (ra.append rb);exact⟨_,b,vs,ws,rfl,rfl,ea,eb,by rw[ra.length,rb.length];exact wJ hz,o2 μ2 _ _ x3 s3 rfl⟩
     ·exact o2.elim
   |_=>exact o2.elim
  ·exact o1.elim
def kD(o i d:Dv)(h:Hs):Option Hs:=match o,i with
 |.ref j,.int k=>match getL h j with
  |some xs=>match eO xs.length k with
   |some n=>some (h.set j (.lst (xs.set n d)))
   |none=>none
  |none=>none
 |_,_=>none
def wV(mo mi me:M Dv):MS:=λρ h=>(me ρ h).thenS λd h1=>(mo ρ h1).thenS λo h2=>(mi ρ h2).thenS λi h3=>match kD o i d h3 with
 |some h4=>.nx ρ h4
 |none=>.bad
def M8(ho:aJ X G E o mo)(hi:aJ X G E i mi)(he:aJ X G E e me)(ha:∀v,assign (.Subscript o i spos) X.env v=(do
   let ov <-holding [v] (eval o X.env)
   let iv <-holding [v,ov] (eval i X.env)
   standAt spos
   holding [v,ov,iv] (setItem ov iv v)
   release [v,ov,iv] []):=by intro _;rfl)(hs:swapsWithSole [.Subscript o i spos] e pos.line X.env=pure false:=by rfl)(hw:swappedStores [.Subscript o i spos] e X.env=pure none:=by rfl)(h1:(assignEach [.Subscript o i spos] X.env).map (·.2)=[assign (.Subscript o i spos) X.env]:=by rfl):iK X G E (.Assign [.Subscript o i spos] e pos) (wV mo mi me):=λhK=>
 PS.imp (DW (he hK) (DV (ho hK) (hi hK) EL ha) hs hw h1) λD σ H⟨μ,ρ,h,rs,s,oo⟩=>jY rs s oo λμ1 d h1 v H1 x1 Cc s1 r1 o1=>jY Cc s1 o1 λμ2 ob h2 vo H2 x2 Dn s2 r2 o2=>jY Dn s2 o2 λμ3 ix h3 vi H3 x3 Ft s3 r3 o3=>by
  cases ob with
  |ref j=>
   cases ix with
   |int k=>
    dsimp only[kD]at o3
    cases q:getL h3 j with
    |none=>rw[q]at o3;exact o3.elim
    |some xs=>
     rw[q]at o3;dsimp only at o3
     cases q2:eO xs.length k with
     |none=>rw[q2]at o3;exact o3.elim
     |some n=>rw[q2]at o3;let⟨vs,ea,ra⟩:=s3.ob j _ (dN q);obtain⟨_,rfl⟩:=Gx x3 _ _ r2;rw[Bq]at r3;subst r3;let⟨x4,s4⟩:=s3.write (dN q) (RelDL.set (Gx (x2.trans x3) _ _ r1) n ra);exact⟨_,vs,k,n,rfl,rfl,ea,by rw[ra.length];exact q2,o3 μ3 _ σ x4 s4 (Ft.mono x4)⟩
   |_=>exact o3.elim
  |_=>cases ix<;>exact o3.elim
end
section
variable{prog:bp}{w:cm}{A:cb}{E:af->ag->Prop}{s:ag}
theorem Z2{it t:ah}{i:Nat}{items:Array af}{x:af}{Q:af->ag->Prop}(hit:s.heap.IsTupleIter it t i)(ht:s.heap.IsTuple t items)(hx:items[i]?=some x)(k:∀h',h'.IsTupleIter it t (i+1)->je it s.heap h'->Q x {s with heap:=h'}):wpAny (model prog w) A (fw (.ref it)) Q E s:=by
 obtain⟨o,ho,hc,hd⟩:=id hit;obtain⟨ol,hol,Fv,nl,hdl⟩:=id ht;refine aa (gn (name:=mf "__next__") hit.typeIs F.slot_tuple_iterator_next (fv F.slot_tuple_iterator_next hit.typeIs F.entry_tuple_iterator_next ?_ (F.args_tuple_iterator_next_1 _)));have q0:∀{Q':af->ag->Prop}{E':af->ag->Prop}{B:cb},Q' (.ref t) s->wpAny (model prog w) B (field (.ref it) 0) Q' E' s:=λq=>fg ho hd (x:=.ref t) rfl q;have q1:∀{Q':af->ag->Prop}{E':af->ag->Prop}{B:cb},Q' (.int i 0) s->wpAny (model prog w) B (field (.ref it) 1) Q' E' s:=λq=>fg ho hd (x:=.int i 0) rfl q;refine aa (ak (aa (q0 ?_)));dsimp only;rw[if_neg (by simp)];refine aa (q1 (aa (jt hol hdl ?_)));rw[show((i:Int)).toNat=i from fq i];dsimp only;rw[hx];refine aa (An ho hd (by simp) (ak ⟨x,rfl,ak (k _ ⟨_,ph _ ho (Aw (wq hd _)),?_,?_⟩ (pg ..))⟩))
 ·rw[Obj.cls_mapFields];exact hc
 ·rw[wq hd];simp[rawInt]
end
section
variable{prog:bp}{w:cm}{A:cb}{E:af->ag->Prop}{s:ag}
theorem Z3{α:Type}{Q:α->ag->Prop}(hh:A.handled=none)(k:∀h' e,(∀b o,s.heap.get? b=some o->h'.get? b=some o)->(∃o,h'.get? e=some o/\o.cls=.type "StopIteration")->E (.ref e) {s with heap:=h'}):
  wpAny (model prog w) A (tm:Sem α) Q E s:=by
 have e0:firstArgMember (.type "StopIteration") []=pure jy:=by show(pure (if _ then jy else jy):Sem af)=_;rw[ite_self]
 unfold tm newExc newTuple;refine aa (aa (dw (aa (zj e0 (dw (wpAny_raiseNew_none hh (k _ _ (λb o q=>ao _ (ao _ q)) ⟨_,bg _ rfl,rfl⟩)) (by size_fits)))) (by size_fits)))
theorem Z4{it t:ah}{i:Nat}{items:Array af}{Q:af->ag->Prop}(hh:A.handled=none)(hit:s.heap.IsTupleIter it t i)(ht:s.heap.IsTuple t items)(hx:items[i]?=none)(k:∀h' e,Ax it s.heap h'->(∃o,h'.get? e=some o/\o.cls=.type "StopIteration")->E (.ref e) {s with heap:=h'}):wpAny (model prog w) A (fw (.ref it)) Q E s:=by
 obtain⟨o,ho,hc,hd⟩:=id hit;obtain⟨ol,hol,Fv,nl,hdl⟩:=id ht;refine aa (gn (name:=mf "__next__") hit.typeIs F.slot_tuple_iterator_next (fv F.slot_tuple_iterator_next hit.typeIs F.entry_tuple_iterator_next ?_ (F.args_tuple_iterator_next_1 _)));have q0:∀{Q':af->ag->Prop}{E':af->ag->Prop}{B:cb},Q' (.ref t) s->wpAny (model prog w) B (field (.ref it) 0) Q' E' s:=λq=>fg ho hd (x:=.ref t) rfl q;have q1:∀{Q':af->ag->Prop}{E':af->ag->Prop}{B:cb},Q' (.int i 0) s->wpAny (model prog w) B (field (.ref it) 1) Q' E' s:=λq=>fg ho hd (x:=.int i 0) rfl q;refine aa (ak (aa (q0 ?_)));dsimp only;rw[if_neg (by simp)];refine aa (q1 (aa (jt hol hdl ?_)));rw[show((i:Int)).toNat=i from fq i];dsimp only;rw[hx];refine aa (tq (aa (An ho hd (by simp) (Z3 (show A.in1.handled=none from hh) λh' e kp st=>k h' e (λb u hb q=>kp b u ?_) st))));rw[ow _ _ (dh hb)];exact q
end
structure Draws(prog:bp)(w:cm)(it src:ah)(xs:List af)(st:Nat->cu->Prop):Prop where
 keep:∀i h h',st i h->(∀b o,b=it∨b=src->h.get? b=some o->h'.get? b=some o)->st i h'
 there:∀i h,st i h->∃o vs,h.get? it=some o/\o.data=.fields vs
 item:∀(A:cb)(i:Nat)(x:af)(s:ag)(Q:af->ag->Prop)(E:af->ag->Prop),xs[i]?=some x->st i s.heap->
  (∀h',st (i+1) h'->je it s.heap h'->Q x {s with heap:=h'})->wpAny (model prog w) A (fw (.ref it)) Q E s
 done:∀(A:cb)(i:Nat)(s:ag)(Q:af->ag->Prop)(E:af->ag->Prop),A.handled=none->xs[i]?=none->st i s.heap->
  (∀h' e,Ax it s.heap h'->(∃o,h'.get? e=some o/\o.cls=.type "StopIteration")->E (.ref e) {s with heap:=h'})->wpAny (model prog w) A (fw (.ref it)) Q E s
structure Four(z TI TO i j u v:ah):Prop where
 a:z≠TO
 b:z≠i
 c:z≠j
 d:TO≠i
 e:TO≠j
 f:i≠j
 g:TI≠z
 h:TI≠TO
 k:TI≠i
 l:TI≠j
 u1:u≠z
 u2:u≠TO
 u3:u≠i
 u4:u≠j
 v1:v≠z
 v2:v≠TO
 v3:v≠i
 v4:v≠j
def jE(h:b=x∨b=y)(p:x≠c)(q:y≠c):b≠c:=by
 rcases h with h|h
 ·rw[h];exact p
 ·rw[h];exact q
def AG(z TO i j:ah)(h h':cu):Prop:=∀b o,b≠z->b≠TO->b≠i->b≠j->h.get? b=some o->h'.get? b=some o
section
variable{prog:bp}{w:cm}{A:cb}{E:af->ag->Prop}{s:ag}{z TI TO i j u v:ah}{xs ys:List af}{st su:Nat->cu->Prop}
theorem Z5{n:Nat}{x y a b:af}{Q:af->ag->Prop}(F4:Four z TI TO i j u v)(P:Draws prog w i u xs st)(R:Draws prog w j v ys su)(hz:zk s.heap z TI TO .none)(hTI:qf s.heap TI (.ref i) (.ref j))(hTO:qf s.heap TO a b)(p:st n s.heap)(r:su n s.heap)(hx:xs[n]?=some x)(hy:ys[n]?=some y)(k:∀h' T,s.heap.objs.size<=T->zk h' z TI TO (rawInt T)->qf h' TI (.ref i) (.ref j)->qf h' TO x y->st (n+1) h'->su (n+1) h'->qf h' T x y->AG z TO i j s.heap h'->Q (.ref T) {s with heap:=h'}):
  wpAny (model prog w) A (mr.«zip.__next__» ⟨[.ref z],[]⟩) (λfin s'=>∃v,fin=.done (.ret v)/\Q v s') E s:=by
 refine aa (ak (aa (fg hz rfl (x:=.bool false) rfl (aa (fg hz rfl (x:=.ref TI) rfl (aa (jt hTI rfl ?_)))))));have fr:∀{Q':Bool->ag->Prop}{E':af->ag->Prop},Q' true s->wpAny (model prog w) A (sh (.ref z)) Q' E' s:=λq=>aa (fg hz rfl (x:=.none) rfl (ak q));refine aa (fr ?_);rw[if_pos rfl];refine aa (tq (aa (fg hz rfl (x:=.ref TO) rfl (aa (jm hz (by simp) λg1 z1 b1=>?_)))));have z1':zk g1 z TI TO .ellipsis:=z1;refine aa ?_;show wpAny _ _ (forIn [(iu i,0),(iu j,1)] _ _) _ _ _;rw[qo];refine aa (aa (uw ?_));show wpAny _ _ (fw (.ref i) >>=_) _ _ _;refine aa (P.item A n x _ _ _ hx (P.keep n _ _ p λb o hb q=>b1.extBut _ _ (jE hb (dh F4.b) F4.u1) q) λg2 p2 b2=>ak ?_);have t2:qf g2 TO a b:=b2.extBut _ _ F4.d (b1.extBut _ _ (dh F4.a) hTO);refine aa (jt t2 rfl (aa (wu t2 λg3 t3 b3=>aa (wpAny_letGo (ak ?_)))));have t3':qf g3 TO x b:=t3;dsimp only;rw[qo];refine aa (aa (uw ?_));show wpAny _ _ (fw (.ref j) >>=_) _ _ _;have r3:su n g3:=R.keep n _ _ r λb o hb q=>b3.extBut _ _ (jE hb (dh F4.e) F4.v2) (b2.extBut _ _ (jE hb (dh F4.f) F4.v3) (b1.extBut _ _ (jE hb (dh F4.c) F4.v1) q));refine aa (R.item A n y _ _ _ hy r3 λg4 r4 b4=>ak ?_);have t4:qf g4 TO x b:=b4.extBut _ _ F4.e t3';refine aa (jt t4 rfl (aa (wu t4 λg5 t5 b5=>aa (wpAny_letGo (ak ?_)))));have t5':qf g5 TO x y:=t5;dsimp only;rw[List.forIn_nil];refine ak ?_;refine aa (jt t5' rfl (aa (wpAny_newTuple ?_)));have z5:zk g5 z TI TO .ellipsis:=b5.extBut _ _ F4.a (b4.extBut _ _ F4.c (b3.extBut _ _ F4.a (b2.extBut _ _ F4.b z1')));have sz:g5.objs.size=s.heap.objs.size:=by rw[b5.1,b4.1,b3.1,b2.1,b1.1]
 have all5:AG z TO i j s.heap g5:=λc o c1 c2 c3 c4 q=>b5.extBut _ _ c2 (b4.extBut _ _ c4 (b3.extBut _ _ c2 (b2.extBut _ _ c3 (b1.extBut _ _ c1 q))));have p5:st (n+1) g5:=P.keep _ _ _ p2 λb o hb q=>b5.extBut _ _ (jE hb (dh F4.d) F4.u2) (b4.extBut _ _ (jE hb F4.f F4.u4) (b3.extBut _ _ (jE hb (dh F4.d) F4.u2) q));have r5:su (n+1) g5:=R.keep _ _ _ r4 λb o hb q=>b5.extBut _ _ (jE hb (dh F4.e) F4.v2) q;generalize hob:({cls:=.type "tuple",dict:=none,data:=.seq [x,y].toArray}:Obj)=ob;have zp:zk (g5.push ob) z TI TO .ellipsis:=ao _ z5;refine aa (aa (jm zp (by simp) λg7 z7 b7=>?_));have z7':zk g7 z TI TO (rawInt g5.objs.size):=z7;refine jm z7' (by simp) λg8 z8 b8=>ak ⟨_,rfl,?_⟩;have up:∀c o,c≠z->g5.get? c=some o->g8.get? c=some o:=λc o c1 q=>b8.extBut _ _ c1 (b7.extBut _ _ c1 (ao _ q));have lz:z<g5.objs.size:=av z5;have T8:qf g8 g5.objs.size x y:=b8.extBut _ _ (jw lz) (b7.extBut _ _ (jw lz) (by rw[<-hob];exact bg _ rfl));refine k g8 g5.objs.size (rf sz.symm) z8 (up _ _ F4.g (all5 _ _ F4.g F4.h F4.k F4.l hTI)) (up _ _ (dh F4.a) t5') (P.keep _ _ _ p5 λb o hb q=>up _ _ (jE hb (dh F4.b) F4.u1) q) (R.keep _ _ _ r5 λb o hb q=>up _ _ (jE hb (dh F4.c) F4.v1) q) T8 λc o c1 c2 c3 c4 q=>up _ _ c1 (all5 c o c1 c2 c3 c4 q)
end
section
variable{prog:bp}{w:cm}{A:cb}{E:af->ag->Prop}{s:ag}{z TI TO i j u v:ah}{xs ys:List af}{st su:Nat->cu->Prop}
theorem Z6{n:Nat}{a b:af}{Q:PySem.Fin->ag->Prop}(hh:A.handled=none)(F4:Four z TI TO i j u v)(P:Draws prog w i u xs st)(R:Draws prog w j v ys su)(hz:zk s.heap z TI TO .none)(hTI:qf s.heap TI (.ref i) (.ref j))(hTO:qf s.heap TO a b)(p:st n s.heap)(r:su n s.heap)(hend:xs[n]?=none∨ys[n]?=none)(k:∀h' e,AG z TO i j s.heap h'->(∃o,h'.get? e=some o/\o.cls=.type "StopIteration")->E (.ref e) {s with heap:=h'}):
  wpAny (model prog w) A (mr.«zip.__next__» ⟨[.ref z],[]⟩) Q E s:=by
 refine aa (ak (aa (fg hz rfl (x:=.bool false) rfl (aa (fg hz rfl (x:=.ref TI) rfl (aa (jt hTI rfl ?_)))))));have fr:∀{Q':Bool->ag->Prop}{E':af->ag->Prop},Q' true s->wpAny (model prog w) A (sh (.ref z)) Q' E' s:=λq=>aa (fg hz rfl (x:=.none) rfl (ak q));refine aa (fr ?_);rw[if_pos rfl];refine aa (tq (aa (fg hz rfl (x:=.ref TO) rfl (aa (jm hz (by simp) λg1 z1 b1=>?_)))));have z1':zk g1 z TI TO .ellipsis:=z1;have p1:st n g1:=P.keep n _ _ p λb o hb q=>b1.extBut _ _ (jE hb (dh F4.b) F4.u1) q;have fin:∀(g:cu)(e:ah),zk g z TI TO .ellipsis->AG z TO i j s.heap g->(∃o,g.get? e=some o/\o.cls=.type "StopIteration")->
   wpAny (model prog w) A (setField (.ref z) 0 .none) (λ_ s'=>E (.ref e) s') E {s with heap:=g}:=λg e zz bt⟨o,he,hc⟩=>
  jm zz (by simp) λg' _ b'=>k g' e (λc u c1 c2 c3 c4 q=>b'.extBut _ _ c1 (bt c u c1 c2 c3 c4 q)) ⟨o,b'.extBut _ _ (λq=>by subst q;rw[zz]at he;cases he;simp at hc) he,hc⟩
 refine aa ?_;show wpAny _ _ (forIn [(iu i,0),(iu j,1)] _ _) _ _ _;rw[qo];refine aa (aa (uw ?_));show wpAny _ _ (fw (.ref i) >>=_) _ _ _
 cases hx:xs[n]? with
 |none=>exact aa (P.done A n _ _ _ hh hx p1 λg2 e b2 he=>fin g2 e (b2 _ _ F4.b z1') (λc u c1 _ c3 _ q=>b2 _ _ c3 (b1.extBut _ _ c1 q)) he)
 |some x=>
  have hy:ys[n]?=none:=by
   rcases hend with q|q
   ·rw[hx]at q;cases q
   ·exact q
  refine aa (P.item A n x _ _ _ hx p1 λg2 p2 b2=>ak ?_);have t2:qf g2 TO a b:=b2.extBut _ _ F4.d (b1.extBut _ _ (dh F4.a) hTO);refine aa (jt t2 rfl (aa (wu t2 λg3 t3 b3=>aa (wpAny_letGo (ak ?_)))));dsimp only;rw[qo];refine aa (aa (uw ?_));show wpAny _ _ (fw (.ref j) >>=_) _ _ _;have r3:su n g3:=R.keep n _ _ r λb o hb q=>b3.extBut _ _ (jE hb (dh F4.e) F4.v2) (b2.extBut _ _ (jE hb (dh F4.f) F4.v3) (b1.extBut _ _ (jE hb (dh F4.c) F4.v1) q));exact aa (R.done A n _ _ _ hh hy r3 λg4 e b4 he=>fin g4 e (b4 _ _ F4.c (b3.extBut _ _ F4.a (b2.extBut _ _ F4.b z1'))) (λc u c1 c2 c3 c4 q=>b4 _ _ c4 (b3.extBut _ _ c2 (b2.extBut _ _ c3 (b1.extBut _ _ c1 q)))) he)
def AH{items:Array af}(hne:t≠it):Draws prog w it t items.toList (λi h=>h.IsTupleIter it t i/\h.IsTuple t items) where
 keep:=λi h h'⟨⟨o,e,r⟩,⟨o2,e2,r2⟩⟩k=>⟨⟨o,k _ _ (.inl rfl) e,r⟩,⟨o2,k _ _ (.inr rfl) e2,r2⟩⟩
 there:=λi h⟨⟨o,e,_,d⟩,_⟩=>⟨o,_,e,d⟩
 item:=λA i x s Q E hx⟨a,b⟩k=>Z2 a b (by simpa using hx) λh' a' sb=>k h' ⟨a',b.extBut sb.extBut hne⟩ sb
 done:=λA i s Q E hh hx⟨a,b⟩k=>Z4 hh a b (by simpa using hx) k
end
def FO(K:ar)(t u:ah):It:=
 ⟨λi H=>∃vs ws v w,Cd K H t vs/\Cd K H u ws/\vs[i]?=some v/\ws[i]?=some w,
  λi H x H'=>∃p v w,x=.ref p/\H p=none/\H'=upd H p (.tup [v,w])/\(∀vs,Cd K H t vs->vs[i]?=some v)/\∀ws,Cd K H u ws->ws[i]?=some w,
  λi H=>∃vs ws,Cd K H t vs/\Cd K H u ws/\(vs.length<=i∨ws.length<=i)⟩
structure ZipAt(z TI TO i j t u:ah)(n:Nat)(h:cu):Prop where
 zp:zk h z TI TO .none
 ti:qf h TI (.ref i) (.ref j)
 to:∃a b,qf h TO a b
 i1:h.IsTupleIter i t n
 i2:h.IsTupleIter j u n
section
variable{X:Cx}{pins:List (ah×Obj)}{σ:St}{H:Hp}{s:ag}
theorem Inv.turns{h':cu}{ch:List ah}{T:ah}{vs:Ho}{its:List af}(I:Inv X pins σ H s)(Ez:∀b∈ch,dC X pins H b)(k:∀b o,b∉ch->s.heap.get? b=some o->h'.get? b=some o)(there:∀b∈ch,∃o,h'.get? b=some o)(hT:s.heap.objs.size<=T)(hv:Bs vs its)(hl:vs.length<=cg)(tp:Ck h' T its.toArray):Inv X pins σ (upd H T (.tup vs)) {s with heap:=h'}:=by
 have nT:H T=none:=I.hok.fresh hT;have nch:∀b o,H b=some o->b∉ch:=λb o q z=>by rw[(Ez b z).1]at q;cases q
 have un:Un (dR X.stack) ch H (upd H T (.tup vs)) s.heap h':=
  ⟨λb o q _ _ hb=>k b o hb q,λb o q _ _ hb=>⟨o.slots,k b o hb q⟩,λb o q n _=>by rw[bT (bc (aw (av q) hT))];exact n,
   λb o q hb=>⟨o,k b o hb q⟩,λb xs q=>cN nT b _ q,λb o u q=>cN nT b _ q,λb ps q=>⟨#[],by rw[cN nT b _ q];simp⟩⟩
 have ok:Cz X.prog X.w (upd H T (.tup vs)) h':=λb o q=>by
  by_cases hb:b=T
  ·subst hb;rw[cU]at q;cases q;exact⟨hl,its,hv,tp⟩
  ·rw[bT hb]at q;refine(I.hok b o q).stay (λc v hc z=>k c v ?_ z) (λc z=>cN nT c _ z) λc xs z=>cN nT c _ z
   rcases hc with rfl|hc
   ·exact nch c o q
   ·exact nch c _ hc
 exact I.call (g':=s.gens) (d':=s.drawn) (t':=s.toks) un ok I.bare λb hb=>let ⟨_,f1,_,f3,f4,f5⟩:=Ez b hb;⟨f3,f1,f4,f5⟩
theorem Inv.turns0{h':cu}{ch:List ah}(I:Inv X pins σ H s)(Ez:∀b∈ch,dC X pins H b)(k:∀b o,b∉ch->s.heap.get? b=some o->h'.get? b=some o):Inv X pins σ H {s with heap:=h'}:=by
 have nch:∀b o,H b=some o->b∉ch:=λb o q z=>by rw[(Ez b z).1]at q;cases q
 refine I.call (g':=s.gens) (d':=s.drawn) (t':=s.toks) (ch:=ch) ⟨λb o q _ _ hb=>k b o hb q,λb o q _ _ hb=>⟨o.slots,k b o hb q⟩,λ_ _ _ n _=>n,λb o q hb=>⟨o,k b o hb q⟩,λ_ _ q=>q,λ_ _ _ q=>q,λb ps q=>⟨#[],by rw[q];simp⟩⟩ (λb o q=>?_) I.bare λb hb=>let ⟨_,f1,_,f3,f4,f5⟩:=Ez b hb;⟨f3,f1,f4,f5⟩;refine(I.hok b o q).stay (λc v hc z=>k c v ?_ z) (λ_ z=>z) λ_ _ z=>z
 rcases hc with rfl|hc
 ·exact nch c o q
 ·exact nch c _ hc
end
theorem Z7{P:bp}{w:cm}{K:ar}{elts:List bq}{kk:Nat}{tp:Pos}{z TI TO i j t u:ah}(F4:Four z TI TO i j t u)(hti:t≠i)(huj:u≠j):
  Turn P w K (.Tuple elts kk tp) (FO K t u) [z,TI,TO,i,j] z (ZipAt z TI TO i j t u) where
 mem:=by simp
 obj:=λn h st b hb=>by
  obtain⟨zp,ti,⟨a,b',to⟩,⟨o1,e1,_,d1⟩,⟨o2,e2,_,d2⟩⟩:=st;simp at hb
  rcases hb with rfl|rfl|rfl|rfl|rfl
  ·exact⟨_,zp,λv q=>by cases q⟩
  ·exact⟨_,ti,λv q=>by cases q⟩
  ·exact⟨_,to,λv q=>by cases q⟩
  ·exact⟨_,e1,λv q=>by rw[d1]at q;cases q⟩
  ·exact⟨_,e2,λv q=>by rw[d2]at q;cases q⟩
 keep:=λn h h' st k=>by obtain⟨zp,ti,⟨a,b',to⟩,⟨o1,e1,r1⟩,⟨o2,e2,r2⟩⟩:=st;exact⟨k _ (by simp) _ zp,k _ (by simp) _ ti,⟨a,b',k _ (by simp) _ to⟩,⟨o1,k _ (by simp) _ e1,r1⟩,⟨o2,k _ (by simp) _ e2,r2⟩⟩
 item:=by
  intro X hP hw hK hc n pins s σ H E I hf st hg;subst hP hw hK;obtain⟨vs,ws,v,w',hq,hr,hv,hw'⟩:=hg;obtain⟨its,rv,p1,z1⟩:=I.tuple hq;obtain⟨jts,rw',p2,z2⟩:=I.tuple hr;obtain⟨x,hx,rx⟩:=rv.get hv;obtain⟨y,hy,ry⟩:=rw'.get hw';obtain⟨zp,ti,⟨a,b,to⟩,i1,i2⟩:=st;have hT:s.TypeIs (.ref z) "zip":=⟨_,zp,rfl⟩;unfold pyNext;refine aa (xu (gn (name:=mf "__next__") hT F.slot_zip_next (fv F.slot_zip_next hT F.entry_zip_next
   (Z5 F4 (AH (items:=its.toArray) hti) (AH (items:=jts.toArray) huj) zp ti to ⟨i1,p1⟩ ⟨i2,p2⟩ (by simpa using hx) (by simpa using hy) λh' T Es a1 a2 a3 a4 a5 a6 bt=>ak ⟨_,rfl,?_⟩) (F.args_zip_next_1 _))))
  refine wpAny_letOwnedTupleGo_zip a1 λh2 z2' sb=>?_;have kp:∀b o,b∉[z,TI,TO,i,j]->s.heap.get? b=some o->h2.get? b=some o:=λb o hb q=>by simp at hb;obtain⟨n1,n2,n3,n4,n5⟩:=hb;exact sb.extBut _ _ n1 (bt b o n1 n3 n4 n5 q)
  have Tz:T≠z:=jw (aw (av zp) Es);have T2:qf h2 T x y:=sb.extBut _ _ Tz a6;have th:∀b∈[z,TI,TO,i,j],∃o,h2.get? b=some o:=λb hb=>by
   obtain⟨⟨o1,e1,_⟩,_⟩:=a4;obtain⟨⟨o2,e2,_⟩,_⟩:=a5;simp at hb
   rcases hb with rfl|rfl|rfl|rfl|rfl
   ·exact⟨_,z2'⟩
   ·exact⟨_,sb.extBut _ _ F4.g a2⟩
   ·exact⟨_,sb.extBut _ _ (dh F4.a) a3⟩
   ·exact⟨_,sb.extBut _ _ (dh F4.b) e1⟩
   ·exact⟨_,sb.extBut _ _ (dh F4.c) e2⟩
  have I2:=Inv.turns (T:=T) (vs:=[v,w']) (its:=[x,y]) I hf kp th Es (.cons rx (.cons ry .nil)) (by show 2<=cg;decide) ⟨_,T2,rfl,rfl,_,rfl⟩;have nT:H T=none:=I.hok.fresh Es;refine⟨.ref T,_,I2,rfl,⟨T,v,w',rfl,nT,rfl,λCm h'=>by rw[I.tuple_inj h' hq];exact hv,λws' h'=>by rw[I.tuple_inj h' hr];exact hw'⟩,?_,λb hb=>?_⟩
  ·exact⟨z2',sb.extBut _ _ F4.g a2,⟨_,_,sb.extBut _ _ (dh F4.a) a3⟩,a4.1.extBut sb.extBut (dh F4.b),a5.1.extBut sb.extBut (dh F4.c)⟩
  ·obtain⟨o,q,_⟩:∃o,s.heap.get? b=some o/\True:=by
    obtain⟨o1,e1,_⟩:=i1;obtain⟨o2,e2,_⟩:=i2;simp at hb
    rcases hb with rfl|rfl|rfl|rfl|rfl
    ·exact⟨_,zp,trivial⟩
    ·exact⟨_,ti,trivial⟩
    ·exact⟨_,to,trivial⟩
    ·exact⟨_,e1,trivial⟩
    ·exact⟨_,e2,trivial⟩
   rw[bT (bc (aw (av q) Es))];exact(hf b hb).1
 done:=by
  intro X hP hw hK hc n pins s σ H E I hf st hg;subst hP hw hK;obtain⟨vs,ws,hq,hr,hend⟩:=hg;obtain⟨its,rv,p1,z1⟩:=I.tuple hq;obtain⟨jts,rw',p2,z2⟩:=I.tuple hr;have l1:=rv.length;have l2:=rw'.length;obtain⟨zp,ti,⟨a,b,to⟩,i1,i2⟩:=st;have hT:s.TypeIs (.ref z) "zip":=⟨_,zp,rfl⟩;unfold pyNext;refine aa (xu (gn (name:=mf "__next__") hT F.slot_zip_next (fv F.slot_zip_next hT F.entry_zip_next
   (Z6 (show X.A.in1.handled=none from I.ok.hd hc) F4 (AH (items:=its.toArray) hti) (AH (items:=jts.toArray) huj) zp ti to ⟨i1,p1⟩ ⟨i2,p2⟩ (by
    rcases hend with q|q
    ·exact .inl (by simp;omega)
    ·exact .inr (by simp;omega)) λh' e bt⟨o,he,Fv⟩=>aa (zd (T:="StopIteration") (b:=true) ⟨o,he,Fv⟩ isSubtype_stop (ak ⟨rfl,?_⟩))) (F.args_zip_next_1 _))))
  refine Inv.turns0 I hf λb o hb q=>?_;simp at hb;exact bt b o hb.1 hb.2.2.1 hb.2.2.2.1 hb.2.2.2.2 q
 self:=λ_ _ _ _ _ st h=>wpAny_pyIter_zip st.zp h
def M9(t u:ah)(h:cu)(z:ah)(h':cu):Prop:=∃TI TO i j,ZipAt z TI TO i j t u 0 h'/\Four z TI TO i j t u/\(∀b∈[z,TI,TO,i,j],h.objs.size<=b)/\∀b o,h.get? b=some o->h'.get? b=some o
def wW{h h':cu}(e:h'=h.push o)(nf:o.isFreed=false):h'.get? h.objs.size=some o:=by rw[e];exact bg _ nf
def Z8(n t u:Nat)(lt:t<n)(lu:u<n):Four (n+4) (n+2) (n+3) n (n+1) t u:=by
 have ne:∀{a b:Nat},(a<b∨b<a)->a≠b:=λh=>by lia
 exact⟨ne (by lia),ne (by lia),ne (by lia),ne (by lia),ne (by lia),ne (by lia),ne (by lia),ne (by lia),ne (by lia),ne (by lia),ne (by lia),ne (by lia),ne (by lia),ne (by lia),ne (by lia),ne (by lia),ne (by lia),ne (by lia)⟩
def Z9{hp h1 h2 h3 h4 h5:cu}(hn:n=hp.objs.size)(lt:t<n)(lu:u<n)(e1:h1=hp.push {cls:=.type "tuple_iterator",data:=.fields #[.ref t,.int 0 0]})(e2:h2=h1.push {cls:=.type "tuple_iterator",data:=.fields #[.ref u,.int 0 0]})(e3:h3=h2.push {cls:=.type "tuple",data:=.seq #[.ref n,.ref (n+1)]})(e4:h4=h3.push {cls:=.type "tuple",data:=.seq #[.none,.none]})(e5:h5=h4.push {cls:=.type "zip",data:=.fields #[.none,.bool false,.bool false,.ref (n+2),.ref (n+3)]}):M9 t u hp (n+4) h5:=by
 have z1:h1.objs.size=n+1:=by rw[e1,gm,hn]
 have z2:h2.objs.size=n+2:=by rw[e2,gm,z1]
 have z3:h3.objs.size=n+3:=by rw[e3,gm,z2]
 have z4:h4.objs.size=n+4:=by rw[e4,gm,z3]
 have up:∀(h:cu)(o:Obj)(b:ah)(q:Obj),h.get? b=some q->(h.push o).get? b=some q:=λh o b q e=>ao _ e;have g1:=wW e1 rfl;have g2:=wW e2 rfl;have g3:=wW e3 rfl;have g4:=wW e4 rfl;have g5:=wW e5 rfl;rw[<-hn]at g1;rw[z1]at g2;rw[z2]at g3;rw[z3]at g4;rw[z4]at g5;have u2:∀b q,h2.get? b=some q->h5.get? b=some q:=λb q e=>by rw[e5,e4,e3];exact up _ _ _ _ (up _ _ _ _ (up _ _ _ _ e))
 have u1:∀b q,h1.get? b=some q->h5.get? b=some q:=λb q e=>u2 b q (by rw[e2];exact up _ _ _ _ e);have u3:∀b q,h3.get? b=some q->h5.get? b=some q:=λb q e=>by rw[e5,e4];exact up _ _ _ _ (up _ _ _ _ e)
 have u4:∀b q,h4.get? b=some q->h5.get? b=some q:=λb q e=>by rw[e5];exact up _ _ _ _ e
 refine⟨n+2,n+3,n,n+1,⟨g5,u3 _ _ g3,⟨_,_,u4 _ _ g4⟩,⟨_,u1 _ _ g1,rfl,rfl⟩,⟨_,u2 _ _ g2,rfl,rfl⟩⟩,?_,?_,λb q e=>u1 b q (by rw[e1];exact up _ _ _ _ e)⟩
 ·exact Z8 n t u lt lu
 ·intro b hb;rw[<-hn];simp at hb
  rcases hb with rfl|rfl|rfl|rfl|rfl
  ·exact ug _ _
  ·exact ug _ _
  ·exact ug _ _
  ·exact aq _
  ·exact ug _ _
def a9(xs ys:Array af):Meets (mr.«zip.__new__» ⟨[.type "zip",.ref t,.ref u],[]⟩) (λ_ R s=>s.heap.IsTuple t xs/\s.heap.IsTuple u ys/\∀h' z,M9 t u s.heap z h'->R (.ok (.ret (.ref z))) {s with heap:=h'}):=
 .of_wp λprog w A R s h=>by
  let⟨ht,hu,k⟩:=h;let⟨hp,g,d,tk,os⟩:=s;have sub:=sub_zip;have ht':(⟨hp,g,d,tk,os⟩:ag).heap.IsTuple t xs:=ht;have Ce:(⟨hp.push {cls:=.type "tuple_iterator",data:=.fields #[.ref t,.int 0 0]},g,d,tk,os⟩:ag).heap.IsTuple u ys:=hu.push _
  wp_walk using pd ht',pd Ce
  have lt:t<hp.objs.size:=by let⟨o,e,_⟩:=ht;exact av e
  have lu:u<hp.objs.size:=by let⟨o,e,_⟩:=hu;exact av e
  simp only[gm];refine⟨_,rfl,k _ _ (Z9 rfl lt lu rfl rfl rfl rfl ?_)⟩;simp only[gm];rfl
section
variable{a b:bq}{elts:List bq}{kk:Nat}{tp p pos:Pos}{ta:TA}{ms:M Bj}
def b9(K:ar)(ta:TA):TI:=λσ H R=>ta σ H λvs H1=>∃t u xs ys,vs=[.ref t,.ref u]/\Cd K H1 t xs/\Cd K H1 u ys/\R (FO K t u) H1
def c7:dz "zip"=some (.type "zip"):=by decide+kernel
theorem c8(hg:Gl X "zip")(hm:X.mg "zip"=none)(ha:PA X [a,b] ta)(hs:ay [a,b] X.env=[(false,eval a X.env),(false,eval b X.env)]:=by rfl)(hs2:ay [b] X.env=[(false,eval b X.env)]:=by rfl):
  PI X (.Tuple elts kk tp) (.Call (.Name "zip" p) [a,b] [] pos) (b9 X.K ta):=by
 intro pins s σ H R I h;refine Call_ (tH I hg hm c7 (kz (aY (ha pos pins s σ H _ I h) λus s1⟨vs,H1,I1,r1,q1⟩=>?_) (by rw[hs,hs2]) (by rw[hs2];rfl)));obtain⟨t,u,xs,ys,e,hq,hr,q⟩:=q1;subst e;obtain⟨u1,u2,rfl,e1,e2⟩:=wC r1;cases e1;cases e2;obtain⟨its,rv,p1,_⟩:=I1.tuple hq;obtain⟨jts,rw',p2,_⟩:=I1.tuple hr;refine callType_new F.called_zip (by decide) (F.typeCall_zip_2 _ _) (F.newCall_zip_2 _ _) (λobj=>F.args_object_init_3 obj _ _) F.entry_zip_new (a9 its.toArray jts.toArray) ⟨p1,p2,λh' z nz=>?_⟩;obtain⟨TI,TO,i,j,za,f4,fresh,kp⟩:=nz;refine⟨⟨_,za.zp,rfl⟩,?_⟩;have I2:Inv X pins σ H1 {s1 with heap:=h'}:=I1.kept (t':=s1.toks) kp;refine wpAny_pyIter_zip za.zp ⟨z,[z,TI,TO,i,j],_,_,H1,rfl,I2,Z7 f4 f4.u3 f4.v4,za,λb hb=>I1.fpOk (fresh b hb) (I1.hok.fresh (fresh b hb)),q⟩
def pZ(xs ys:Bj):Src:=cG ((xs.zip ys).map λq=>.tup [q.1,q.2])
def qA:Bj->Hs->Rs Src
 |[.tup xs,.tup ys],h=>.ok (pZ xs ys) h
 |_,_=>.bad
theorem Dj.zip{μ:Nat->ah}{n:Nat}{H:Hp}{t u:ah}{vs ws:Ho}{xs ys:Bj}{K:ar}(e:H t=some (.tup vs))(e':H u=some (.tup ws))(r:RelDL G μ n H xs vs)(r':RelDL G μ n H ys ws):Dj G μ n H (pZ xs ys) (FO K t u):=by
 intro k μ2 h2 H2 x2 s2;have f:=x2.im t (.tup vs) trivial e;have f':=x2.im u (.tup ws) trivial e';have g:=Gk x2 _ _ r;have g':=Gk x2 _ _ r';have hl:(pZ xs ys).n=min xs.length ys.length:=by simp[pZ,cG]
 constructor
 ·intro hk d hd;have Ej:((xs.zip ys).map λq=>Hl [q.1,q.2])[k]?=some d:=hd;rw[du]at Ej
  cases q:(xs.zip ys)[k]? with
  |none=>rw[q]at Ej;cases Ej
  |some xy=>
   rw[q]at Ej;cases Ej;obtain⟨qx,qy⟩:=si.mp q;obtain⟨v,ev,rv⟩:=g.get qx;obtain⟨w',ew,rw'⟩:=g'.get qy;refine⟨⟨vs,ws,v,w',Gq f,Gq f',ev,ew⟩,λx H' hy=>?_⟩;obtain⟨pp,v1,w1,rfl,np,rfl,a1,a2⟩:=hy;have b1:=a1 vs (Gq f);have b2:=a2 ws (Gq f');rw[ev]at b1;rw[ew]at b2
   cases b1;cases b2
   have sm:Di H2 (upd H2 pp (.tup [v,w'])):=cN np;exact⟨sm,pp,_,rfl,cU,Gw (Gx (Gm sm) _ _ rv) (Gw (Gx (Gm sm) _ _ rw') Gr)⟩
 ·intro hk _;refine⟨vs,ws,Gq f,Gq f',?_⟩;rw[g.length,g'.length,hk,hl];omega
theorem NA(hg:Gl X "zip")(hm:X.mg "zip"=none)(ha:eC X G E [a,b] ms)(hs:ay [a,b] X.env=[(false,eval a X.env),(false,eval b X.env)]:=by rfl)(hs2:ay [b] X.env=[(false,eval b X.env)]:=by rfl):
  kA X G E (.Tuple elts kk tp) (.Call (.Name "zip" p) [a,b] [] pos) (aT qA ms):=λhK=>
 PI.imp (c8 hg hm (ha hK) hs hs2) λσ H R⟨μ,ρ,h,rs,s,o⟩=>lY rs s o λμ1 ds h1 vs H1 x1 Cc s1 r1 o1=>by
  unfold qA at o1
  split at o1
  ·rename_i xs ys;obtain⟨v,v',rfl,rv,rv'⟩:=zX r1;obtain⟨t,us,rfl,e,r⟩:=rv;obtain⟨u,ws,rfl,e',r'⟩:=rv';exact⟨t,u,us,ws,rfl,Gq e,Gq e',o1.val s1 (Dj.zip e e' r r')⟩
  ·exact o1.elim
end
section
variable{prog:bp}{w:cm}{A:cb}{E:af->ag->Prop}{s:ag}{K:Frag}{e C N:ah}{o:Obj}
theorem c9{Q:Bool->ag->Prop}(X:K.In s.heap)(he:s.heap.get? e=some o)(hc:o.cls=.ref C)(hn:subIn K (.ref N) (.type "BaseException")=some true)(ht:subIn K (.type "type") (.type "tuple")=some false)(hk:kitCls K (.ref N) (.ref N)=some true){b:Bool}(hs:subIn K (.ref C) (.ref N)=some b)(q:Q b s):
  wpAny (model prog w) A (excMatches (.ref e) (.ref N)) Q E s:=by
 have L1:=(kit_cls (M:=model prog w) X hk).1;have L2:=(kit_cls (M:=model prog w) X hk).2.1;have L3:=looks_subIn (M:=model prog w) X hn;have L4:=looks_subIn (M:=model prog w) X hs;have L5:=looks_subIn (M:=model prog w) X ht;obtain⟨hp,g,d,tk,os⟩:=s;unfold excMatches
 repeat (any_goals (first|assumption|(with_reducible refine wpAny_loadPart_at he ?_;rw[hc])|with_reducible refine L1.at ?_|with_reducible refine L2.at ?_|with_reducible refine L3.at ?_|with_reducible refine L4.at ?_|with_reducible refine L5.at ?_|wp_step))
 cases b
 all_goals (repeat (any_goals (first|assumption|wp_step)))
end
def kN(P:bp)(w:cm)(K:ar)(mg:Str->Option af)(base:cu)(N:Bh)(qual:Str)(scope:fi)(f:ah)(cd:af)(cl:List (Str×ah))(A:cb)(outer:List Env)(s:ag)(H:Hp)(E:XK):Cx where
 prog:=P
 w:=w
 K:=K
 mg:=mg
 base:=base
 A:=A.deeper (om qual scope s.heap.objs.size f cd cl)
 N:=N
 s₀:=s
 H₀:=H
 env:=om qual scope s.heap.objs.size f cd cl
 outer:=outer
 stack:=om qual scope s.heap.objs.size f cd cl::outer
 ex:=[]
 calm:=true
 fn:=λ_=>false
 pn:=[]
 xe:=λe s'=>wpAny (model P w) (A.deeper (om qual scope s.heap.objs.size f cd cl)) (leaving (om qual scope s.heap.objs.size f cd cl) e) (λ_ s''=>aZ P w base outer H s E e s'') (λe' s''=>aZ P w base outer H s E e' s'') s'
structure Cf(N:Bh)(sc:fi):Prop where
 kind:sc.kind=.function
 co:sc.isCoroutine=false
 gen:sc.isGenerator=false
 nocell:∀x∈sc.names,x.2≠.cell
 fr:∀x∈N,sc.names.lookup x=some .free
 all:∀x∈sc.names,x.2=.free->x.1∈N
structure Fp(G:Cfg)(base:cu)(H:Hp)(μ:Nat->ah)(n:Nat)(N:Bh)(params:jl)(body:bq)(scope:fi)(f c':ah)(cl:List (Str×ah))(ds:Bj):Prop where
 ob:∃pm ctv,H f=some (.frz (jn "<lambda>" G.lq params body scope cl pm c' ctv) (.own 0))
 cd:∃oc,H c'=some (.frz oc (.own 0))/\tR G.lq oc
 inj:∀x y c,cl.lookup x=some c->cl.lookup y=some c->x=y
 len:ds.length=N.length
 at_:∀(i:Nat)(x:Str),N[i]?=some x->∃c,cl.lookup x=some c
 cell:∀(x:Str)(c:ah),cl.lookup x=some c->∃o u,base.get? c=some o/\o.data=.cell u
 val:∀(i:Nat)(x:Str)(c:ah)(d:Dv),N[i]?=some x->ds[i]?=some d->cl.lookup x=some c->∃o u v,base.get? c=some o/\o.data=.cell (some u)/\RelV v u/\Bq G μ n H d v
section
variable{P:bp}{w:cm}{K:ar}{mg:Str->Option af}{base:cu}{N:Bh}{qual:Str}{scope:fi}{f:ah}{cdv:af}{cl:List (Str×ah)}{A:cb}{outer:List Env}{s0:ag}{H0:Hp}{E0:XK}{G:Cfg}{E:XK}{k:Nat}
def h8(hr:Ci k (A.deeper (om qual scope s0.heap.objs.size f cdv cl)))(hK:K=G.K)(hE:∀u H',E u none H'->E0 u none H')(hF:FE E):
  Good (kN P w K mg base N qual scope f cdv cl A outer s0 H0 E0) G E k where
 calm:=rfl
 room:=hr
 K:=hK
 own:=zy
 pas:=by intro pins σ H s u s' I ⟨e,C,H',eu,os,bare,un,hok,fl,he⟩;subst eu;have I':=I.call' os un hok bare (λb z=>absurd z (by simp));refine aa (FD (P:=P) (w:=w) (H:=H') (base:=base) I'.ok.frames I'.stack rfl hok I'.stkFree fl λh'' H'' un2 Ea Gb sx=>?_);have I2:=I'.call (h':=h'') (g':=s'.gens) (d':=s'.drawn) (t':=s'.toks) un2 Ea I'.bare (λb z=>absurd z (by simp));let⟨T,a0,h1,_⟩:=id fl;let⟨T2,a2,h3,_⟩:=id Gb;have xe1:dU C e T a0 s'.heap:=(show Bv P w H' s'.heap e _ from hok e _ h1).1;have:E (.ref e) none H'':=hF e H' H'' sx ⟨C,T,a0,T2,a2,h1,⟨_,xe1⟩,h3⟩ he;exact⟨e,C,H'',rfl,I2.os,I2.bare,I2.base,Ea,Gb,hE _ _ this⟩
 rais:=by intro pins σ H s h' e C args I mx he;refine aa (MV (P:=P) (w:=w) (H:=H) (base:=base) I.ok.frames I.stack rfl I.hok I.stkFree I.bk mx λh'' H'' un2 Ea Gb sm=>?_);have I2:=I.call (h':=h'') (g':=s.gens) (d':=s.drawn) (t':=s.toks) un2 Ea I.bare (λb z=>absurd z (by simp));let⟨T2,a2,h3,_⟩:=id Gb;exact⟨e,C,H'',rfl,I2.os,I2.bare,I2.base,Ea,Gb,hE _ _ (he H'' sm ⟨T2,a2,h3⟩)⟩
end
def NB{α:Type}:Rs α->Sr
 |.ex c h=>.ex c h
 |_=>.bad
section
variable{P:bp}{w:cm}{K:ar}{mg:Str->Option af}{base:cu}{N:Bh}{params:jl}{body:bq}{scope:fi}{f c':ah}{cl:List (Str×ah)}{A:cb}{outer:List Env}{s:ag}{H:Hp}{E:XK}{G:Cfg}{k:Nat}{μ:Nat->ah}{h:Hs}{ds:Bj}
theorem h9{h1:cu}{tk:Nat}{σ:St}{E₀:XK}(S:Cf N scope)(hd:A.handled=none)(e0:Gg P w K mg base A outer s H)(L:Fp G base H μ h.length N params body scope f c' cl ds)(hall:∀x c,cl.lookup x=some c->x∈N)(hns:h1.Ns s.heap.objs.size λ_=>none)(hk1:∀b o,s.heap.get? b=some o->h1.get? b=some o)(hσ:σ.length=N.length)(hv:∀(i:Nat)(x:Str)(v:V),N[i]?=some x->σ[i]?=some (some v)->∃c o u,cl.lookup x=some c/\base.get? c=some o/\o.data=.cell (some u)/\RelV v u):
  Inv (kN P w K mg base N G.lq scope f (.ref c') cl A outer s H E₀) [] σ H {s with heap:=h1,toks:=tk}:=by
 have noA:∀b:ah,b∉(kN P w K mg base N G.lq scope f (.ref c') cl A outer s H E₀).ex:=λb z=>absurd (show b∈([]:List ah) from z) (by simp);have kfree:∀x,scope.names.lookup x=some .free->x∈N:=λx e=>S.all _ (fz e) rfl;refine⟨⟨e0.mod,S.kind,rfl,rfl,aq _,L.inj,λx hx=>?_,λx c z=>(nomatch z),λ_=>hd,zv e0.frames,.inr ⟨rfl,rfl⟩,λb z=>absurd z (noA b),e0.bs,e0.bsz,λb _ _=>noA b,λb z=>absurd z (noA b),e0.funs,e0.frf⟩,
  rfl,e0.bare,Un.kept hk1,⟨_,hns,λi x v h1' h2 h3=>?_⟩,λx c e=>?_,e0.hok.fresh (aq _),λx c e=>?_,λp hp=>absurd (show p∈([]:List (ah×Obj)) from hp) (by simp),e0.hok.kept hk1,hσ⟩
 ·have hx:scope.names.lookup x=some .cell∨scope.names.lookup x=some .free:=hx
  rcases hx with hx|hx
  ·exact absurd rfl (S.nocell _ (fz hx))
  ·obtain⟨i,hi⟩:=List.getElem?_of_mem (kfree x hx);exact L.at_ i x hi
 ·obtain⟨c,o,u,e1,e2,e3,r⟩:=hv i x v h1' h2;refine⟨u,r,.inr ⟨.inr (S.fr x (cx h1')),c,e1,o,hk1 _ _ (e0.bs _ _ e2).1,e3⟩⟩
 ·obtain⟨o,u,e2,e3⟩:=L.cell x c e;exact⟨u,o,hk1 _ _ (e0.bs _ _ e2).1,e3⟩
 ·obtain⟨o,u,e2,e3⟩:=L.cell x c e;exact(e0.bs _ _ e2).2
def i0{me:M Dv}(S:Cf N scope)(hK:K=G.K)(hb:∀(cl:List (Str×ah))(pm cdv ct:af),bindArgs (qt "<lambda>" G.lq params body scope cl pm cdv ct) ⟨[],[]⟩=pure [])(Cp:∀(f:ah)(cdv:af)(cl:List (Str×ah))(A:cb)(outer:List Env)(s:ag)(H:Hp)(E₀ E:XK),Good (kN P w K mg base N G.lq scope f cdv cl A outer s H E₀) G E k->aJ (kN P w K mg base N G.lq scope f cdv cl A outer s H E₀) G E body me)(hr:Ci (k+1) A)(e0:Gg P w K mg base A outer s H)(L:Fp G base H μ h.length N params body scope f c' cl ds)(hall:∀x c,cl.lookup x=some c->x∈N)(sm:Bz G μ h H)(o:Out G E μ h.length H (me (ds.map some) h) (Bq G) Q):
  codeAny (model P w) A (.call (.ref f) ⟨[],[]⟩) (CR (aZ P w base) outer P w H s Q E) s:=by
 let⟨pm,ctv,ho⟩:=L.ob;let⟨oc,hc,vs,t,hcd,hq⟩:=L.cd;have lim:s.heap.NoLimit:=e0.mod.nolimit.keeps λb o e=>(e0.bs b o e).1;have gc:s.heap.get? c'=some oc:=(e0.hok c' _ hc).1;refine PySem.W.kla_callFunE hr.depth (e0.hok f _ ho).1 rfl S.co S.gen rfl ⟨c',oc,vs,t,rfl,gc,hcd,hq⟩ ?_;rw[hb];refine ak (wpAny_newFunctionEnv S.nocell (λx hx=>absurd hx (by simp)) (λh₁ hns hsb=>⟨lim.fresh _ hsb,?_⟩) S.kind);show codeAny _ _ (.expr body (om G.lq scope s.heap.objs.size f (.ref c') cl)) _ _;have hk₁:∀b o,s.heap.get? b=some o->h₁.get? b=some o:=λb o e=>hsb.extBut b o (bc (av e)) (ao _ e);have hvs:∀(i:Nat),i<N.length->∃v:V,∀d,ds[i]?=some d->Bq G μ h.length H d v/\∀x,N[i]?=some x->∃c o u,cl.lookup x=some c/\base.get? c=some o/\o.data=.cell (some u)/\RelV v u:=λi hi=>by
  obtain⟨x,hx⟩:∃x,N[i]?=some x:=⟨_,bj hi⟩
  obtain⟨d,hd⟩:∃d,ds[i]?=some d:=⟨_,bj (by rw[L.len];exact hi)⟩
  let⟨c,ec⟩:=L.at_ i x hx;let⟨oo,u,v,e1,e2,r1,r2⟩:=L.val i x c d hx hd ec;refine⟨v,λd' Ej=>?_⟩;rw[hd]at Ej;cases Ej;refine⟨r2,λx' Fz=>?_⟩;rw[hx]at Fz;cases Fz;exact⟨c,oo,u,ec,e1,e2,r1⟩
 have Ez:∃vs:Ho,vs.length=N.length/\∀(i:Nat)(v:V),vs[i]?=some v->∀d,ds[i]?=some d->Bq G μ h.length H d v/\∀x,N[i]?=some x->∃c o u,cl.lookup x=some c/\base.get? c=some o/\o.data=.cell (some u)/\RelV v u:=by
  have:∀m,m<=N.length->∃vs:Ho,vs.length=m/\∀(i:Nat)(v:V),vs[i]?=some v->∀d,ds[i]?=some d->Bq G μ h.length H d v/\∀x,N[i]?=some x->∃c o u,cl.lookup x=some c/\base.get? c=some o/\o.data=.cell (some u)/\RelV v u:=by
   intro m
   induction m with
   |zero=>exact λ_=>⟨[],rfl,λi v e=>by simp at e⟩
   |succ m ih=>
    intro hm;let⟨vs,hl,hv⟩:=ih (by lia);let⟨v,hv'⟩:=hvs m (by lia);refine⟨vs++[v],by simp[hl],λi v' e d hd=>?_⟩
    by_cases hi:i<vs.length
    ·rw[ey hi]at e;exact hv i v' e d hd
    ·rw[gh (by lia)]at e;have:i=m:=by have:=(bf.mp e).1;simp at this;lia
     subst this;simp[hl]at e;subst e;exact hv' d hd
  exact this _ (aq _)
 let⟨Cm,hl,hv⟩:=Ez;have I:Inv (kN P w K mg base N G.lq scope f (.ref c') cl A outer s H E) [] (Cm.map some) H {s with heap:=h₁,toks:=s.toks+([]:List (Str×af)).length}:=by
  refine h9 S hr.hd e0 L hall hns hk₁ (by simp[hl]) λi x v h1 h2=>?_;have h3:Cm[i]?=some v:=by
   rw[du]at h2
   cases q:Cm[i]? with
   |none=>rw[q]at h2;cases h2
   |some a=>rw[q]at h2;cases h2;rfl
  obtain⟨d,hd⟩:∃d,ds[i]?=some d:=⟨_,bj (by rw[L.len];exact(bf.mp h1).1)⟩
  exact(hv i v h3 d hd).2 x h1
 have rs:Bw G μ h.length H (ds.map some) (Cm.map some):=⟨by simp[hl,L.len],λi d e=>by
  have h3:ds[i]?=some d:=by
   rw[du]at e
   cases q:ds[i]? with
   |none=>rw[q]at e;cases e
   |some a=>rw[q]at e;cases e;rfl
  have hi:i<Cm.length:=by rw[hl,<-L.len];exact(bf.mp h3).1
  exact⟨Cm[i],by rw[du,bj hi];rfl,(hv i _ (bj hi) d h3).1⟩⟩
 have gd:Good (kN P w K mg base N G.lq scope f (.ref c') cl A outer s H E) G (EB G μ h.length H (NB (me (ds.map some) h))) k:=h8 (hr.deeper _) hK (λu H'⟨c,h',μ',er,x,s',fl⟩=>by
  cases q:me (ds.map some) h with
  |ok d hh=>rw[q]at er;cases er
  |bad=>rw[q]at er;cases er
  |ex c1 h1=>rw[q]at er o;cases er;exact o μ' H' u x s' fl) FH
 refine PySem.W.kla_codeExpr (kv (Cp f (.ref c') cl A outer s H E _ gd hK [] _ (Cm.map some) H Q I ⟨μ,ds.map some,h,rs,sm,?_⟩) (λu s'⟨v,H',J,rv,q⟩=>⟨v,H',J.os,J.bare,J.base,J.hok,rv,q⟩) λe s' hs=>hs)
 cases q:me (ds.map some) h with
 |ok d hh=>rw[q]at o;exact o
 |bad=>rw[q]at o;exact o
 |ex c1 h1=>exact λμ' H' u x' s' fl=>⟨c1,h1,μ',rfl,x',s',fl⟩
end
section
variable{X:Cx}{pins:List (ah×Obj)}{σ:St}{H:Hp}{s:ag}
theorem i6{i:Nat}{x:Str}{h':cu}{tk:Nat}{m:Str->Option af}{v:Option af}(I:Inv X pins σ H s)(hN:X.N.Nodup)(hi:X.N[i]?=some x)(hn:s.heap.Ns X.env.locals m)(hl:∀(i:Nat)(x:Str)(v:V),X.N[i]?=some x->σ[i]?=some (some v)->mU X.env.scope x->∃u,RelV v u/\JS X.env s.heap m x u)(hs:je X.env.locals s.heap h')(hn':h'.Ns X.env.locals (λy=>if y=x then v else m y)):Inv X pins (σ.set i none) H {s with heap:=h',toks:=tk}:=by
 have cne:=I.cne;have hok:Cz X.prog X.w H h':=λb ob e=>by
  refine(I.hok b ob e).stay (λc w' hc q=>(hs.2 c ?_).trans q) (λ_ q=>q) λ_ _ q=>q
  rintro rfl
  have hfree:=I.free
  rcases hc with hc|hc
  ·rw[<-hc]at e;rw[hfree]at e;cases e
  ·rw[hfree]at hc;cases hc
 refine⟨I.ok,I.os,I.bare,⟨λb o e n hb hx=>?_,λb o e n hb hx=>?_,I.base.free,λb o e hx=>?_,I.base.tups,I.base.frzs,I.base.tbls⟩,⟨_,hn',λj y v' e1 e2 e3=>?_⟩,λy c e=>?_,I.free,I.freeC,λp hp=>?_,hok,by simpa using I.len⟩
 ·exact(hs.2 b (bc (aw (av e) I.ok.above))).trans (I.base.keep b o e n hb hx)
 ·obtain⟨sl,e1⟩:=I.base.slot b o e n hb hx;exact⟨sl,(hs.2 b (bc (aw (av e) I.ok.above))).trans e1⟩
 ·obtain⟨o',e1⟩:=I.base.there b o e hx;exact⟨o',(hs.2 b (bc (aw (av e) I.ok.above))).trans e1⟩
 ·by_cases hj:j=i
  ·subst hj;have hiσ:j<σ.length:=by rw[I.len];exact(bf.mp hi).1
   rw[fe hiσ]at e2;cases e2
  ·rw[fj (dh hj)]at e2;obtain⟨u',r',q⟩:=hl j y v' e1 e2 e3;refine⟨u',r',?_⟩
   rcases q with⟨k,e⟩|⟨k,c,e,z⟩
   ·refine .inl ⟨k,?_⟩;have:y≠x:=λe=>hj (DR hN e1 (e▸hi));show(if y=x then v else m y)=some u';rw[if_neg this];exact e
   ·exact .inr ⟨k,c,e,z.sameBut hs (cne y c e)⟩
 ·obtain⟨w',z⟩:=I.cell y c e;exact⟨w',z.sameBut hs (cne y c e)⟩
 ·obtain⟨e,n,ne,nf,d⟩:=I.pin p hp;exact⟨(hs.2 p.1 ne).trans e,n,ne,nf,d⟩
def uI(X:Cx)(e:af):Cx:={X with A:=X.A.mark (some e),calm:=false,xe:=λ_ _=>False}
def NC(e:af)(I:Inv X pins σ H s):Inv (uI X e) pins σ H s:=
 have ok:=I.ok
 ⟨⟨ok.mod,ok.kind,ok.glob,ok.blt,ok.above,ok.inj,ok.has,ok.cab,λz=>(nomatch z),ok.frames,ok.stk,ok.exf,ok.bs,ok.bsz,ok.noex,ok.exfs,ok.funs,ok.frf⟩,I.os,I.bare,I.base,I.loc,I.cell,I.free,I.freeC,I.pin,I.hok,I.len⟩
def i8(ok:X.Ok)(I:Inv (uI X e) pins σ H s):Inv X pins σ H s:=⟨ok,I.os,I.bare,I.base,I.loc,I.cell,I.free,I.freeC,I.pin,I.hok,I.len⟩
end
section
variable{k:Nat}{N:Bh}{params:jl}{body:bq}{scope:fi}{me:M Dv}{ncl:Nat}{NE:ah}
theorem i9{x xn en nm:Str}{p cpos epos np xp ep apos hpos tpos:Pos}{pins:List (ah×Obj)}{σ:St}{H:Hp}{s:ag}{D:Ends}{f c':ah}{cl:List (Str×ah)}{μ:Nat->ah}{h:Hs}{ds:Bj}(hK:X.K=G.K)(F':X.stack=X.env::X.outer)(hfr:X.env.frame=some X.env.locals)(hnd:X.N.Nodup)(h0:X.N[0]?=some x)(h1:X.N[1]?=some xn)(h2:X.N[2]?=some en)(hfn:∀y,X.fn y=true)(l0:X.env.scope.names.lookup x=some .local)(l1:X.env.scope.names.lookup xn=some .local)(l2:X.env.scope.names.lookup en=some .local)(d0:(x==Hn)=false)(c0:(x==("__classdict__":Str))=false)(d2:(en==Hn)=false)(c2:(en==("__classdict__":Str))=false)(dn:(nm==Hn)=false)(hsw:swapsWith (.Call (.Name x p) [] [] cpos) none epos.line X.env=pure false)(hsw2:swapsWith (.Name en ep) (some (.Name xn xp)) apos.line X.env=pure false)(hg:Gl X nm)(hm:X.mg nm=some (.ref NE))(hx1:kg X.K (.ref NE) (.type "BaseException")=some true)(hx2:kg X.K (.type "type") (.type "tuple")=some false)(hx3:ye X.K (.ref NE) (.ref NE)=some true)(hsub:∀c,c<ncl->kg X.K (.ref (G.cl c)) (.ref NE)=some true)(S:Cf N scope)(hb:∀(cl:List (Str×ah))(pm cdv ct:af),bindArgs (qt "<lambda>" G.lq params body scope cl pm cdv ct) ⟨[],[]⟩=pure [])(Cp:∀(f:ah)(cdv:af)(cl:List (Str×ah))(A:cb)(outer:List Env)(s:ag)(H:Hp)(E₀ E:XK),Good (kN X.prog X.w X.K X.mg X.base N G.lq scope f cdv cl A outer s H E₀) G E k->aJ (kN X.prog X.w X.K X.mg X.base N G.lq scope f cdv cl A outer s H E₀) G E body me)(hr:Ci (k+1) X.A)(I:Inv X pins σ H s)(hσ:σ[0]?=some (some (.ref f)))(L:Fp G X.base H μ h.length N params body scope f c' cl ds)(hall:∀x c,cl.lookup x=some c->x∈N)(sm:Bz G μ h H)(hD:match me (ds.map some) h with
   |.ok _ h1=>∀μ' H',Ext μ h.length H μ' h1.length H'->Bz G μ' h1 H'->D.nx σ H'
   |.ex c h1=>c<ncl/\∀μ' H' a,Ext μ h.length H μ' h1.length H'->Bz G μ' h1 H'->Bq G μ' h1.length H' (.exc c) (.ref a)->D.nx (((σ.set 2 (some (.ref a))).set 1 (some (.ref a))).set 2 none) H'
   |.bad=>False):
  wpAny (model X.prog X.w) X.A (exec (.Try [.Expr (.Call (.Name x p) [] [] cpos) epos] [.ExceptHandler (some (.Name nm np)) (some en) [.Assign [.Name xn xp] (.Name en ep) apos] hpos] [] [] tpos) X.env) (SP X pins D) X.xe s:=by
 have hcls:(X.env.scope.kind==.class||(X.env.scope.kind==.module&&X.env.locals !=X.env.globals))=false:=by rw[I.ok.kind];rfl
 refine wpAny_Try_except ?_;obtain⟨pm,ctv,ho⟩:=L.ob;refine qp (wpAny_Expr_any (pf (aY (kv (zA (X:=X.nox) (pos:=p) h0 (.inl l0) d0 c0 pins s σ H (λv H'=>v=.ref f/\H'=H) (I.wish _) ⟨_,hσ,rfl,rfl⟩) (λ_ _ q=>q) λ_ _ z=>ik z) λu s1⟨v,H',I',r,e1,e2⟩=>?_)) I.quiet hsw);subst e1;subst e2;cases r;have I1:Inv X pins σ H' s1:=I'.unwish;refine PySem.W.callWith_F0 ⟨_,_,_,_,(I1.hok f _ ho).1⟩ ?_;refine Af (qd (i0 (E:=EB G μ h.length H' (NB (me (ds.map some) h))) (Q:=λ_ H2=>∃d hh μ',me (ds.map some) h=.ok d hh/\Ext μ h.length H' μ' hh.length H2/\Bz G μ' hh H2) S hK hb Cp hr I1.env0 L hall sm ?_) λr s' hq=>?_)
 ·cases q:me (ds.map some) h with
  |ok d hh=>exact λμ' H' v x' s' _=>⟨d,hh,μ',rfl,x',s'⟩
  |bad=>rw[q]at hD;exact hD.elim
  |ex c1 h1=>exact λμ' H' u x' s' fl=>⟨c1,h1,μ',rfl,x',s',fl⟩
 cases r with
 |ok fl=>
  cases fl with
  |ret u=>obtain⟨v,H2,I2,r2,d,hh,μ',e1,x1,s1⟩:=I1.after hq;refine ou (ou ?_);rw[e1]at hD;exact⟨σ,H2,I2,hD μ' H2 x1 s1⟩
  |next=>exact ik hq
  |brk=>exact ik hq
  |cont=>exact ik hq
 |error ev=>
  obtain⟨e,C,H2,rfl,os,bare,un,hok,fl,c,hh,μ',er,x1,sm1,e',φ,eu,g1,g2⟩:=hq;cases eu
  cases qm:me (ds.map some) h with
  |ok d h3=>rw[qm]at er;cases er
  |bad=>rw[qm]at er;cases er
  |ex c3 h3=>
  rw[qm]at er hD;cases er;obtain⟨hc,hD⟩:=hD;have I2:Inv X pins σ H2 s':=I1.call' os un hok bare (λb z=>absurd z (by simp));refine FD (P:=X.prog) (w:=X.w) (H:=H2) (base:=X.base) (env:=X.env) (outer:=X.outer) (by rw[<-F'];exact I2.ok.frames) (by rw[<-F'];exact I2.stack) hfr hok (by rw[<-F'];exact I2.stkFree) fl λh4 H4 un4 hok4 fl4 sx4=>?_;have I4:Inv X pins σ H4 {s' with heap:=h4}:=I2.call (h':=h4) (g':=s'.gens) (d':=s'.drawn) (t':=s'.toks) (by rw[F'];exact un4) hok4 I2.bare (λb z=>absurd z (by simp));obtain⟨sm4,x4⟩:=sm1.sameX sx4 ⟨_,g1⟩;obtain⟨T,a0,w1,w2,w3,w4⟩:=id fl4;obtain⟨T0,b0,v1,_,_,_⟩:=id fl;have hC:C=.ref (G.cl c):=by have xo:dU C e T0 b0 s'.heap:=(show Bv X.prog X.w H2 s'.heap e _ from hok e _ v1).1;rw[v1]at g1;cases g1;obtain⟨oo,q1,q2⟩:=g2 _ xo;obtain⟨o2,Fq,q3,q4,_⟩:=xo;rw[q3]at q1;cases q1;rw[<-q4,q2]
  subst hC;have xo4:dU (.ref (G.cl c)) e T a0 h4:=(show Bv X.prog X.w H4 h4 e _ from hok4 e _ w1).1;obtain⟨oe,vs,y1,y2,y3,y4,y5,y6⟩:=id xo4;refine wpAny_handleBy_cons (codeAny_handlers_test (kv (vY (X:=uI X (.ref e)) (E:=λ_ _=>False) (Q:=λu s5=>u=.ref NE/\Inv X pins σ H4 s5/\s5.heap=h4) (NC _ I4) hg hm ⟨rfl,I4,rfl⟩ dn) (λcv s5 hs5=>?_) λ_ _ z=>ik z)) (by intro z;cases z);obtain⟨rfl,I5,e5⟩:=hs5;refine c9 (K:=X.K) I5.kIn (by rw[e5];exact y1) y2 hx1 hx2 hx3 (hsub c hc) ?_;obtain⟨oT,ts,z1,z2,z3⟩:eK T h4:=(show Bv X.prog X.w H4 h4 T _ from hok4 T _ w2).1;have l3:3<ts.size:=(dy.mp z3).1;refine codeAny_handlers_suite_as (MQ (e:=e) (T:=T) (by rw[e5];exact y1) y3 y5 (by rw[e5];exact z1) z2 l3 λh6 sb6 tb6=>?_);rw[e5]at sb6;have ge6:h6.get? e=some oe:=sb6.extBut _ _ (dh w4) y1;have I6:Inv X pins σ (upd H4 T (.ext (eK T))) {s5 with heap:=h6}:=I5.write (x:=T) (e:=T) (o:=.ext (eK T)) (h':=h6) (t':=s5.toks) (by rw[w2];trivial) (.inl rfl) (λb u hb q=>by rw[e5]at q;exact sb6.extBut _ _ hb q) (let ⟨oo,_,q,_⟩:=tb6;⟨oo,q⟩) (AF tb6);have se:Di H4 (upd H4 T (.ext (eK T))):=λb o q=>by
   by_cases hb:b=T
   ·subst hb;rw[w2]at q;cases q;exact cU
   ·rw[bT hb];exact q
  have w1':(upd H4 T (.ext (eK T))) e=some (.ext (dU (.ref (G.cl c)) e T a0)):=se _ _ w1;have I7:Inv X pins σ (upd (upd H4 T (.ext (eK T))) e (.frz oe (.own 0))) {s5 with heap:=h6}:=I6.write (x:=e) (e:=e) (o:=.frz oe (.own 0)) (h':=h6) (t':=s5.toks) (by rw[w1'];trivial) (.inl rfl) (λb u hb q=>q) ⟨_,ge6⟩ ⟨ge6,oe,ge6⟩;have sx7:wO e (upd H4 T (.ext (eK T))) (upd (upd H4 T (.ext (eK T))) e (.frz oe (.own 0))):=λb o hb q=>by rw[bT hb];exact q
  obtain⟨sm7,x7⟩:=(sm4.same se).sameX sx7 ⟨_,w1'⟩;have xx:Ext μ h.length H' μ' hh.length (upd (upd H4 T (.ext (eK T))) e (.frz oe (.own 0))):=x1.trans ((x4 _).trans ((Gm se).trans (x7 _)));generalize hH7:upd (upd H4 T (.ext (eK T))) e (.frz oe (.own 0))=H7 at *;have rl:Bq G μ' hh.length H7 (.exc c) (.ref e):=by rw[Bq,<-hH7];exact⟨e,oe,.own 0,rfl,cU,y2,y6,vs,y3⟩
  refine vX (v:=.ref e) I7 hnd h2 (.inl l2) rfl (λs8 I8=>?_) (.inr l2);have I8':Inv (uI X (.ref e)) pins (σ.set 2 (some (.ref e))) H7 s8:=NC _ I8;have hlen:2<σ.length:=by rw[I.len];exact(bf.mp h2).1
  refine kv (JY (DX (X:=uI X (.ref e)) (i:=1) (pos:=apos) (pos':=xp) hnd h1 (.inl l1) (zA (X:=uI X (.ref e)) (pos:=ep) h2 (.inl l2) d2 c2) hsw2 (.inr l1)) pins s8 (σ.set 2 (some (.ref e))) H7 {nx:=λσ' H'=>σ'=(σ.set 2 (some (.ref e))).set 1 (some (.ref e))/\H'=H7,rt:=λ_ _=>False} I8' ⟨.ref e,fe hlen,rfl,rfl⟩) (λfl9 s9 hs9=>?_) λ_ _ z=>ik z
  cases fl9 with
  |ret u=>obtain⟨_,_,_,_,_,z⟩:=hs9;exact z.elim
  |brk=>obtain⟨_,_,_,z⟩:=hs9;exact z.elim
  |cont=>obtain⟨_,_,_,z⟩:=hs9;exact z.elim
  |next=>obtain⟨σ9,H9,I9,e9,f9⟩:=hs9;subst e9;subst f9;have I9':Inv X pins _ H9 s9:=i8 I8.ok I9;obtain⟨m,hn,hl⟩:=id I9'.loc;refine wpAny_nameGoes_keeps l2 hn hcls λh10 v10 hn10 hs10=>?_;exact⟨_,H9,i6 I9' hnd h2 hn hl hs10 hn10,hD μ' H9 e xx sm7 rl⟩
end
def wX:Sr->Rs Dv
 |.rt d h=>.ok d h
 |.nx _ h=>.ok .non h
 |_=>.bad
def qC(n:Nat)(d:Dv):Ev:=none::some d::bu (n-2) none
def qD(n ncl:Nat)(mb:MS):Rs Dv->Rs Dv
 |.ok _ h1=>wX (mb (qC n .non) h1)
 |.ex c h1=>if c<ncl then wX (mb (qC n (.exc c)) h1)else .bad
 |.bad=>.bad
def kE(G:Cfg)(base:cu)(Nl:Bh)(params:jl)(body:bq)(scope:fi)(me:M Dv)(n ncl:Nat)(mb:MS):Sp:=λvs H Q E=>∃f c' cl ds μ h,vs=[.ref f]/\Fp G base H μ h.length Nl params body scope f c' cl ds/\(∀x c,cl.lookup x=some c->x∈Nl)/\Bz G μ h H/\Out G E μ h.length H (qD n ncl mb (me (ds.map some) h)) (Bq G) Q
def ND{Q:VK}(o:Out G E μ n H (wX r) (Bq G) Q)(x:Ext μ n H μ1 n1 H1):Cr G (λ_ _ _=>False) μ1 n1 H1 r {nx:=λ_ H'=>Q .non H',rt:=Q}:=by
 cases r with
 |nx ρ h'=>exact λμ' H' σ' y s _=>o μ' H' .non (x.trans y) s rfl
 |rt d h'=>exact λμ' H' v y s r=>o μ' H' v (x.trans y) s r
 |bk ρ h'=>exact o.elim
 |ct ρ h'=>exact o.elim
 |ex c h'=>exact o.elim
 |bad=>exact o
theorem NF{G:Cfg}{μ:Nat->ah}{n:Nat}{H:Hp}{m:Nat}{d:Dv}{v:V}{σ:St}(hl:σ.length=m)(hm:2<=m)(h1:σ[1]?=some (some v))(r:Bq G μ n H d v):Bw G μ n H (qC m d) σ:=by
 refine⟨by simp[qC,hl];lia,λi d' e=>?_⟩;unfold qC at e
 match i,e with
 |0,e=>simp at e
 |1,e=>simp at e;subst e;exact⟨v,h1,r⟩
 |i+2,e=>
  simp only[ub,ua]at e
  split at e<;>cases e
section
variable{P:bp}{w:cm}{K:ar}{mg:Str->Option af}{base:cu}{f:ah}{G:Cfg}{k:Nat}{Nm Nl:Bh}{params:jl}{body:bq}{scope:fi}{me:M Dv}{ncl:Nat}{NE:ah}{mb:MS}
theorem j3{x xn en nm q qual:Str}{st:gw}{fd:br}{p cpos epos np xp ep apos hpos tpos zpos zp npos:Pos}{j:Nat}{rest:List gw}(Fn:Fun K q qual st f fd)(S:Br Nm [x] (aR st))(hK:K=G.K)(Eu:gR st=.Assign [.Name xn zp] (.Constant .none j npos) zpos::.Try [.Expr (.Call (.Name x p) [] [] cpos) epos] [.ExceptHandler (some (.Name nm np)) (some en) [.Assign [.Name xn xp] (.Name en ep) apos] hpos] [] [] tpos::rest)(h0:Nm[0]?=some x)(h1:Nm[1]?=some xn)(h2:Nm[2]?=some en)(l0:(aR st).names.lookup x=some .local)(l1:(aR st).names.lookup xn=some .local)(l2:(aR st).names.lookup en=some .local)(d0:(x==Hn)=false)(c0:(x==("__classdict__":Str))=false)(d2:(en==Hn)=false)(c2:(en==("__classdict__":Str))=false)(dn:(nm==Hn)=false)(hsw:∀L cd,swapsWith (.Call (.Name x p) [] [] cpos) none epos.line (envOfC qual (aR st) L f cd)=pure false)(hsw2:∀L cd,swapsWith (.Name en ep) (some (.Name xn xp)) apos.line (envOfC qual (aR st) L f cd)=pure false)(hsw3:∀L cd,swapsWith (.Constant .none j npos) (some (.Name xn zp)) zpos.line (envOfC qual (aR st) L f cd)=pure false)(hg:(aR st).names.lookup nm=some .globalImplicit)(hm:mg nm=some (.ref NE))(hx1:kg K (.ref NE) (.type "BaseException")=some true)(hx2:kg K (.type "type") (.type "tuple")=some false)(hx3:ye K (.ref NE) (.ref NE)=some true)(hsub:∀c,c<ncl->kg K (.ref (G.cl c)) (.ref NE)=some true)(LS:Cf Nl scope)(hb:∀(cl:List (Str×ah))(pm cdv ct:af),bindArgs (qt "<lambda>" G.lq params body scope cl pm cdv ct) ⟨[],[]⟩=pure [])(Cp:∀(f:ah)(cdv:af)(cl:List (Str×ah))(A:cb)(outer:List Env)(s:ag)(H:Hp)(E₀ E:XK),Good (kN P w K mg base Nl G.lq scope f cdv cl A outer s H E₀) G E k->aJ (kN P w K mg base Nl G.lq scope f cdv cl A outer s H E₀) G E body me)(Fc:∀(cdv:af)(A:cb)(outer:List Env)(s:ag)(H:Hp)(E₀ E:XK),Good (fU (aZ P w base) P w K mg base Nm qual (aR st) f cdv A outer s H E₀) G E (k+1)->kL (fU (aZ P w base) P w K mg base Nm qual (aR st) f cdv A outer s H E₀) G E rest mb):
  Bu P w K mg base (aZ P w base) (k+2) f fd [x] (kE G base Nl params body scope me Nm.length ncl mb):=by
 obtain⟨oc,od,kV,doc,pm,an,cdv,ct,osl,rfl,lk,hcd⟩:=Fn.ex;have hNl:2<Nm.length:=(bf.mp h2).1;refine EF lk hcd S (λvs H Q E⟨f,c',cl,ds,μ,h,e,_⟩=>by rw[e];rfl) λA outer s H vs Q E hr hsp=>?_;obtain⟨fl,c',cl,ds,μ,h,rfl,L,hall,sm,o⟩:=hsp;refine⟨λD σ H1=>σ=start Nm [.ref fl]/\H1=H/\D={nx:=λ_ H'=>Q .non H',rt:=Q},?_,rfl,rfl,rfl⟩;intro pins s1 σ H1 D I ⟨eσ,eH,eD⟩;subst eH;have hσl:σ.length=Nm.length:=I.len;have hσ0:σ[0]?=some (some (.ref fl)):=by rw[eσ];rfl
 rw[Eu];have gd:Good (fU (aZ P w base) P w K mg base Nm qual (aR st) f cdv A outer s H1 E) G (λ_ _ _=>False) (k+1):=FF hr hK (λ_ _ z=>z.elim) (λ_ _ _ _ _ z=>z);have hset:(σ.set 1 (some .non))[0]?=some (some (.ref fl)):=by rw[fj (by decide)];exact hσ0
 refine qp (aY (DX (X:=fU (aZ P w base) P w K mg base Nm qual (aR st) f cdv A outer s H1 E) (i:=1) (pos:=zpos) (pos':=zp) S.nd h1 (.inl l1) (JU (j:=j) (pos:=npos)) (hsw3 _ _) (.inl rfl) pins s1 σ H1 {nx:=λσ' H'=>σ'=σ.set 1 (some .non)/\H'=H1,rt:=λ_ _=>False} I ⟨rfl,rfl⟩) λGb s2 q2=>?_)
 cases Gb with
 |ret u=>obtain⟨_,_,_,_,_,z⟩:=q2;exact z.elim
 |brk=>obtain⟨_,_,_,z⟩:=q2;exact z.elim
 |cont=>obtain⟨_,_,_,z⟩:=q2;exact z.elim
 |next=>
  obtain⟨σ2,H2,I2,e2,f2⟩:=q2;subst e2;subst f2;refine qp (aY (i9 (X:=fU (aZ P w base) P w K mg base Nm qual (aR st) f cdv A outer s H2 E) (G:=G) (N:=Nl) (me:=me) (ncl:=ncl) (NE:=NE) (k:=k) (D:={nx:=zY G (λ_ _ _=>False) mb D,rt:=λ_ _=>False})
   hK rfl rfl S.nd h0 h1 h2 (λ_=>rfl) l0 l1 l2 d0 c0 d2 c2 dn (hsw _ _) (hsw2 _ _) hg hm hx1 hx2 hx3 hsub LS hb Cp hr I2 hset L hall sm ?_) λfl3 s3 q3=>?_)
  ·cases qm:me (ds.map some) h with
   |bad=>rw[qm]at o;exact o
   |ok d hh=>rw[qm]at o;intro μ' H' x' s';refine⟨μ',qC Nm.length .non,hh,NF (v:=.non) (by rw[mm];exact hσl) (by lia) (fe (by lia)) rfl,s',?_⟩;rw[eD];exact ND o x'
   |ex c hh=>
    rw[qm]at o;unfold qD at o;dsimp only at o
    split at o
    ·rename_i hc;refine⟨hc,λμ' H' a x' s' r'=>?_⟩;refine⟨μ',qC Nm.length (.exc c),hh,NF (v:=.ref a) (by simp only[mm];exact hσl) (by lia) ?_ r',s',?_⟩
     ·rw[fj (by decide),fe (by simp only[mm];lia)]
     ·rw[eD];exact ND o x'
    ·exact o.elim
  ·cases fl3 with
   |ret u=>obtain⟨_,_,_,_,_,z⟩:=q3;exact z.elim
   |brk=>obtain⟨_,_,_,z⟩:=q3;exact z.elim
   |cont=>obtain⟨_,_,_,z⟩:=q3;exact z.elim
   |next=>obtain⟨σ3,H3,I3,q3⟩:=q3;exact Fc cdv A outer s H2 E _ gd hK pins s3 σ3 H3 D I3 q3
end
def j5:∀(l:List af)(a b:Int)(t u:Tok)(c:af),xc l->xc (l++[.int a t,.int b u,c]):=by
 intro l a b t u c h
 fun_induction xc l with
 |case1=>trivial
 |case2 x t y u z rest ih=>exact ih h
 |case3 l h1 h2=>exact h.elim
def j6:∀(l:List af),xc l->codeAmong pos (l++[.int a t,.int b u,c])=some cv->codeAmong pos l=some cv∨cv=c:=by
 intro l h
 fun_induction xc l with
 |case1=>
  intro e;simp only[List.nil_append,codeAmong]at e
  split at e
  ·cases e;exact .inr rfl
  ·cases e
 |case2 x t y u z rest ih=>
  intro e;simp only[List.cons_append,codeAmong]at e⊢
  split at e
  ·rename_i hc;rw[if_pos hc];exact .inl e
  ·rename_i hc;rw[if_neg hc];exact ih h e
 |case3 l h1 h2=>exact h.elim
def kF(mg:Str->Option af)(base:cu):Prop:=∃bm ob,mg "__builtins__"=some (.ref bm)/\bm≠builtinsNs/\base.get? bm=some ob/\ob.cls=.type "module"/\ob.dict=some builtinsNs/\ob.data=.plain
def NG(H H':Hp):Prop:=∀a o,(∀ps,o≠.tbl ps)->H a=some o->H' a=some o
section
variable{X:Cx}{G:Cfg}{params:jl}{body:bq}{scope:fi}{lpos:Pos}{c P:ah}
theorem NH(Eu:defaultsOf params X.env=([],[]))(hq:X.env.qual++"<lambda>"=G.lq)(hP:G.tabs P=some G.lq)(Ds:X.env.code=.ref c)(hC:jc X.base c P)(hB:kF X.mg X.base)(hfree:∀x,(x,bz)∈scope.names->X.env.kindOf x=some .cell∨X.env.kindOf x=some .free):
  PE X (.Lambda params body scope lpos) (λσ H Q=>Ec G H/\∀f c' pm ctv oc H1,H f=none->NG H H1->Ec G H1->H1 f=some (.frz (jn "<lambda>" G.lq params body scope (cW X.env scope.names []) pm c' ctv) (.own 0))->H1 c'=some (.frz oc (.own 0))->tR G.lq oc->Q (.ref f) H1):=by
 intro pins s σ H Q I ⟨hT,h⟩;obtain⟨ps,t1,t2,t3⟩:=hT P _ hP;have gP:s.heap.get? P=some (qu ps):=I.hok P _ t1;have Fv:closureFor scope X.env=pure (cW X.env scope.names []):=zI λx hx=>I.ok.has x (hfree x hx);have hgs:s.heap.Ns dg X.mg:=I.mod.glob.keeps I.bk;obtain⟨bm,ob,b1,b2,b3,b4,b5,b6⟩:=hB;have b3':=I.bk _ _ b3;have hgP:dg≠P:=λq=>by obtain⟨o,es,ep,e,hd,_⟩:=hgs;rw[q,gP]at e;cases e;cases hd
 have hbP:bm≠P:=λq=>by rw[q,gP]at b3';cases b3';cases b4
 have hbG:bm≠dg:=λq=>by obtain⟨o,es,ep,e,hd,_⟩:=hgs;rw[<-q,b3']at e;cases e;rw[hd]at b6;cases b6
 have hba:s.heap.BuiltinsAt X.mg P:=⟨bm,ob,b1,b2,hbG,hbP,b3',b4,b5,b6⟩
 refine PySem.W.kla_eval Eu ?_;rw[hq]
 cases hc:codeAmong lpos ps.toList with
 |some cv=>obtain⟨c',oc,ec,h2,h3⟩:=t3 lpos cv hc;subst ec;refine PySem.W.kla_makeFunctionHit (mg:=X.mg) Fv I.ok.glob hgs Ds (hC.keeps I.bk) gP t2 hc hba λctv h' tk hk Cv=>?_;have hn:H h'.objs.size=none:=I.hok.fresh Cv;have kk:∀b u,s.heap.get? b=some u->(h'.push {cls:=.type "function",data:=.func (qt "<lambda>" G.lq params body scope (cW X.env scope.names []) ((X.mg "__name__").getD .none) (.ref c') ctv)}).get? b=some u:=λb u q=>ao _ (hk b u q);have gf:=bg h' (o:=jn "<lambda>" G.lq params body scope (cW X.env scope.names []) ((X.mg "__name__").getD .none) c' ctv) rfl;have I1:=I.laid (a:=h'.objs.size) (o:=.frz (jn "<lambda>" G.lq params body scope (cW X.env scope.names []) ((X.mg "__name__").getD .none) c' ctv) (.own 0)) (t':=tk) kk Cv ⟨gf,_,gf⟩;have sm:Di H (upd H h'.objs.size (.frz (jn "<lambda>" G.lq params body scope (cW X.env scope.names []) ((X.mg "__name__").getD .none) c' ctv) (.own 0))):=cN hn;exact⟨.ref h'.objs.size,_,I1,rfl,h _ c' _ ctv oc _ hn (λa o _ q=>sm a o q) (hT.keep λa o _ _ q=>sm a o q) cU (sm _ _ h2) h3⟩
 |none=>
  refine PySem.W.kla_makeFunction (mg:=X.mg) Fv I.ok.glob hgs Ds (hC.keeps I.bk) gP t2 hc hgP hba λc' ctv h' tk hx hge hlt hrec htb=>?_;obtain⟨c₂,oc,vs,t,e2,hoc,hd,hv⟩:=hrec;cases e2;generalize hfo:jn "<lambda>" G.lq params body scope (cW X.env scope.names []) ((X.mg "__name__").getD .none) c' ctv=fo;have nfo:fo.isFreed=false:=by rw[<-hfo];rfl
  have gf:(h'.push fo).get? h'.objs.size=some fo:=bg h' nfo;have goc:(h'.push fo).get? c'=some oc:=ao _ hoc;have gP':=ao fo htb;generalize hps:ps++#[rawInt lpos.line,rawInt lpos.col,.ref c']=Cn at gP';have lP:P<s.heap.objs.size:=av gP;have kk:∀b u,b≠P->s.heap.get? b=some u->(h'.push fo).get? b=some u:=λb u hb q=>ao _ (hx b u hb q);have lt0:∀b u,s.heap.get? b=some u->b<s.heap.objs.size:=λb u q=>av q;have nPc:P≠c':=bc (aw lP hge);have nPf:P≠h'.objs.size:=bc (aw lP (cp hge (gr hlt)));have ncf:c'≠h'.objs.size:=bc hlt;have lH:∀b o,H b=some o->b<s.heap.objs.size:=λb o q=>I.hok.lt q;have H1e:∀b,b≠P->b<s.heap.objs.size->upd (upd (upd H P (.tbl Cn)) c' (.frz oc (.own 0))) h'.objs.size (.frz fo (.own 0)) b=H b:=λb h1 h2=>by rw[bT (bc (aw h2 (cp hge (gr hlt)))),bT (bc (aw h2 hge)),bT h1]
  have eP:upd (upd (upd H P (.tbl Cn)) c' (.frz oc (.own 0))) h'.objs.size (.frz fo (.own 0)) P=some (.tbl Cn):=by rw[bT nPf,bT nPc,cU]
  have ec:upd (upd (upd H P (.tbl Cn)) c' (.frz oc (.own 0))) h'.objs.size (.frz fo (.own 0)) c'=some (.frz oc (.own 0)):=by rw[bT ncf,cU]
  have ef:upd (upd (upd H P (.tbl Cn)) c' (.frz oc (.own 0))) h'.objs.size (.frz fo (.own 0)) h'.objs.size=some (.frz fo (.own 0)):=cU;have cases1:∀b o,upd (upd (upd H P (.tbl Cn)) c' (.frz oc (.own 0))) h'.objs.size (.frz fo (.own 0)) b=some o->(b=h'.objs.size/\o=.frz fo (.own 0))∨(b=c'/\o=.frz oc (.own 0))∨(b=P/\o=.tbl Cn)∨(b≠P/\H b=some o):=λb o q=>by
   by_cases q1:b=h'.objs.size
   ·subst q1;rw[cU]at q;cases q;exact .inl ⟨rfl,rfl⟩
   rw[bT q1]at q
   by_cases q2:b=c'
   ·subst q2;rw[cU]at q;cases q;exact .inr (.inl ⟨rfl,rfl⟩)
   rw[bT q2]at q
   by_cases q3:b=P
   ·subst q3;rw[cU]at q;cases q;exact .inr (.inr (.inl ⟨rfl,rfl⟩))
   rw[bT q3]at q;exact .inr (.inr (.inr ⟨q3,q⟩))
  generalize upd (upd (upd H P (.tbl Cn)) c' (.frz oc (.own 0))) h'.objs.size (.frz fo (.own 0))=H1 at *;have keepO:∀b o,(∀ps,o≠.tbl ps)->H b=some o->H1 b=some o:=λb o hn q=>by rw[H1e b (λz=>by subst z;rw[t1]at q;cases q;exact hn _ rfl) (lH b o q)];exact q
  have un:Un X.fs [] H H1 s.heap (h'.push fo):=by
   have nP:∀b,H b=none->b≠P:=λb n z=>by subst z;rw[t1]at n;cases n
   refine⟨λb o q n _ _=>kk b o (nP b n) q,λb o q n _ _=>⟨o.slots,kk b o (nP b n) q⟩,λb o q n _=>by rw[H1e b (nP b n) (lt0 b o q)];exact n,λb o q _=>?_,λb xs q=>keepO b _ (λ_ z=>by cases z) q,λb o u q=>keepO b _ (λ_ z=>by cases z) q,λb qs q=>?_⟩
   ·by_cases hb:b=P
    ·subst hb;exact⟨_,gP'⟩
    ·exact⟨_,kk b o hb q⟩
   ·by_cases hb:b=P
    ·subst hb;rw[t1]at q;cases q;exact⟨#[rawInt lpos.line,rawInt lpos.col,.ref c'],by rw[eP,hps]⟩
    ·exact⟨#[],by rw[H1e b hb (lH b _ q),q];simp⟩
  have hok1:Cz X.prog X.w H1 (h'.push fo):=λb o q=>by
   rcases cases1 b o q with⟨rfl,rfl⟩|⟨rfl,rfl⟩|⟨rfl,rfl⟩|⟨hb,q⟩
   ·exact⟨gf,_,gf⟩
   ·exact⟨goc,_,goc⟩
   ·exact gP'
   ·refine(I.hok b o q).stay (λb2 u Fb z=>kk b2 u ?_ z) (λb2 z=>keepO b2 _ (λ_ z=>by cases z) z) λb2 xs z=>keepO b2 _ (λ_ z=>by cases z) z
    rcases Fb with rfl|Fb
    ·exact hb
    ·rintro rfl;rw[t1]at Fb;cases Fb
  have I1:Inv X pins σ H1 {s with heap:=h'.push fo,toks:=tk}:=I.un un hok1;refine⟨.ref h'.objs.size,H1,I1,rfl,h h'.objs.size c' ((X.mg "__name__").getD .none) ctv oc H1 (I.hok.fresh (cp hge (gr hlt))) keepO ?_ (by rw[hfo];exact ef) ec ⟨vs,t,hd,hv⟩⟩;intro P' lq' eP'
  by_cases hPP:P'=P
  case neg=>obtain⟨qs,u1,u2,u3⟩:=hT P' lq' eP';refine⟨qs,by rw[H1e P' hPP (lH P' _ u1)];exact u1,u2,λpos cv q=>?_⟩;obtain⟨a,oa,z1,z2,z3⟩:=u3 pos cv q;exact⟨a,oa,z1,keepO a _ (λ_ z=>by cases z) z2,z3⟩
  subst hPP;rw[hP]at eP';cases eP';have hl:Cn.toList=ps.toList++[rawInt lpos.line,rawInt lpos.col,.ref c']:=by rw[<-hps];simp
  refine⟨Cn,eP,by rw[hl];exact j5 _ _ _ _ _ _ t2,λpos cv q=>?_⟩;rw[hl]at q
  rcases j6 _ t2 q with q|q
  ·obtain⟨a,oa,z1,z2,z3⟩:=t3 pos cv q;exact⟨a,oa,z1,keepO a _ (λ_ z=>by cases z) z2,z3⟩
  ·exact⟨c',oc,q,ec,vs,t,hd,hv⟩
end
def jO:A'->Ev->Option Bj 
 |[],_=>some []
 |i::r,ρ=>match ρ[i]? with
  |some (some d)=>(match jO r ρ with
   |some ds=>some (d::ds)
   |none=>none)
  |_=>none
theorem NI:∀{caps:A'}{ds:Bj},jO caps ρ=some ds->ds.length=caps.length/\∀(i:Nat)(d:Dv),ds[i]?=some d->∃j,caps[i]?=some j/\ρ[j]?=some (some d)
 |[],ds,e=>by unfold jO at e;cases e;exact⟨rfl,λi d e=>by simp at e⟩
 |j::r,ds,e=>by
  unfold jO at e
  split at e
  ·rename_i d0 h0
   split at e
   ·rename_i ds0 h1;cases e;let⟨l,k⟩:=NI h1;refine⟨by simp[l],λi d q=>?_⟩
    cases i with
    |zero=>simp at q;subst q;exact⟨j,rfl,h0⟩
    |succ i=>exact k i d (by simpa using q)
   ·cases e
  ·cases e
def qE(caps:A')(n ncl:Nat)(mb:MS)(me:M Dv):M Dv:=λρ h=>match jO caps ρ with
 |some ds=>qD n ncl mb (me (ds.map some) h)
 |none=>.bad
def iU(base h:cu)(cs:List ah):cu:=PySem.W.hideAll h ((ba h.objs.size).filter λb=>!((base.get? b).isSome||cs.contains b))
def wY{base h:cu}(e:h.get? b=some o)(hb:(∃u,base.get? b=some u)∨b∈cs):(iU base h cs).get? b=some o:=
 zu _ e λz=>by
  have:=(ie.mp z).2
  rcases hb with⟨u,hb⟩|hb
  ·simp[hb]at this
  ·simp[hb]at this
def FP(e:(iU base h cs).get? b=some o):h.get? b=some o/\((∃u,base.get? b=some u)∨b∈cs):=by
 have e1:=Ae _ e;refine⟨e1,?_⟩
 by_cases hb:(∃u,base.get? b=some u)∨b∈cs
 ·exact hb
 ·exfalso
  have hm:b∈(ba h.objs.size).filter λb=>!((base.get? b).isSome||cs.contains b):=by
   refine ie.mpr ⟨bx.mpr (av e1),?_⟩
   cases q:base.get? b with
   |some u=>exact absurd (.inl ⟨u,q⟩) hb
   |none=>have:b∉cs:=λz=>hb (.inr z);simp[this]
  have:=zq (h:=h) _ hm;unfold iU at e;rw[this]at e;cases e
theorem Out.ext{α β:Type}{G:Cfg}{E:XK}{μ μ1:Nat->ah}{n n1:Nat}{H H1:Hp}{r:Rs α}{R:(Nat->ah)->Nat->Hp->α->β->Prop}{Q:β->Hp->Prop}(o:Out G E μ n H r R Q)(x:Ext μ n H μ1 n1 H1):Out G E μ1 n1 H1 r R Q:=by
 cases r with
 |bad=>exact o
 |ex c h'=>exact λμ' H' u y=>o μ' H' u (x.trans y)
 |ok d h'=>exact λμ' H' u y=>o μ' H' u (x.trans y)
def j7{env:Env}{scope:fi}(hf:∀x,(x,bz)∈scope.names->∃c,env.cells.lookup x=some c)(e:(cW env scope.names []).lookup x=some c):(x,bz)∈scope.names/\env.cells.lookup x=some c:=by
 rcases zJ _ _ e with q|⟨q1,q2⟩
 ·cases q
 ·let⟨c',h'⟩:=hf x q1;rw[h']at q2;subst q2;exact⟨q1,h'⟩
section
variable{X:Cx}{G:Cfg}
open Classical in
def fF(H:Hp)(tx:Dt)(u:af):Bool:=decide (∃v t,RelV v u/\Den kZ H t v/\bG t tx=true)
open Classical in
def NJ{v:V}(r:RelV v u)(d:Den kZ H t v):fF H tx u=bG t tx:=by
 unfold fF
 cases q:bG t tx with
 |true=>exact decide_eq_true ⟨v,t,r,d,q⟩
 |false=>refine decide_eq_false λ⟨v',t',r',d',q'⟩=>?_;have e:=r'.inj r;subst e;rw[Den.inj t' t v' d' d,q]at q';cases q'
theorem wZ:∀{ts:List Dt}{vs:Ho}{us:List af},By kZ H ts vs->Bs vs us->us.any (fF H tx)=ts.any λt=>bG t tx
 |[],_,_,d,r=>by rw[By]at d;subst d;cases r;rfl
 |t::ts,_,_,d,r=>by
  rw[By]at d;obtain⟨v,rr,rfl,d1,d2⟩:=d
  cases r with
  |cons r1 r2=>rw[List.any_cons,List.any_cons,NJ r1 d1,wZ d2 r2]
def AI(K:ar)(neg:Bool):R2:=λx y H Q=>∃a vs ts tx,y=.ref a/\(Cu K H a vs∨Cd K H a vs)/\By kZ H ts vs/\Den kZ H tx x/\(∀t∈ts,eY t<=cD/\nod t=true)/\nod tx=true/\Q (.bl (if neg then !(ts.any λt=>bG t tx)else ts.any λt=>bG t tx)) H
def AJ{v:af}(hu:X.A.units+64<cLine)(I:Inv X pins σ H s)(rx:RelV x v)(r:Bs vs its)(d:By kZ H ts vs)(dx:Den kZ H tx x)(ht:∀t∈ts,eY t<=cD/\nod t=true)(nx:nod tx=true):∀y,y∈its.toArray->lj X.A.in1 s y v (fF H tx y):=λy hy=>by
 have hy':y∈its:=by simpa using hy
 let⟨j,hj,e⟩:=vh.mp hy';have hl:=r.length;let⟨u,eu,ru⟩:=r.get (i:=j) (x:=vs[j]'(by lia)) (bj (by lia));have:u=y:=by rw[bj hj,e]at eu;cases eu;rfl
 subst this;let⟨t,et,dt⟩:=d.get (i:=j) (bj (by lia:j<vs.length));let⟨h1,h2⟩:=ht t (cx et);rw[NJ ru dt];exact(L6 I.hok cD X.A.in1 t tx _ x _ v h1 (by show X.A.units+1+cD+1<cLine;unfold cD;lia) h2 nx dt dx ru rx).2
def j8(hu:X.A.units+64<cLine):Cw X (compareOp .In) (AI X.K false):=by
 intro pins s σ H x y v u Q I r1 r2 ⟨a,vs,ts,tx,e,hs,d,dx,ht,nx,q⟩;subst e;cases r2
 rcases hs with hs|hs
 ·let⟨its,r,pl,hz⟩:=I.list hs;refine SeqAt.in_listAt (fF H tx) pl.isList (AJ hu I r1 r d dx ht nx) ?_;exact⟨.bl _,H,I,by rw[show its.toArray.any (fF H tx)=its.any (fF H tx)by simp,wZ d r];rfl,q⟩
 ·let⟨its,r,pl,hz⟩:=I.tuple hs;refine SeqAt.in_tupleAt (fF H tx) pl (AJ hu I r1 r d dx ht nx) ?_;exact⟨.bl _,H,I,by rw[show its.toArray.any (fF H tx)=its.any (fF H tx)by simp,wZ d r];rfl,q⟩
def j9(hu:X.A.units+64<cLine):Cw X (compareOp .NotIn) (AI X.K true):=by
 intro pins s σ H x y v u Q I r1 r2 ⟨a,vs,ts,tx,e,hs,d,dx,ht,nx,q⟩;subst e;cases r2
 rcases hs with hs|hs
 ·let⟨its,r,pl,hz⟩:=I.list hs;refine SeqAt.notIn_listAt (fF H tx) pl.isList (AJ hu I r1 r d dx ht nx) ?_;exact⟨.bl _,H,I,by rw[show its.toArray.any (fF H tx)=its.any (fF H tx)by simp,wZ d r];rfl,q⟩
 ·let⟨its,r,pl,hz⟩:=I.tuple hs;refine SeqAt.notIn_tupleAt (fF H tx) pl (AJ hu I r1 r d dx ht nx) ?_;exact⟨.bl _,H,I,by rw[show its.toArray.any (fF H tx)=its.any (fF H tx)by simp,wZ d r];rfl,q⟩
def qF(scr:y')(neg:Bool)(x c:Dv)(h:Hs):Rs Dv:=match gK scr c h with
 |some ys=>match bE (bD cD h) ys,bD cD h x with
  |some ts,some tx=>.ok (.bl (if neg then !(ts.any λt=>bG t tx)else ts.any λt=>bG t tx)) h
  |_,_=>.bad
 |none=>.bad
theorem NK(s:Bz G μ h H):∀{xs:Bj}{vs:Ho}{ts:List Dt},RelDL G μ h.length H xs vs->bE (bD cD h) xs=some ts->By kZ H ts vs/\∀t∈ts,eY t<=cD/\nod t=true
 |[],_,_,r,e=>by cases e;rw[RelDL]at r;subst r;exact⟨By.nil,λt ht=>by simp at ht⟩
 |x::xs,_,_,r,e=>by
  rw[RelDL]at r;obtain⟨v,rr,rfl,r1,r2⟩:=r;unfold bE at e
  cases q:bD cD h x with
  |none=>rw[q]at e;cases e
  |some y=>
   rw[q]at e;dsimp only at e
   cases q2:bE (bD cD h) xs with
   |none=>rw[q2]at e;cases e
   |some ys=>
    rw[q2]at e;cases e;let⟨a1,a2,a3⟩:=tW s _ x v y r1 q;let⟨b1,b2⟩:=NK s r2 q2;refine⟨By.cons a1 b1,λt ht=>?_⟩
    rcases az.mp ht with rfl|ht
    ·exact⟨a2,a3⟩
    ·exact b2 t ht
theorem k7(neg:Bool):gG G (AI G.K neg) (qF G.scr neg):=by
 intro E μ h H x y vx vy Q s rx ry o;unfold qF at o
 cases q:gK G.scr y h with
 |none=>rw[q]at o;exact o.elim
 |some ys=>
  rw[q]at o;dsimp only at o
  split at o
  ·rename_i ts tx e1 e2;obtain⟨a,vs,rfl,hs,r⟩:=E6 s ry q;obtain⟨b1,b2⟩:=NK s r e1;obtain⟨c1,c2,c3⟩:=tW s _ x vx tx rx e2;exact⟨a,vs,ts,tx,rfl,hs,b1,c1,b2,c3,o.val s rfl⟩
  ·exact o.elim
end
def jP(c:M Bool)(body:MS):Nat->MS
 |0=>λ_ _=>.bad
 |f+1=>λρ h=>(c ρ h).thenS λb h1=>if b=true then(match body ρ h1 with
  |.nx ρ2 h2=>jP c body f ρ2 h2
  |.ct ρ2 h2=>jP c body f ρ2 h2
  |.bk ρ2 h2=>.nx ρ2 h2
  |r=>r)else .nx ρ h1
section
variable{c:bq}{body:List gw}{mc:M Bool}{mb:MS}{pos:Pos}
def NL(n:Nat)(hp:yy (model X.prog X.w) X.A X.env X.xe)(hc:hZ X G E c mc)(hb:kL X G E body mb):iK X G E (.While c body [] pos) (jP mc mb n):=λhK=>PS.imp (VS hp (hc hK) (hb hK)) λD σ H⟨μ,ρ,h,rs,s,o⟩=>by
 refine⟨λm σ H=>∃μ ρ h,Bw G μ h.length H ρ σ/\Bz G μ h H/\Cr G E μ h.length H (jP mc mb m ρ h) D,⟨n,μ,ρ,h,rs,s,o⟩,?_⟩
 rintro m σ1 H1 ⟨μ1,ρ1,h1,Cc,s1,o1⟩
 cases m with
 |zero=>exact o1.elim
 |succ m=>
  refine MK Cc s1 o1 λμ2 b h2 H2 x2 Dn s2 o2=>?_
  cases b with
  |false=>rw[if_neg (by decide)]at o2⊢;exact o2 μ2 H2 σ1 Gs s2 Dn
  |true=>
   rw[if_pos rfl]at o2⊢;refine⟨λσ' H'=>∃μ ρ h,Bw G μ h.length H' ρ σ'/\Bz G μ h H'/\Cr G E μ h.length H' (jP mc mb m ρ h) D,λσ' H' z=>⟨m,jz m,z⟩,μ2,ρ1,h2,Dn,s2,?_⟩
   cases q:mb ρ1 h2 with
   |nx ρ3 h3=>rw[q]at o2;exact λμ4 H4 σ4 x4 s4 rE=>⟨μ4,ρ3,h3,rE,s4,Cr.ext o2 x4⟩
   |ct ρ3 h3=>rw[q]at o2;exact λμ4 H4 σ4 x4 s4 rE=>⟨μ4,ρ3,h3,rE,s4,Cr.ext o2 x4⟩
   |bk ρ3 h3=>rw[q]at o2;exact o2
   |rt d h3=>rw[q]at o2;exact o2
   |ex d h3=>rw[q]at o2;exact o2
   |bad=>rw[q]at o2;exact o2.elim
end
section
variable{e o:bq}{mo me:M Dv}{pos apos cpos np p2:Pos}{y:Str}
def AK(x i:Dv)(h:Hs):Rs Dv:=match x,i with
 |.ref j,.int n=>match getL h j with
  |some xs=>match eO xs.length n with
   |some k=>match xs[k]? with
    |some d=>if xs.length<=1000000 then .ok d (h.set j (.lst (xs.eraseIdx k)))else .bad
    |none=>.bad
   |none=>.bad
  |none=>.bad
 |_,_=>.bad
theorem NM:∀{ds:Bj}{vs:Ho}(k:Nat),RelDL G μ n H ds vs->RelDL G μ n H (ds.eraseIdx k) (vs.eraseIdx k)
 |[],_,_,h=>by rw[RelDL]at h;subst h;exact Gr
 |d::ds,_,0,h=>by rw[RelDL]at h;obtain⟨v,r,rfl,h1,h2⟩:=h;exact h2
 |d::ds,_,k+1,h=>by rw[RelDL]at h;obtain⟨v,r,rfl,h1,h2⟩:=h;exact Gw h1 (NM k h2)
def xA(mo me:M Dv):M Dv:=λρ h=>(mo ρ h).bind λx h1=>if kC x h1=true then(me ρ h1).bind λd h2=>AK x d h2 else .bad
theorem k8(ho:aJ X G E (.Name y np) mo)(he:aJ X G E e me)(hs:ay [e] X.env=[(false,eval e X.env)]:=by rfl)(hl:(apos.endLine==cpos.line)=true:=by rfl):aJ X G E (.Call (.Attribute (.Name y np) "pop" apos) [e] [] cpos) (xA mo me):=λhK=>
 Gp (EM sk PySem.F.slot_list_pop PySem.F.type_list_pop X1 (ho hK) (hY (he hK) jI hs) rfl (by rw[hs];rfl) hl hs rfl) λσ H Q⟨μ,ρ,h,rs,s,oo⟩=>eZ rs s oo λμ1 x h1 vx H1 x1 Cc s1 r1 o1=>by
  split at o1
  ·rename_i hl;refine⟨FN s1 r1 hl,eZ Cc s1 o1 λμ2 d h2 vd H2 x2 Dn s2 r2 o2=>?_⟩
   cases x with
   |ref j=>
    cases d with
    |int n=>
     dsimp only[AK]at o2
     cases q:getL h2 j with
     |none=>rw[q]at o2;exact o2.elim
     |some xs=>
      rw[q]at o2;dsimp only at o2
      cases q2:eO xs.length n with
      |none=>rw[q2]at o2;exact o2.elim
      |some k=>
       rw[q2]at o2;dsimp only at o2
       cases q3:xs[k]? with
       |none=>rw[q3]at o2;exact o2.elim
       |some d'=>
        rw[q3]at o2;dsimp only at o2
        split at o2
        ·rename_i hz;obtain⟨vs,ea,ra⟩:=s2.ob j _ (dN q);obtain⟨_,rfl⟩:=Gx x2 _ _ r1;rw[Bq]at r2;subst r2;obtain⟨v,ev,rv⟩:=ra.get q3;obtain⟨i1,i2,i3,i4⟩:=EG q2;obtain⟨x3,s3⟩:=s2.write (dN q) (NM k ra);exact⟨_,vs,n,k,v,rfl,rfl,ea,by omega,by omega,by rw[ra.length];exact i1,ev,o2 μ2 _ _ x3 s3 (Gx x3 _ _ rv)⟩
        ·exact o2.elim
    |_=>exact o2.elim
   |_=>exact o2.elim
  ·exact o1.elim
def lE(xs:Bj)(lo hi:Option Int):Bj:=(xs.drop (HT.sIx xs.length 0 lo)).take (HT.sIx xs.length xs.length hi-HT.sIx xs.length 0 lo)
def NN(r:RelDL G μ n H xs vs)(lo hi:Option Int):RelDL G μ n H (lE xs lo hi) (pR vs lo hi):=by unfold lE pR;rw[r.length];exact(r.drop _).take _
abbrev MO:=Ev->Hs->Rs (Option Int)
def k9(G:Cfg)(E:XK)(m:MO):TO:=λσ H Q=>∃μ ρ h,Bw G μ h.length H ρ σ/\Bz G μ h H/\Out G E μ h.length H (m ρ h) (λ_ _ _ a b=>b=a) Q
def xB(X:Cx)(G:Cfg)(E:XK)(pe:Option bq)(m:MO):Prop:=X.K=G.K->PO X pe (k9 G E m)
def PO.imp{t t':TO}(h:PO X pe t)(i:∀σ H Q,t' σ H Q->t σ H Q):PO X pe t':=λpins s σ H Q I q=>h pins s σ H Q I (i σ H Q q)
def gY:MO:=λ_ h=>.ok none h
def uJ:Dv->Hs->Rs (Option Int)
 |.int i,h=>.ok (some i) h
 |_,_=>.bad
def fZ(m:M Dv):MO:=λρ h=>(m ρ h).bind uJ
def oR:xB X G E none gY:=λ_=>PO.imp XB λσ H Q⟨μ,ρ,h,rs,s,oo⟩=>oo.val s rfl
def nE(he:aJ X G E e me):xB X G E (some e) (fZ me):=λhK=>PO.imp (XC (he hK)) λσ H Q⟨μ,ρ,h,rs,s,oo⟩=>eZ rs s oo λμ1 d h1 v H1 x1 Cc s1 r1 o1=>by
 cases d with
 |int i=>exact⟨i,r1,o1.val s1 rfl⟩
 |_=>exact o1.elim
end
section
variable{pos:Pos}
def NO:aJ X G E (.Dict [] [] pos) (mC .edc):=λ_ pins s σ H Q I⟨μ,ρ,h,rs,sm,o⟩=>by have hb:sysModules<s.heap.objs.size:=Nat.lt_trans (by decide) (I.mod.glob.keeps I.bk).lt;have hn:=I.hok.fresh (aq s.heap.objs.size);refine wpAny_Dict_empty ⟨.ref s.heap.objs.size,_,I.laid (a:=s.heap.objs.size) (o:=.dK []) (t':=s.toks) (λ_ _ q=>ao _ q) (aq _) ⟨gv _,beq_eq_false_iff_ne.mpr (dh (bc hb)),[],.nil,Heap.DictOf.new s.heap⟩,rfl,?_⟩;exact o μ _ _ (Gm (cN hn)) (sm.same (cN hn)) ⟨_,rfl,cU⟩
theorem NP{x:Str}{i:Int}{t:Tok}(hg:Gl X x)(hm:X.mg x=some (.int i t))(hd:(x==Hn)=false:=by decide):aJ X G E (.Name x pos) (mC (.int i)):=λ_=>Gp (JV (v:=.int i) hg hm ⟨t,rfl⟩ hd) λσ H Q⟨μ,ρ,h,rs,s,o⟩=>o.val s (show Bq G μ _ H (.int i) (.int i) from rfl)
def oS:Dv->Hs->Rs Dv
 |.int i,h=>.ok (.int (-i)) h
 |_,_=>.bad
def l8:kY G (rU λi=>.int (-i)) oS:=by
 intro E μ h H x vx Q s r o
 cases x with
 |int i=>rw[Bq]at r;subst r;exact⟨i,rfl,o.val s rfl⟩
 |_=>exact o.elim
end
structure Lawful(lp:bp)(w:cm)(K:ar)(mg:Str->Option af)(base:cu)(k:Nat)(fa:ah)(fd:br)(x:Str)(Ps:List ah)(a:ah)(ns:y'):Prop where
 ex:∃(G:Cfg)(lawF:Bi)(hh:Hs),G.K=K/\G.scr=ns/\G.sa=a/\(∀P lq,G.tabs P=some lq->P∈Ps)/\lawF [.scr] []=.ok (.bl true) hh/\Bu lp w K mg base (aZ lp w base) k fa fd [x] (cK G lawF)
def FQ{K:ar}{mg mb:Str->Option af}{cps:List (ah×ah)}{s₁:ag}{vs:List af}(KX:K.In s₁.heap)(hns:s₁.heap.Ns dg mg)(hb:s₁.heap.Ns builtinsNs mb)(hbb:∀x:Str,x≠"__name__"->mb x=dz x)(hlim:s₁.heap.NoLimit)(hg:s₁.gens=#[])(ha:s₁.heap.get? a=some {cls:=.type "list",data:=.seq vs.toArray})(hi:lx vs ns)(hl:ns.length<=cg)(hr:Ci k callerA)(hC:∀y∈cps,jc s₁.heap y.1 y.2)(hP':∀y∈cps,s₁.heap.get? y.2=some (qu #[]))(hB:kF mg s₁.heap)(hnt:PySem.W.noTabs K=true)(F:∀base:cu,K.In base->base.Ns dg mg->(∀y∈cps,jc base y.1 y.2)->kF mg base->Lawful lp w K mg base k fa fd x (cps.map gu) a ns)(hbind:∀(s:ag)(u:af),yi s fd ⟨[u],[]⟩ [(x,u)]):
  codeAny (model lp w) callerA (.call (.ref fa) ⟨[.ref a],[]⟩) (λr s'=>r=.ok (.ret (.bool true))/\OldK s₁.heap s'.heap/\s'.os=s₁.os/\uj s'.gens) s₁:=by
 have rv:=tN hi;have lenV:=hi.length;have hP:∀{P:ah},P∈cps.map gu->s₁.heap.get? P=some (qu #[]):=λ{P}h=>by obtain⟨y,hy,rfl⟩:=cf.mp h;exact hP' y hy
 have KP:∀{P:ah},P∈cps.map gu->K.lookup P=none:=λ{P}hm=>by
  cases q:K.lookup P with
  |none=>rfl
  |some o=>have e:=KX P o q;rw[hP hm]at e;cases e;have:=dv.mp hnt (P,qu #[]) (PySem.W.mem_of_lookupK q);exact absurd (show false=true from this) ic
 have aP:a∉cps.map gu:=λz=>by rw[hP z]at ha;cases ha
 have core:∀H:Hp,(∀P∈cps.map gu,H P=some (.tbl #[]))->FzL K H a (ns.map Gn)->Cz lp w H s₁.heap->(∀b,H b≠none->b=a∨b∈cps.map gu)->(H a≠none->K.lookup a=none)->(∀u,H a=some u->∃o xs,u=.frz o (.lst xs))->
   codeAny (model lp w) callerA (.call (.ref fa) ⟨[.ref a],[]⟩) (λr s'=>r=.ok (.ret (.bool true))/\OldK s₁.heap s'.heap/\s'.os=s₁.os/\uj s'.gens) s₁:=by
  intro H hHP hS hok hA hK hF;have base_of:∀{b:ah}{o:Obj},s₁.heap.get? b=some o->H b=none->(lV s₁.heap H).get? b=some o:=λe n=>UG e n;have none_of:∀{b:ah},b≠a->b∉cps.map gu->H b=none:=λ{b}h1 h2=>by
   cases q:H b with
   |none=>rfl
   |some u=>exact((hA b (by rw[q];simp)).elim h1 h2).elim
  have noD:∀{b:ah}{o:Obj}{es:Array DictEntry}{ep:Nat},s₁.heap.get? b=some o->o.data=.dict es ep->H b=none:=λ{b o es ep}e d=>none_of (λz=>by
    subst z;rw[ha]at e;cases e;have d':Data.seq vs.toArray _=Data.dict es ep:=d
    cases d') (λz=>by
    rw[hP z]at e;cases e;have d':Data.fields _=Data.dict es ep:=d
    cases d')
  have nsK:∀{b:ah}{m:Str->Option af},s₁.heap.Ns b m->(lV s₁.heap H).Ns b m:=λ{b m}⟨o,es,ep,e,d,r⟩=>⟨o,es,ep,base_of e (noD e d),d,r⟩
  have hKb:K.In (lV s₁.heap H):=λb o e=>base_of (KX b o e) (by
   cases q:H b with
   |none=>rfl
   |some u=>
    rcases hA b (by rw[q];simp)with z|z
    ·subst z;rw[hK (by rw[q];simp)]at e;cases e
    ·rw[KP z]at e;cases e)
  have hM:Mod K mg (lV s₁.heap H):=⟨hKb,nsK hns,⟨mb,nsK hb,hbb⟩,let ⟨mc,h1,h2⟩:=hlim;⟨mc,nsK h1,h2⟩⟩
  have hCb:∀y∈cps,jc (lV s₁.heap H) y.1 y.2:=λy hy=>by
   let⟨o,Cm,file,tf,flags,tg,inF,text,tt,e1,r1,r⟩:=hC y hy;refine⟨o,Cm,file,tf,flags,tg,inF,text,tt,base_of e1 (none_of (λz=>?_) (λz=>?_)),r1,r⟩
   rotate_left
   ·rw[hP z]at e1;cases e1;cases r1
   rw[z,ha]at e1;cases e1;exact absurd r1 (by intro w;injection w with w;exact absurd w (by decide))
  have hBb:kF mg (lV s₁.heap H):=by
   let⟨bm,ob,b1,b2,b3,b4,b5,b6⟩:=hB;refine⟨bm,ob,b1,b2,base_of b3 (none_of (λz=>?_) (λz=>?_)),b4,b5,b6⟩
   ·subst z;rw[ha]at b3;cases b3;exact absurd b4 (by intro w;injection w with w;exact absurd w (by decide))
   ·rw[hP z]at b3;cases b3;cases b4
  have e0:Gg lp w K mg (lV s₁.heap H) callerA [] s₁ H:=⟨rfl,hM,λb o e=>UH e,rf (UE _ _),trivial,λb hb=>absurd (show b∈([]:List ah) from hb) (by simp),hok,.of_eq hg⟩
  let⟨G,lawF,hh,g1,g2,g3,g4,hlaw,Fn⟩:=(F _ hKb (nsK hns) hCb hBb).ex;have rd:RelDL G (λ_=>0) 0 H [.scr] [.ref a]:=by refine Gw ?_ Gr;rw[Bq,g1,g2,g3];exact⟨rfl,hS⟩
  have sm:Bz G (λ_=>0) [] H:=⟨λi j h1=>absurd h1 (by simp),λi o q=>by simp at q,λP' lq e=>by
   exact⟨#[],hHP P' (g4 P' lq e),trivial,λpos cv q=>by
    have q':(none:Option af)=some cv:=q
    cases q'⟩⟩
  refine qd (Fn.run callerA [] s₁ H ⟨[.ref a],[]⟩ [.ref a] [.ref a] (λv _=>v=.bl true) (λ_ _ _=>False) hr e0 (hbind s₁ (.ref a)) (.cons rfl .nil) ⟨λ_=>0,[],[.scr],rd,sm,?_⟩) λr s' h=>?_
  ·rw[hlaw];exact λμ' H' v _ _ r=>r
  cases r with
  |error e=>let⟨_,_,_,_,_,_,_,_,_,z⟩:=h;exact z.elim
  |ok fl=>
   cases fl with
   |next=>exact ik h
   |brk=>exact ik h
   |cont=>exact ik h
   |ret u=>
    let⟨v,H',os,bare,un,hok',r',q⟩:=h;have q':v=.bl true:=q;subst q';obtain rfl:u=Ba true:=r';have kept:∀b o,b∉cps.map gu->s₁.heap.get? b=some o->s'.heap.get? b=some o:=λb o hbP e=>by
     cases q:H b with
     |none=>exact un.keep b o e q (by intro z;exact absurd (show b∈([]:List ah) from z) (by simp)) (by simp)
     |some u=>
      rcases hA b (by rw[q];simp)with z|z
      ·subst z;obtain⟨ob,xs,rfl⟩:=hF u q;have z2:=un.frzs b ob _ q;let⟨e1,_⟩:=hok b _ q;let⟨e2,_⟩:=hok' b _ z2;rw[e]at e1;cases e1;exact e2
      ·exact absurd z hbP
    have gP':∀P∈cps.map gu,∃more,s'.heap.get? P=some (qu (#[]++more)):=λP h=>by let⟨more,hm⟩:=un.tbls P #[] (hHP P h);exact⟨more,hok' P _ hm⟩
    refine⟨rfl,⟨λb o e=>?_,λb o e=>?_⟩,os,bare⟩
    ·by_cases hb:b∈cps.map gu
     ·rw[hP hb]at e;cases e;let⟨more,gP⟩:=gP' b hb;obtain⟨y,hy,rfl⟩:=cf.mp hb;exact .inr (.inl ⟨((hC y hy).tab (hP hb)).isCodeTable,rfl,#[],more,rfl,gP⟩)
     ·exact .inl (kept b o hb e)
    ·by_cases hb:b∈cps.map gu
     ·let⟨more,gP⟩:=gP' b hb;exact⟨_,gP⟩
     ·exact⟨_,kept b o hb e⟩
 cases hk:K.lookup a with
 |some o=>
  have e:=KX a o hk;rw[ha]at e;cases e;refine core (λb=>if b∈cps.map gu then some (.tbl #[])else none) (λP h=>if_pos h) (.inr ⟨_,vs.toArray,_,hk,rfl,rfl,rfl,by rw[ax,lenV];exact hl,by simpa using rv⟩) (λb u z=>?_) (λb z=>?_) (λz=>absurd (if_neg aP) z) (λu z=>?_)
  ·by_cases hb:b∈cps.map gu
   ·have z':=(if_pos hb).symm.trans z;cases z';exact hP hb
   ·have z':=(if_neg hb).symm.trans z;cases z'
  ·by_cases hb:b∈cps.map gu
   ·exact .inr hb
   ·exact absurd (if_neg hb) z
  ·have z':=(if_neg aP).symm.trans z;cases z'
 |none=>
  have ea:(λb=>if b=a then some (HO.frz {cls:=.type "list",data:=.seq vs.toArray} (.lst (ns.map Gn)))else if b∈cps.map gu then some (.tbl #[])else none) a=some (.frz {cls:=.type "list",data:=.seq vs.toArray} (.lst (ns.map Gn))):=if_pos rfl;refine core (λb=>if b=a then some (.frz {cls:=.type "list",data:=.seq vs.toArray} (.lst (ns.map Gn)))else if b∈cps.map gu then some (.tbl #[])else none) (λP h=>(if_neg (λz:P=a=>aP (by rw[<-z];exact h))).trans (if_pos h)) (.inl ⟨{cls:=.type "list",data:=.seq vs.toArray},ea⟩) (λb u z=>?_) (λb z=>?_) (λ_=>hk) (λu z=>?_)
  ·by_cases hb:b=a
   ·have z':=(if_pos hb).symm.trans z;cases z';subst hb;exact⟨ha,by rw[bo];exact hl,vs,_,rv,ha⟩
   ·have z':=(if_neg hb).symm.trans z
    by_cases Fb:b∈cps.map gu
    ·have z2:=(if_pos Fb).symm.trans z';cases z2;exact hP Fb
    ·have z2:=(if_neg Fb).symm.trans z';cases z2
  ·by_cases hb:b=a
   ·exact .inl hb
   ·by_cases Fb:b∈cps.map gu
    ·exact .inr Fb
    ·exact absurd ((if_neg hb).trans (if_neg Fb)) z
  ·have z':=ea.symm.trans z;cases z';exact⟨_,_,rfl⟩
theorem lF{α:Type}{P:List α->Prop}(h:∀a,P [a]):∀us:List α,us.length=1->P us
 |[a],_=>h a
theorem gZ{α:Type}{P:List α->Prop}(h:∀a b,P [a,b]):∀us:List α,us.length=2->P us
 |[a,b],_=>h a b
theorem NQ{α:Type}{P:List α->Prop}(h:∀a b c,P [a,b,c]):∀us:List α,us.length=3->P us
 |[a,b,c],_=>h a b c
theorem m7{α:Type}{P:List α->Prop}(h:∀a b c d,P [a,b,c,d]):∀us:List α,us.length=4->P us
 |[a,b,c,d],_=>h a b c d
def lG{P:Nat->Bool->Prop}:∀c b,List.lookup c ([]:List (Nat×Bool))=some b->P c b:=λ_ _ h=>nomatch h
def cZ{P:Nat->Bool->Prop}{l:List (Nat×Bool)}(h:P x y)(hl:∀c b,l.lookup c=some b->P c b):∀c b,List.lookup c ((x,y)::l)=some b->P c b:=λc b e=>by
 rw[iz]at e
 cases q:c==x with
 |true=>rw[q]at e;exact eq_of_beq q▸(cw e)▸h
 |false=>rw[q]at e;exact hl c b e
def m8{P:Nat->Prop}:∀c,c<0->P c:=λc h=>absurd h (Nat.not_lt_zero c)
theorem mE{P:Nat->Prop}(h0:P 0)(h:∀c,c<n->P (c+1)):∀c,c<n+1->P c
 |0,_=>h0
 |c+1,hc=>h c (Nat.lt_of_succ_lt_succ hc)
open PySem.Calls
abbrev Ys{β:Type}(ob:Frag->β)(obE:β):cm->cu->Prop:=λ_ h=>∃K:Frag,K.In h/\noTabs K=true/\ob K=obE
def ys_of{β:Type}{ob:Frag->β}{obE:β}:∀(w:cm)(s:ag),ob (vV s.heap)=obE->Ys ob obE w s.heap:=λ_ s e=>⟨vV s.heap,yW _ _,yX _ _,e⟩
def ys_keeps{β:Type}{ob:Frag->β}{obE:β}:∀(w:cm)(h h':cu),Ys ob obE w h->(∀b o,h.get? b=some o->h'.get? b=some o)->Ys ob obE w h':=λ_ _ _⟨K,x,n,e⟩k=>⟨K,x.keeps k,n,e⟩
def z8z{β:Type}{ob:Frag->β}{obE:β}{l:OpenLaw}{d:Ak}(hn:l.most=some n)(hn2:n<=cg)(hdf:d.params.defaults=[])(hr:Ci k callerA)(Fi:(recsOf q).find? (λe=>e.name==d.name)=some d)(F:∀(K:Frag)(w:cm)(mg:Str->Option af)(fa:ah)(h:cu),ob K=obE->noTabs K=true->K.In h->h.Ns dg mg->mg d.name=some (.ref fa)->
   ∃(fd:br)(c P:ah),(∀(s:ag)(u:af),yi s fd ⟨[u],[]⟩ [(x,u)])/\tabIn K d.name=some (c,P)/\noTabs K=true/\
    ∀(base:cu)(a:ah)(ns:y'),ns.length<=n->K.In base->base.Ns dg mg->CodeHd base c P->kF mg base->Lawful l.prog w K mg base k fa fd x [P] a ns):
  WalkO q loose XP (Ys ob obE) l.row.toRowW d [] (λf vs=>ym f vs):=by
 refine Att.attach_call hn hdf λw s₀ s₁ mg mb fa o pm cd doc a vs ns G Y ho hd hcd hmg Ga hints hlen hg=>?_;let⟨K,KX,hnt',hob⟩:=Y;let⟨fd,c,P,hb,ht,hnt,hF⟩:=F K w mg fa _ hob hnt' KX G.T.g hmg;let⟨hC,hP⟩:=tab_of G.T KX Fi ht;exact FQ KX G.T.g G.T.b G.T.builtins G.T.nolimit hg Ga hints (cp hlen hn2) hr (cps:=[(c,P)]) (by simpa using hC) (by simpa using hP) G.T.bmain hnt (λbase h1 h2 h3 h4=>hF base a ns hlen h1 h2 (h3 (c,P) (by simp)) h4) hb
def m9{K:Frag}{st:gw}{ps:Bh}(h:cT K f=some (fnOf n n (pS st) (gR st) (aR st) .none .none .none .none none (.ref c) .none))(hc:codeIn K (.ref c) n=true)(hk:keepIn K (.ref f)=true)(hb:∀(kV doc pm:af)(an:Option ah)(cdv ct:af)(us:List af),us.length=ps.length->bindArgs (fnOf n n (pS st) (gR st) (aR st) .none kV doc pm an cdv ct) ⟨us,[]⟩=pure (ps.zip us)):
  ∃fd:br,Fun K n n st f fd/\Binds K fd ps []/\fd.code=.ref c/\∀us:List af,us.length=ps.length->bindArgs fd ⟨us,[]⟩=pure (ps.zip us):=by
 let⟨oc,od,kV,dc,pm,an,ct,sl,e⟩:=TZ h;exact⟨_,LG e hc hk,(LG e hc hk).binds hb,rfl,hb kV dc pm an (.ref c) ct⟩
theorem z90{β:Type}{ob:Frag->β}{obE:β}{l:OpenLaw}{n k:Nat}{q:bp}{loose:Bh}{XP:(Str->Option af)->cu->Prop}{d:Ak}{x:Str}(nm:Str)(hn:l.most=some n)(hn2:n<=cg)(hdf:d.params.defaults=[])(hr:Ci k callerA)(Fi:∃d2:Ak,(recsOf q).find? (λe=>e.name==nm)=some d2/\d2.name=nm)(F:∀(K:Frag)(w:cm)(mg:Str->Option af)(fa:ah)(h:cu),ob K=obE->noTabs K=true->K.In h->h.Ns dg mg->mg d.name=some (.ref fa)->
   ∃(fd:br)(c P:ah),(∀(s:ag)(u:af),yi s fd ⟨[u],[]⟩ [(x,u)])/\tabIn K nm=some (c,P)/\noTabs K=true/\
    ∀(base:cu)(a:ah)(ns:y'),ns.length<=n->K.In base->base.Ns dg mg->CodeHd base c P->kF mg base->Lawful l.prog w K mg base k fa fd x [P] a ns):
  WalkO q loose XP (Ys ob obE) l.row.toRowW d [] (λf vs=>ym f vs):=by
 refine Att.attach_call hn hdf λw s₀ s₁ mg mb fa o pm cd doc a vs ns G Y ho hd hcd hmg Ga hints hlen hg=>?_;obtain⟨K,KX,hnt',hob⟩:=Y;obtain⟨fd,c,P,hb,ht,hnt,hF⟩:=F K w mg fa _ hob hnt' KX G.T.g hmg;obtain⟨d2,hf,hnm⟩:=Fi;have hf':(recsOf q).find? (λe=>e.name==d2.name)=some d2:=by rw[hnm];exact hf
 obtain⟨hC,hP⟩:=tab_of G.T KX hf' (by rw[hnm];exact ht);exact FQ KX G.T.g G.T.b G.T.builtins G.T.nolimit hg Ga hints (cp hlen hn2) hr (cps:=[(c,P)]) (by simpa using hC) (by simpa using hP) G.T.bmain hnt (λbase h1 h2 h3 h4=>hF base a ns hlen h1 h2 (h3 (c,P) (by simp)) h4) hb
def Cfg.at(G:Cfg)(q:Str):Cfg:={G with lq:=q}
section
variable{G:Cfg}{q:Str}{μ:Nat->ah}{n:Nat}{H:Hp}
mutual
theorem FR:∀(d:Dv)(v:V),Bq (G.at q) μ n H d v↔Bq G μ n H d v
 |.non,v=>by simp only[Bq]
 |.bl b,v=>by simp only[Bq]
 |.int i,v=>by simp only[Bq]
 |.str x,v=>by simp only[Bq]
 |.tup ds,v=>by
  simp only[Bq];constructor
  ·rintro ⟨a,vs,e,h1,h2⟩;exact⟨a,vs,e,h1,(rT ds vs).mp h2⟩
  ·rintro ⟨a,vs,e,h1,h2⟩;exact⟨a,vs,e,h1,(rT ds vs).mpr h2⟩
 |.ref i,v=>by simp only[Bq]
 |.edc,v=>by simp only[Bq]
 |.exc c,v=>by simp only[Bq];exact Iff.rfl
 |.scr,v=>by simp only[Bq];exact Iff.rfl
theorem rT:∀(ds:Bj)(vs:Ho),RelDL (G.at q) μ n H ds vs↔RelDL G μ n H ds vs
 |[],vs=>by simp only[RelDL]
 |d::ds,vs=>by
  simp only[RelDL];constructor
  ·rintro ⟨v,r,e,h1,h2⟩;exact⟨v,r,e,(FR d v).mp h1,(rT ds r).mp h2⟩
  ·rintro ⟨v,r,e,h1,h2⟩;exact⟨v,r,e,(FR d v).mpr h1,(rT ds r).mpr h2⟩
end
def Fx:Bz (G.at q) μ h H↔Bz G μ h H:=by
 constructor
 ·intro s;refine⟨s.inj,λi o e=>?_,s.tab⟩;have r:=s.ob i o e
  cases o with
  |lst xs=>let⟨vs,h1,h2⟩:=r;exact⟨vs,h1,(rT xs vs).mp h2⟩
  |clo k t=>exact r
  |dct ks=>exact r
 ·intro s;refine⟨s.inj,λi o e=>?_,s.tab⟩;have r:=s.ob i o e
  cases o with
  |lst xs=>let⟨vs,h1,h2⟩:=r;exact⟨vs,h1,(rT xs vs).mpr h2⟩
  |clo k t=>exact r
  |dct ks=>exact r
def NR{F:Bi}(h:cK G F vs H Q E):cK (G.at q) F vs H Q E:=by
 let⟨μ,hs,ds,r,s,o⟩:=h;refine⟨μ,hs,ds,(rT ds vs).mpr r,Fx.mpr s,?_⟩
 cases e:F ds hs with
 |ok d h'=>rw[e]at o;exact λμ' H' v x s' r'=>o μ' H' v x (Fx.mp s') ((FR d v).mp r')
 |ex c h'=>rw[e]at o;exact λμ' H' u x s' r'=>o μ' H' u x (Fx.mp s') r'
 |bad=>rw[e]at o;exact o
end
theorem walkK3{β:Type}{ob:Frag->β}{obE:β}{l:OpenLaw}{n k:Nat}{q:bp}{loose:Bh}{XP:(Str->Option af)->cu->Prop}{d:Ak}{x:Str}(nm nm':Str)(hn:l.most=some n)(hn2:n<=cg)(hdf:d.params.defaults=[])(hr:Ci k callerA)(Fi:∃d2:Ak,(recsOf q).find? (λe=>e.name==nm)=some d2/\d2.name=nm)(hfind':∃d2:Ak,(recsOf q).find? (λe=>e.name==nm')=some d2/\d2.name=nm')(F:∀(K:Frag)(w:cm)(mg:Str->Option af)(fa:ah)(h:cu),ob K=obE->noTabs K=true->K.In h->h.Ns dg mg->mg d.name=some (.ref fa)->
   ∃(fd:br)(c P c' P':ah),(∀(s:ag)(u:af),yi s fd ⟨[u],[]⟩ [(x,u)])/\tabIn K nm=some (c,P)/\tabIn K nm'=some (c',P')/\noTabs K=true/\
    ∀(base:cu)(a:ah)(ns:y'),ns.length<=n->K.In base->base.Ns dg mg->CodeHd base c P->CodeHd base c' P'->kF mg base->Lawful l.prog w K mg base k fa fd x [P,P'] a ns):
  WalkO q loose XP (Ys ob obE) l.row.toRowW d [] (λf vs=>ym f vs):=by
 refine Att.attach_call hn hdf λw s₀ s₁ mg mb fa o pm cd doc a vs ns G Y ho hd hcd hmg Ga hints hlen hg=>?_;obtain⟨K,KX,hnt',hob⟩:=Y;obtain⟨fd,c,P,c',P',hb,ht,ht',hnt,hF⟩:=F K w mg fa _ hob hnt' KX G.T.g hmg;obtain⟨d2,hf,hnm⟩:=Fi;obtain⟨d3,hf3,hnm3⟩:=hfind';obtain⟨hC,hP⟩:=tab_of G.T KX (by rw[hnm];exact hf:(recsOf q).find? (λe=>e.name==d2.name)=some d2) (by rw[hnm];exact ht);obtain⟨hC',hP'⟩:=tab_of G.T KX (by rw[hnm3];exact hf3:(recsOf q).find? (λe=>e.name==d3.name)=some d3) (by rw[hnm3];exact ht');refine FQ KX G.T.g G.T.b G.T.builtins G.T.nolimit hg Ga hints (cp hlen hn2) hr (cps:=[(c,P),(c',P')]) (λy hy=>?_) (λy hy=>?_) G.T.bmain hnt (λbase h1 h2 h3 h4=>hF base a ns hlen h1 h2 (h3 (c,P) (by simp)) (h3 (c',P') (by simp)) h4) hb
 ·rcases az.mp hy with rfl|hy
  ·exact hC
  ·rw[cz.mp hy];exact hC'
 ·rcases az.mp hy with rfl|hy
  ·exact hP
  ·rw[cz.mp hy];exact hP'
def n9{p p':ah}:∀P lq,(if P=p then some q else if P=p' then some q' else none)=some lq->P∈[p,p']:=λP lq h=>by
 by_cases z:P=p
 ·simp[z]
 ·rw[if_neg z]at h
  by_cases z':P=p'
  ·simp[z']
  ·rw[if_neg z']at h;cases h
def dB{F:List (Frag->Bool)}{K:Frag}(h:F.all (λf=>f K)=true)(i:Nat){g:Frag->Prop}[∀K,Decidable (g K)](e:F[i]?=some (λK=>decide (g K)):=by rfl):g K:=dA h i e
def cM{K:Frag}{mg:Str->Option af}{v:af}{F:List (Frag->Bool)}(X:K.In h)(G:h.Ns dg mg)(hc:F.all (λf=>f K)=true)(i:Nat)(e:F[i]?=some (λK=>decide (nsIn K dg n=some (some v))):=by rfl):mg n=some v:=mg_of X G (dA hc i e)
theorem FT{env:Env}:∀{l:List (Str×md)},l.lookup x=some .free->(l.map λ(n,k)=>if(k==bz&&env.scope.kind==.function&&env.kindOf n==some .cell)then(n,ed)else(n,k)).lookup x≠some .local
 |[],h=>by simp at h
 |(n,q)::r,h=>by
  rw[iz]at h;rw[da]
  cases e:x==n with
  |true=>
   rw[e]at h;have hq:q=.free:=cw h;subst hq;dsimp only
   split
   ·rw[iz,e];simp
   ·rw[iz,e];simp
  |false=>
   rw[e]at h;dsimp only
   split
   ·rw[iz,e];exact FT h
   ·rw[iz,e];exact FT h
def o7{X:Cx}{sc os:fi}{oN N:Bh}{cap:List (Option Nat)}(hs:X.env.scope.names=os.names)(hN:X.N=oN)(h1:sc.kind=.function)(h2:∀p∈sc.names,p.2=.local->sc.names.lookup p.1=some .local)(h3:cap.length=N.length)(h4:∀p∈sc.names,p.2=.free->os.names.lookup p.1=some .cell∨os.names.lookup p.1=some .free)(h5:∀p∈sc.names,p.2=.free->(p.1,ed)∉sc.names)(h6:∀q∈cap.zip N,∀j∈q.1,oN[j]?=some q.2/\sc.names.lookup q.2=some .free):Cj X sc N cap:=by
 refine⟨h1,h2,h3,λx hx=>?_,λx hx=>h5 _ hx rfl,λi j x e1 e2=>?_⟩
 ·have:=h4 _ hx rfl;rw[<-hs]at this;exact this
 ·have hm:(some j,x)∈cap.zip N:=cx (i:=i) (si.mpr ⟨e1,e2⟩);let⟨a,b⟩:=h6 _ hm j rfl;rw[hN];refine⟨a,fz b,?_⟩;exact FT b
def oU:Dv->Dv->Hs->Rs Dv:=iA λi j=>.int (i-j)
def rV:Dv->Dv->Hs->Rs Dv:=mY zU λi j=>.int (i*j)
def nF:Dv->Dv->Hs->Rs Dv:=mY tY λi j=>.int (i%j)
def qG:Dv->Dv->Hs->Rs Dv:=mY wM λi j=>.int (i^j.toNat)
def uK:Dv->Dv->Hs->Rs Dv:=iA λi j=>.bl (decide (i<=j))
def hJ:Dv->Dv->Hs->Rs Dv:=iA λi j=>.bl (decide (i>j))
def AL:Dv->Dv->Hs->Rs Dv:=iA λi j=>.bl (decide (i>=j))
section
variable{k:Nat}{a b:bq}{ma mb:M Dv}{pos:Pos}
def FU(ha:aJ X G E a ma)(hb:aJ X G E b mb):aJ X G E (.BinOp a .Sub b pos) (m2 oU ma mb):=rF WA YO ha hb
def xD(ha:aJ X G E a ma)(hb:aJ X G E b mb):aJ X G E (.BinOp a .Mult b pos) (m2 rV ma mb):=rF WB (zT YQ) ha hb
def uL(ha:aJ X G E a ma)(hb:aJ X G E b mb):aJ X G E (.BinOp a .Mod b pos) (m2 nF ma mb):=rF WC (zT YR) ha hb
def FV(ha:aJ X G E a ma)(hb:aJ X G E b mb):aJ X G E (.BinOp a .Pow b pos) (m2 qG ma mb):=rF WD (zT YS) ha hb
def FW(ha:aJ X G E a ma):aJ X G E (.UnaryOp .USub a pos) (m1 oS ma):=YI WG l8 ha
def p0(ha:aJ X G E a ma)(hb:aJ X G E b mb):aJ X G E (.Compare a [.Gt] [b] pos) (m2 hJ ma mb):=zR J8 tX ha hb (pQ _)
def oV(g:Good X G E k)(ha:aJ X G E a ma)(hb:aJ X G E b mb):aJ X G E (.Compare a [.Eq] [b] pos) (m2 bR ma mb):=zR (L9 g.room.units) MA ha hb (pQ _)
def FX(ha:aJ X G E a ma)(hb:aJ X G E b mb):hZ X G E (.Compare a [.Gt] [b] pos) (mB (m2 hJ ma mb)):=tT J8 tX ha hb (pQ _)
def p6(ha:aJ X G E a ma)(hb:aJ X G E b mb):hZ X G E (.Compare a [.GtE] [b] pos) (mB (m2 AL ma mb)):=tT WH tX ha hb (pQ _)
def rW(g:Good X G E k)(ha:aJ X G E a ma)(hb:aJ X G E b mb):hZ X G E (.Compare a [.Eq] [b] pos) (mB (m2 bR ma mb)):=tT (L9 g.room.units) MA ha hb (pQ _)
def lI(g:Good X G E k)(ha:aJ X G E a ma)(hb:aJ X G E b mb):hZ X G E (.Compare a [.NotEq] [b] pos) (mB (m2 bZ ma mb)):=tT (YM g.room.units) YN ha hb (pQ _)
variable{c:bq}{mc:M Dv}
def p7(ha:aJ X G E a ma)(hb:aJ X G E b mb)(hc:aJ X G E c mc)(hm:lastMarks [.LtE,.LtE] [b,c]=false:=by with_unfolding_all rfl):aJ X G E (.Compare a [.LtE,.LtE] [b,c] pos) (tU uK uK ma mb mc):=YH J7 J7 tX tX ha hb hc hm
end
def rX:Ty->Option Bool
 |.bl=>some true|.int=>some true|.exc _=>none|_=>some false
def nG:Ty->Option Bool
 |.bl=>some true|.exc _=>none|_=>some false
def gH:Ty->Option Bool
 |.tup=>some true|.exc _=>none|_=>some false
def xE:Ty->Option Bool
 |.lst=>some true|.exc _=>none|_=>some false
def xF:Ty->Option Bool
 |.tup=>some true|.lst=>some true|.exc _=>none|_=>some false
section
variable{K:ar}{cl:Nat->ah}
def p8:∀ty bb,rX ty=some bb->dm K (nB cl ty) (.type "int")=some bb:=by intro ty bb h;cases ty<;>first|(cases h;rfl)|cases h
def p9:∀ty bb,nG ty=some bb->dm K (nB cl ty) (.type "bool")=some bb:=by intro ty bb h;cases ty<;>first|(cases h;rfl)|cases h
def q5:∀ty bb,gH ty=some bb->dm K (nB cl ty) (.type "tuple")=some bb:=by intro ty bb h;cases ty<;>first|(cases h;rfl)|cases h
def r8:∀ty bb,xE ty=some bb->dm K (nB cl ty) (.type "list")=some bb:=by intro ty bb h;cases ty<;>first|(cases h;rfl)|cases h
def r9:∀ty bb,xF ty=some bb->PySem.W.kitAny K (nB cl ty) [.type "tuple",.type "list"]=some bb:=by intro ty bb h;cases ty<;>first|(cases h;rfl)|cases h
end
def u0:dz "int"=some (.type "int"):=by decide+kernel
def u5:dz "bool"=some (.type "bool"):=by decide+kernel
def u7:dz "ValueError"=some (.type "ValueError"):=by decide+kernel
def eU(nn:Option Bool)(tbl:List (Nat×Bool)):Ty->Option Bool
 |.exc c=>tbl.lookup c
 |.non=>nn
 |_=>none
section
variable{a:bq}{ma:M Dv}{p q r pos:Pos}
def NS(hg:Gl X "isinstance")(hm:X.mg "isinstance"=none)(Fh:Gl X "int")(Fe:X.mg "int"=none)(ha:aJ X G E a ma)(he:ay [a,.Name "int" q] X.env=[(false,eval a X.env),(false,eval (.Name "int" q) X.env)]:=by rfl):
  aJ X G E (.Call (.Name "isinstance" p) [a,.Name "int" q] [] pos) (m1 (bI rX) ma):=uF hg hm ha (rR Fh Fe u0) (.inl ⟨_,rfl⟩) rfl p8 (λc bb h=>by cases h) he
def AM(hg:Gl X "isinstance")(hm:X.mg "isinstance"=none)(Fh:Gl X "bool")(Fe:X.mg "bool"=none)(ha:aJ X G E a ma)(he:ay [a,.Name "bool" q] X.env=[(false,eval a X.env),(false,eval (.Name "bool" q) X.env)]:=by rfl):
  aJ X G E (.Call (.Name "isinstance" p) [a,.Name "bool" q] [] pos) (m1 (bI nG) ma):=uF hg hm ha (rR Fh Fe u5) (.inl ⟨_,rfl⟩) rfl p9 (λc bb h=>by cases h) he
def uM(hg:Gl X "isinstance")(hm:X.mg "isinstance"=none)(Fh:Gl X "tuple")(Fe:X.mg "tuple"=none)(ha:aJ X G E a ma)(he:ay [a,.Name "tuple" q] X.env=[(false,eval a X.env),(false,eval (.Name "tuple" q) X.env)]:=by rfl):
  aJ X G E (.Call (.Name "isinstance" p) [a,.Name "tuple" q] [] pos) (m1 (bI gH) ma):=uF hg hm ha (rR Fh Fe zV) (.inl ⟨_,rfl⟩) rfl q5 (λc bb h=>by cases h) he
def NT(hg:Gl X "isinstance")(hm:X.mg "isinstance"=none)(Fh:Gl X "list")(Fe:X.mg "list"=none)(ha:aJ X G E a ma)(he:ay [a,.Name "list" q] X.env=[(false,eval a X.env),(false,eval (.Name "list" q) X.env)]:=by rfl):
  aJ X G E (.Call (.Name "isinstance" p) [a,.Name "list" q] [] pos) (m1 (bI xE) ma):=uF hg hm ha (rR Fh Fe zW) (.inl ⟨_,rfl⟩) rfl r8 (λc bb h=>by cases h) he
def u9:∀us',Bs [.ty "tuple",.ty "list"] us'->us'=[.type "tuple",.type "list"]:=by
 intro us' h
 cases h with
 |cons r rr=>
  cases rr with
  |cons r' rr=>
   cases rr
   cases r;cases r'
   rfl
def v5(hg:Gl X "isinstance")(hm:X.mg "isinstance"=none)(Fh:Gl X "tuple")(Fe:X.mg "tuple"=none)(hg'':Gl X "list")(hm'':X.mg "list"=none)(ha:aJ X G E a ma)(he:ay [a,.Tuple [.Name "tuple" q,.Name "list" r] kt p] X.env=[(false,eval a X.env),(false,eval (.Tuple [.Name "tuple" q,.Name "list" r] kt p) X.env)]:=by rfl):
  aJ X G E (.Call (.Name "isinstance" p') [a,.Tuple [.Name "tuple" q,.Name "list" r] kt p] [] pos) (m1 (bI xF) ma):=
 ZR (cs:=[.ty "tuple",.ty "list"]) hg hm ha (hY (rR Fh Fe zV) (hY (rR hg'' hm'' zW) jI)) (by decide) u9 r9 (λc bb h=>by cases h) he
def mF{tbl:List (Nat×Bool)}(hg:Gl X "isinstance")(hm:X.mg "isinstance"=none)(Fh:Gl X x)(Fe:X.mg x=some (.ref C))(ha:aJ X G E a ma)(hn:∀b,nn=some b->dm G.K (.type "NoneType") (.ref C)=some b)(ht:∀c b,tbl.lookup c=some b->dm G.K (.ref (G.cl c)) (.ref C)=some b/\Du G.K (G.cl c))(hd:(x==Hn)=false:=by decide)(he:ay [a,.Name x q] X.env=[(false,eval a X.env),(false,eval (.Name x q) X.env)]:=by rfl)(Eh:ay [.Name x q] X.env=[(false,eval (.Name x q) X.env)]:=by rfl):
  aJ X G E (.Call (.Name "isinstance" p) [a,.Name x q] [] pos) (m1 (bI (eU nn tbl)) ma):=
 uF hg hm ha (JV (v:=.ref C) Fh Fe rfl hd) (.inr ⟨_,rfl⟩) rfl (λty bb h=>by
  cases ty with
  |exc c=>exact(ht c bb h).1
  |non=>exact hn bb h
  |_=>cases h) (λc bb h=>(ht c bb h).2) he Eh
def v7{tbl:List (Nat×Bool)}(hg:Gl X "isinstance")(hm:X.mg "isinstance"=none)(Fh:Gl X "ValueError")(Fe:X.mg "ValueError"=none)(ha:aJ X G E a ma)(hn:∀b,nn=some b->dm G.K (.type "NoneType") (.type "ValueError")=some b)(ht:∀c b,tbl.lookup c=some b->dm G.K (.ref (G.cl c)) (.type "ValueError")=some b/\Du G.K (G.cl c))(he:ay [a,.Name "ValueError" q] X.env=[(false,eval a X.env),(false,eval (.Name "ValueError" q) X.env)]:=by rfl):
  aJ X G E (.Call (.Name "isinstance" p) [a,.Name "ValueError" q] [] pos) (m1 (bI (eU nn tbl)) ma):=
 uF hg hm ha (rR Fh Fe u7) (.inl ⟨_,rfl⟩) rfl (λty bb h=>by
  cases ty with
  |exc c=>exact(ht c bb h).1
  |non=>exact hn bb h
  |_=>cases h) (λc bb h=>(ht c bb h).2) he
end
section
variable{P:bp}{w:cm}{K:ar}{mg:Str->Option af}{base:cu}{f:ah}{G:Cfg}{k:Nat}{N:Bh}
def v8:Bu P w K mg base (aZ P w base) k f fd ps (cK G (λ_ _=>.bad)):=⟨λvs H Q E⟨_,_,_,_,_,o⟩=>o.elim,λ_ _ _ _ _ _ _ _ _ _ _ _ _⟨_,_,_,_,_,o⟩=>o.elim⟩
end
def gA:Dv->Bool
 |.scr=>false
 |_=>true
def aN(x y:Dv)(h:Hs):Rs Dv:=if gA x=true then gS [] x y h else .bad
def cQ(x:Dv)(h:Hs):Rs Dv:=if gA x=true then jK [] x h else .bad
def eV(x:Dv)(h:Hs):Rs Dv:=if gA x=true then rN [] x h else .bad
def kP(neg:Bool)(x y:Dv)(h:Hs):Rs Dv:=if gA y=true then qF [] neg x y h else .bad
def FY(e:gA x=true):gK [] x h=gK scr x h:=by cases x<;>first|rfl|cases e
section
variable{k:Nat}{a b e:bq}{es:List bq}{ma mb:M Dv}{aT:M Bj}{p pos:Pos}
def v9:gG G (EK G.K) aN:=by
 intro E μ h H x y vx vy Q s rx ry o;unfold aN at o
 split at o
 ·rename_i hx;refine MB E μ h H x y vx vy Q s rx ry ?_;have e:gS G.scr x y h=gS [] x y h:=by cases x<;>cases y<;>first|rfl|exact absurd hx (by decide)
  rw[e];exact o
 ·exact o.elim
def y8:kY G (MF G.K) cQ:=by
 intro E μ h H x vx Q s rx o;unfold cQ at o
 split at o
 ·rename_i hx;refine MG E μ h H x vx Q s rx ?_;unfold jK at o⊢;rw[<-FY hx];exact o
 ·exact o.elim
def y9:kY G (λx H Q=>∃p ys,x=.ref p/\(Cu G.K H p ys∨Cd G.K H p ys)/\∀l,H l=none->Q (.ref l) (upd H l (.lst ys))) eV:=by
 intro E μ h H x vx Q s rx o;unfold eV at o
 split at o
 ·rename_i hx;refine Y2 E μ h H x vx Q s rx ?_;unfold rN at o⊢;rw[<-FY hx];exact o
 ·exact o.elim
def NU(neg:Bool):gG G (AI G.K neg) (kP neg):=by
 intro E μ h H x y vx vy Q s rx ry o;unfold kP at o
 split at o
 ·rename_i hx;refine k7 neg E μ h H x y vx vy Q s rx ry ?_;unfold qF at o⊢;rw[<-FY hx];exact o
 ·exact o.elim
def bV(ha:aJ X G E a ma)(hb:aJ X G E b mb)(hs:EI b:=by intro _ _;rfl):aJ X G E (.Subscript a b pos) (m2 aN ma mb):=λhK=>Gp (K1 (by have:=K6 (X:=X);rw[hK]at this;exact this) (ha hK) (hb hK) hs) λ_ _ _ t=>wL v9 t
def nI(hg:Gl X "len")(hm:X.mg "len"=none)(ha:eC X G E (e::es) aT)(he:ay (e::es) X.env=(false,eval e X.env)::ay es X.env:=by rfl)(Df:(backTo pos (ay es X.env)).any (·.1)=false:=by rfl):aJ X G E (.Call (.Name "len" p) (e::es) [] pos) (aD (f1 cQ) aT):=λhK=>
 tZ (Bx.imp (K7 (X:=X)) λxs H Q⟨v,h1,a,ys,h2,h3,h4⟩=>⟨a,ys,by rw[h1,h2],by rw[hK];exact h3,h4⟩) (uB y8) hg hm yn ha (by decide) (by decide) he Df hK
def uN(hg:Gl X "list")(hm:X.mg "list"=none)(ha:eC X G E (e::es) aT)(he:ay (e::es) X.env=(false,eval e X.env)::ay es X.env:=by rfl)(Df:(backTo pos (ay es X.env)).any (·.1)=false:=by rfl):aJ X G E (.Call (.Name "list" p) (e::es) [] pos) (aD (f1 eV) aT):=λhK=>
 ME (Bx.imp (XS (X:=X)) λxs H Q⟨v,h1,a,ys,h2,h3,h4⟩=>⟨a,ys,by rw[h1,h2],by rw[hK];exact h3,h4⟩) (uB y9) hg hm zW ha (by decide) (by decide) he Df hK
end
def z9(h l:Hs)(k:Nat):getL (h++l) (h.length+k)=getL l k:=by unfold getL;rw[gh (by lia),show h.length+k-h.length=k by lia]
def z00(h l:Hs):getL (h++l) h.length=getL l 0:=z9 h l 0
def fI:Dv->Option Int
 |.int i=>some i
 |_=>none
theorem qH:∀{xs:Bj}{vs:Ho}{ns:y'},RelDL G μ n H xs vs->bE fI xs=some ns->vs=ns.map Gn
 |[],_,ns,r,e=>by cases e;rw[RelDL]at r;subst r;rfl
 |x::xs,_,ns,r,e=>by
  rw[RelDL]at r;obtain⟨v,rr,rfl,r1,r2⟩:=r;unfold bE at e
  cases x with
  |int i=>
   dsimp only[fI]at e
   cases q:bE fI xs with
   |none=>rw[q]at e;cases e
   |some zs=>rw[q]at e;cases e;rw[Bq]at r1;subst r1;rw[qH r2 q];rfl
  |_=>cases e
section
variable{e a b:bq}{es:List bq}{ma mb:M Dv}{aT:M Bj}{p pos:Pos}
def z01{ns:y'}(rv:Bs (ns.map Gn) its){v:af}(e:its.toArray[i]?=some v):∃t,v=.int (ns.getD i 0) t:=by
 have hl:=rv.length;rw[bo]at hl;have e':its[i]?=some v:=by simpa using e
 have hi:i<its.length:=(bf.mp e').1;have hb:i<ns.length:=by lia
 let⟨u,e2,r⟩:=rv.get (i:=i) (x:=Gn ns[i]) (by simp[hb]);rw[e']at e2;cases e2;have hg:ns.getD i 0=ns[i]:=by simp[qz,hb]
 rw[hg];exact r
def qI:Dv->Dv->Hs->Rs Dv
 |.ref i,.int k,h=>match getL h i with
  |some xs=>if(kK k&&decide (k<9223372036854775808)&&decide (-9223372036854775808<=k)&&decide (xs.length*k.toNat<=1000000))=true then .ok (.ref h.length) (h++[.lst (bu k.toNat xs).flatten])else .bad
  |none=>.bad
 |_,_,_=>.bad
theorem RelDL.rep(r:RelDL G μ n H ds vs):∀k:Nat,RelDL G μ n H (bu k ds).flatten (bu k vs).flatten
 |0=>Gr
 |k+1=>by rw[iq,iq,kh,kh];exact r.append (RelDL.rep r k)
def z02:gG G LF qI:=by
 intro E μ h H x y vx vy Q s rx ry o
 cases x with
 |ref i=>
  cases y with
  |int k=>
   dsimp only[qI]at o
   cases q:getL h i with
   |none=>rw[q]at o;exact o.elim
   |some xs=>
    rw[q]at o;dsimp only at o
    split at o
    ·rename_i hb;simp only[cq,decide_eq_true_eq]at hb;let⟨⟨⟨_,h1⟩,h2⟩,h3⟩:=hb;let⟨vs,e1,r1⟩:=s.ob i _ (dN q);obtain⟨_,rfl⟩:=rx;rw[Bq]at ry;subst ry;refine⟨_,k,vs,rfl,rfl,e1,by lia,by lia,by rw[r1.length];exact cp h3 (by decide),λp hp=>?_⟩;exact mX s (r1.rep k.toNat) hp o
    ·exact o.elim
  |_=>exact o.elim
 |_=>cases y<;>exact o.elim
def NV(ha:aJ X G E a ma)(hb:aJ X G E b mb):aJ X G E (.BinOp a .Mult b pos) (m2 qI ma mb):=rF X3 z02 ha hb
end
def rY(x:Int):y'->y'
 |[]=>[x]
 |y::ys=>if x<=y then x::y::ys else y::rY x ys
def gB:y'->y'
 |[]=>[]
 |x::xs=>rY x (gB xs)
theorem qJ(x:Int):∀ys,(rY x ys).Perm (x::ys)
 |[]=>uh _
 |y::ys=>by
  unfold rY
  split
  ·exact uh _
  ·exact((qJ x ys).cons y).trans (xj x y ys)
theorem AN:∀xs,(gB xs).Perm xs
 |[]=>uh _
 |x::xs=>(qJ x (gB xs)).trans ((AN xs).cons x)
theorem NW(x:Int):∀ys,ys.Pairwise (·<=·)->(rY x ys).Pairwise (·<=·)
 |[],_=>by simp[rY]
 |y::ys,h=>by
  have h1:=de.mp h;unfold rY
  split
  ·rename_i hxy;refine de.mpr ⟨λz hz=>?_,h⟩
   rcases az.mp hz with rfl|hz
   ·exact hxy
   ·exact Int.le_trans hxy (h1.1 z hz)
  ·rename_i hxy;refine de.mpr ⟨λz hz=>?_,NW x ys h1.2⟩
   rcases az.mp ((qJ x ys).subset hz)with rfl|hz
   ·lia
   ·exact h1.1 z hz
theorem NX:∀xs,(gB xs).Pairwise (·<=·)
 |[]=>qj
 |x::xs=>NW x _ (NX xs)
def FZ{ms ns:y'}(hp:ms.Perm ns)(hs:ms.Pairwise (·<=·)):ms=gB ns:=List.Perm.eq_of_pairwise (le:=(·<=·)) (λa b _ _ h1 h2=>Int.le_antisymm h1 h2) hs (NX ns) (hp.trans (AN ns).symm)
def NY(xs:y'):(gB xs).length=xs.length:=(AN xs).length_eq
section
variable{e a b:bq}{es:List bq}{ma mb:M Dv}{aT:M Bj}{p pos:Pos}
theorem AO:∀{vs:List af}{ns:y'},Bs (ns.map Gn) vs->lx vs ns
 |[],[],_=>.nil
 |[],n::ns,h=>by cases h
 |v::vs,[],h=>by cases h
 |v::vs,n::ns,h=>by
  cases h with
  |cons h1 h2=>obtain⟨t,rfl⟩:=h1;exact .cons _ _ (AO h2)
theorem tN:∀{vs:List af}{ns:y'},lx vs ns->Bs (ns.map Gn) vs
 |_,_,.nil=>.nil
 |_,_,.cons _ _ h=>.cons ⟨_,rfl⟩ (tN h)
def z03:Bx X (.builtin "sorted") (λxs H Q=>∃(p:ah)(ns:y'),xs=[.ref p]/\H p=some (.lst (ns.map Gn))/\ns.length<64/\∀l,H l=none->Q (.ref l) (upd H l (.lst ((gB ns).map Gn)))):=by
 intro pins s σ H xs us Q I rv ⟨p,ns,e,hp,h0,q⟩;subst e;obtain⟨u,rfl,ru⟩:=jB rv;cases ru;let⟨its,rits,pl,hz⟩:=I.list (He hp);have hl:=rits.length;rw[bo]at hl;refine sorted_ints pl.isList (AO rits) (by lia) λout ns' a1 a2 a3=>?_;let⟨ep,he⟩:=sortedAll_at s.heap its out;have hu:=FZ a2 a3;subst hu;refine⟨.ref (s.heap.objs.size+1),_,I.laid (t':=s.toks) (λb u hb=>sortedAll_old hb) (vm _) (show Bv X.prog X.w _ _ _ (.lst ((gB ns).map Gn)) from⟨?_,out.toList,ep,tN a1,?_⟩),rfl,q _ (I.hok.fresh (vm _))⟩
 ·rw[bo,NY];exact cp (gr h0) (by decide)
 ·rw[he]
def F0:dz "sorted"=some (.builtin "sorted"):=by decide+kernel
def qK(x:Dv)(h:Hs):Rs Dv:=match x with
 |.ref i=>match getL h i with
  |some xs=>match bE fI xs with
   |some ns=>if ns.length<64 then .ok (.ref h.length) (h++[.lst ((gB ns).map Gh)])else .bad
   |none=>.bad
  |none=>.bad
 |_=>.bad
def z04:kY G (λx H Q=>∃(p:ah)(ns:y'),x=.ref p/\H p=some (.lst (ns.map Gn))/\ns.length<64/\∀l,H l=none->Q (.ref l) (upd H l (.lst ((gB ns).map Gn)))) qK:=by
 intro E μ h H x vx Q s r o
 cases x with
 |ref i=>
  dsimp only[qK]at o
  cases q:getL h i with
  |none=>rw[q]at o;exact o.elim
  |some xs=>
   rw[q]at o;dsimp only at o
   cases q2:bE fI xs with
   |none=>rw[q2]at o;exact o.elim
   |some ns=>
    rw[q2]at o;dsimp only at o
    split at o
    ·rename_i h0;let⟨vs,e1,r1⟩:=s.ob i _ (dN q);obtain⟨_,rfl⟩:=r;exact⟨_,ns,rfl,by rw[e1,qH r1 q2],h0,λl hl=>mX s (rK _) hl o⟩
    ·exact o.elim
 |_=>exact o.elim
end
section
variable{e o a b:bq}{es:List bq}{ma mb mo me:M Dv}{aT:M Bj}{p pos np apos cpos:Pos}{y:Str}
def F1(_ j:Int):Prop:=0<j/\j<18446744073709551616
def z05:Cw X (binaryOp .FloorDiv) (rI F1 λi j=>.int (i/j)):=zD λi j _ _ _ _ _ hc q=>by
 have h1:(0:Int)<j:=hc.1;have h2:j<18446744073709551616:=hc.2;refine floordiv_int (by lia) (by rw[Int.fdiv_eq_ediv_of_nonneg i (by lia)];exact q) (.inl (PyProof.noPylong_of_log2 ?_));have h3:j.natAbs≠0:=by lia
 have h4:j.natAbs<2^64:=by lia
 have:=(Nat.log2_lt h3).mpr h4
 lia
def xG(_ j:Int):Bool:=decide (0<j)&&decide (j<18446744073709551616)
def z06(i j:Int)(h:xG i j=true):F1 i j:=by unfold xG at h;unfold F1;simpa only[cq,decide_eq_true_eq]using h
def xH:Dv->Dv->Hs->Rs Dv:=mY xG λi j=>.int (i/j)
def NZ(ha:aJ X G E a ma)(hb:aJ X G E b mb):aJ X G E (.BinOp a .FloorDiv b pos) (m2 xH ma mb):=rF z05 (zT z06) ha hb
def N0(K:ar):R2:=λx y H Q=>∃a b ys,x=.ref a/\y=.ref b/\Cd K H a []/\Cd K H b ys/\Q (.ref b) H
def op_catT0:Cw X (binaryOp .Add) (N0 X.K):=by
 intro pins s σ H x y v u Q I rx ry ⟨a,b,ys,e1,e2,ha,hb,q⟩;subst e1;subst e2;cases rx;cases ry;let⟨its,r1,p1,_⟩:=I.tuple ha;let⟨Dd,r2,p2,_⟩:=I.tuple hb;have hn:its=[]:=r1.nil_iff.mpr rfl;subst hn;let⟨⟨cls,dd,data,sl⟩,ho,hc,n,hd⟩:=p1;let⟨⟨cls2,dd2,data2,sl2⟩,ho2,hc2,n2,hd2⟩:=p2;simp only at hc hd hc2 hd2;subst hc hd hc2 hd2;exact concat_meets ⟨_,ho,rfl⟩ ⟨_,ho2,rfl⟩ zb Bb tu sj (rn _ _)
  (tuple_addW0 a b _ _ n n2 dd dd2 sl sl2 rfl) ⟨ho,ho2,⟨.ref b,H,I,rfl,q⟩⟩
def aU(x y:Dv)(h:Hs):Rs Dv:=match x,y with
 |.tup [],.tup ys=>.ok (.tup ys) h
 |x,y=>lZ x y h
def z07:gG G (λx y H Q=>N0 G.K x y H Q∨E4 G.K x y H Q) aU:=by
 intro E μ h H x y vx vy Q s rx ry o;unfold aU at o
 split at o
 ·rename_i ys;obtain⟨a,vs,rfl,ea,ra⟩:=rx;obtain⟨b,ws,rfl,eb,rb⟩:=id ry;have:vs=[]:=by rw[RelDL]at ra;exact ra
  subst this;exact .inl ⟨a,b,ws,rfl,rfl,Gq ea,Gq eb,o.val s ry⟩
 ·exact .inr (YU E μ h H _ _ vx vy Q s rx ry o)
def cS(ha:aJ X G E a ma)(hb:aJ X G E b mb):aJ X G E (.BinOp a .Add b pos) (m2 aU ma mb):=λhK=>rF (op_catT0.or YT) (by rw[hK];exact z07) ha hb hK
def fP(k:Int):y'->Option Nat
 |[]=>none
 |n::ns=>if n=k then some 0 else(fP k ns).map (·+1)
theorem xI:∀{ns:y'}{j:Nat},fP k ns=some j->ns[j]?=some k/\∀m,m<j->ns[m]?≠some k
 |[],j,h=>by cases h
 |n::ns,j,h=>by
  unfold fP at h
  split at h
  ·rename_i e;cases h;exact⟨by simp[e],λm hm=>by lia⟩
  ·rename_i e
   cases q:fP k ns with
   |none=>rw[q]at h;cases h
   |some i=>
    rw[q]at h;cases h;let⟨h1,h2⟩:=xI q;refine⟨by simpa using h1,λm hm=>?_⟩
    cases m with
    |zero=>simpa using e
    |succ m=>
     have Fe:m<i:=by simpa using hm
     simpa using h2 m Fe
theorem N1:∀{vs:List af}{ns:y'}{i:Nat}{n:Int},lx vs ns->ns[i]?=some n->∃t,vs[i]?=some (.int n t)
 |_,_,0,n,.cons m t h,e=>by simp at e;subst e;exact⟨t,rfl⟩
 |_,_,i+1,n,.cons m t h,e=>by simpa using N1 h (by simpa using e)
 |_,_,i,n,.nil,e=>by simp at e
def z08(a b:af):argsOk "tuple.index" ⟨[a,b],[]⟩:=by unfold argsOk;kernel_rfl
theorem z09{prog:bp}{w:cm}{A:cb}{E:af->ag->Prop}{s:ag}{t:ah}{items:Array af}{ns:y'}{k:Int}{u:Tok}{j:Nat}{P:Fin->ag->Prop}(ht:yh s.heap t items)(hi:lx items.toList ns)(hj:ns[j]?=some k)(hno:∀m,m<j->ns[m]?≠some k)(h:P (.done (.ret (.int j s.toks))) {s with toks:=s.toks+1}):wpAny (model prog w) A (mr.«tuple.index» ⟨[.ref t,.int k u],[]⟩) P E s:=by
 show wpAny _ _ (we (.ref t) >>=_) _ _ s;refine aa (xr ht ?_);refine aa (ak ?_);refine aa (ak ?_);show wpAny _ _ (forIn [:min items.size items.size] (none,()) _ >>=_) _ _ s;rw[Al,Std.Legacy.Range.forIn_eq_forIn_range'];have Cv:items.size=ns.length:=by have:=hi.length;simpa using this
 have hjn:j<ns.length:=(bf.mp hj).1;refine aa (qr _ (λrest b s'=>b=(none,())/\s'=s/\∃i,i<=j/\rest=List.range' i (items.size-i) 1) _ ?_ ?_ _ _ ⟨rfl,rfl,0,gv _,?_⟩)
 ·rintro x rest b s' ⟨rfl,rfl,i,Dg,hr⟩
  have hlt:i<items.size:=by lia
  obtain⟨z,hz⟩:∃z,items.size-i=z+1:=⟨items.size-i-1,by lia⟩
  rw[hz,List.range'_succ]at hr;injection hr with hx Fc;subst hx;obtain⟨n,hn⟩:∃n,ns[x]?=some n:=⟨ns[x]'(by lia),by simp[show x<ns.length by lia]⟩
  obtain⟨tt,ht2⟩:=N1 hi hn;have ht3:items[x]?=some (.int n tt):=by simpa using ht2
  rw[ht3];dsimp only;refine aa (yx ?_)
  by_cases hxj:x=j
  ·subst hxj;have hnk:n=k:=by rw[hj]at hn;cases hn;rfl
   subst hnk;rw[if_pos (by simp)];refine aa (aa (wpAny_mkInt ?_));exact ak (ak (ak h))
  ·have hne:n≠k:=λe=>hno x (by lia) (by rw[hn,e]);rw[if_neg (by simpa using hne)];exact ak ⟨rfl,rfl,x+1,by lia,by rw[Fc];congr 1;lia⟩
 ·rintro b s' ⟨rfl,rfl,i,Dg,hr⟩
  exfalso
  have hlt:i<items.size:=by lia
  have:=congrArg qi hr;simp at this
  lia
 ·simp[Std.Legacy.Range.size]
theorem z0a:EJ X "tuple.index" (λx xs H Q=>∃(a:ah)(ns:y')(k:Int)(j:Nat),x=.ref a/\xs=[.int k]/\H a=some (.tup (ns.map Gn))/\fP k ns=some j/\Q (.int j) H):=by intro pins s σ H x xs v us Q I rx rv ⟨a,ns,k,j,e1,e2,ha,hj,q⟩;subst e1;subst e2;cases rx;obtain⟨u,rfl,ru⟩:=jB rv;obtain⟨t,rfl⟩:=ru;obtain⟨its,rits,p1,_⟩:=I.tuple (Gq ha);obtain⟨h1,h2⟩:=xI hj;refine fv yo p1.typeIs PySem.F.entry_tuple_index (z09 p1 (AO rits) h1 h2 ⟨_,rfl,?_⟩) (z08 _ _);exact⟨.int j,H,I.tok _,⟨_,rfl⟩,q⟩
theorem z0b{id:String}{name:Str}{r:V->Ho->Hp->VK->Prop}{to:TE}{t:TA}(slot:Slot "tuple" name id)(hty:typeOf (.builtin id)=pure (.type "method_descriptor"))(hm:EJ X id r)(ho:PE X o to)(ha:PA X [e] t)(hbase:attributeBase o name X.env (eval o X.env)=eval o X.env)(hfew:((backTo cpos (ay [e] X.env)).all (λx=>!x.1)&&(backToKw cpos (keywordEach [] X.env)).all (λx=>x.1.isSome)
   && decide ([e].length+([]:List Keyword).length+(if([]:List Keyword).isEmpty then 0 else 1)<30))=true)(hline:(apos.endLine==cpos.line)=true)(hs:ay [e] X.env=[(false,eval e X.env)]):
  PE X (.Call (.Attribute o name apos) [e] [] cpos) (λσ H Q=>to σ H λx H1=>(∃a xs,x=.ref a/\H1 a=some (.tup xs))/\t σ H1 λxs H2=>r x xs H2 Q):=by
 intro pins s σ H Q I h;refine wpAny_Call_method_late hbase hfew hline rfl (aY (ho pins s σ H _ I h) λv s1⟨x,H1,I1,r1,⟨a,ys,ex,ea⟩,q1⟩=>?_);subst ex;cases r1;obtain⟨_,its,rits,ob,g1,g2,g3,n,g4⟩:=(show Bv X.prog X.w H1 s1.heap a (.tup ys) from I1.hok a _ ea)
 refine⟨"tuple",id,PySem.F.plainAttrs_tuple,slot,hty,⟨ob,g1,g2⟩,λb eb=>?_,?_⟩
 ·cases eb;exact⟨ob,g1,g3⟩
 ·have hA:=ha cpos pins s1 σ H1 _ I1 q1;rw[hs]at hA⊢;exact Calls.callWith_builtin (by rfl) (Calls.evalArgs_plain (aY hA λus s2⟨vs,H2,I2,r2,q2⟩=>hm pins s2 σ H2 (.ref a) vs (.ref a) us Q I2 rfl r2 q2))
def F2(x i:Dv)(h:Hs):Rs Dv:=match x,i with
 |.tup xs,.int k=>match bE fI xs with
  |some ns=>match fP k ns with
   |some j=>.ok (.int j) h
   |none=>.bad
  |none=>.bad
 |_,_=>.bad
def N2(x:Dv):Bool:=match x with
 |.tup _=>true
 |_=>false
def iV(mo me:M Dv):M Dv:=λρ h=>(mo ρ h).bind λx h1=>if N2 x=true then(me ρ h1).bind λd h2=>F2 x d h2 else .bad
theorem AQ(ho:aJ X G E (.Name y np) mo)(he:aJ X G E e me)(hs:ay [e] X.env=[(false,eval e X.env)]:=by rfl)(hl:(apos.endLine==cpos.line)=true:=by rfl):aJ X G E (.Call (.Attribute (.Name y np) "index" apos) [e] [] cpos) (iV mo me):=λhK=>
 Gp (z0b yo PySem.F.type_tuple_index z0a (ho hK) (hY (he hK) jI hs) rfl (by rw[hs];rfl) hl hs) λσ H Q⟨μ,ρ,h,rs,s,oo⟩=>eZ rs s oo λμ1 x h1 vx H1 x1 Cc s1 r1 o1=>by
  split at o1
  ·rename_i hl
   cases x with
   |tup xs=>
    obtain⟨a,vs,rfl,ea,ra⟩:=id r1;refine⟨⟨a,vs,rfl,ea⟩,eZ Cc s1 o1 λμ2 d h2 vd H2 x2 Dn s2 r2 o2=>?_⟩
    cases d with
    |int k=>
     dsimp only[F2]at o2
     cases q:bE fI xs with
     |none=>rw[q]at o2;exact o2.elim
     |some ns=>
      rw[q]at o2;dsimp only at o2
      cases q2:fP k ns with
      |none=>rw[q2]at o2;exact o2.elim
      |some j=>rw[q2]at o2;obtain⟨a',Cm,e',ea',ra'⟩:=Gx x2 _ _ r1;cases e';rw[Bq]at r2;subst r2;exact⟨_,ns,k,j,rfl,rfl,by rw[ea',qH ra' q],q2,o2.val s2 rfl⟩
    |_=>exact o2.elim
   |_=>cases hl
  ·exact o1.elim
end
section
variable{k:Nat}{a b:bq}{ma mb mo:M Dv}{pos:Pos}
def z0c(g:Good X G E k)(ha:aJ X G E a ma)(hb:aJ X G E b mb)(hm:lastMarks [.In] [b]=false:=by with_unfolding_all rfl):aJ X G E (.Compare a [.In] [b] pos) (m2 (kP false) ma mb):=λhK=>zR (j8 g.room.units) (by rw[hK];exact NU false) ha hb hm hK
def N3(g:Good X G E k)(ha:aJ X G E a ma)(hb:aJ X G E b mb)(hm:lastMarks [.NotIn] [b]=false:=by with_unfolding_all rfl):hZ X G E (.Compare a [.NotIn] [b] pos) (mB (m2 (kP true) ma mb)):=λhK=>tT (j9 g.room.units) (by rw[hK];exact NU true) ha hb hm hK
end
def lJ(e:getL H n=some xs):getL (H.set n (.lst ys)) n=some ys:=by have h:=(bf.mp (dN e)).1;unfold getL;rw[fe h]
def uO{H:Hs}(h:n≠j):getL (H.set n o) j=getL H j:=by unfold getL;rw[fj h]
def qL(e:getL H n=some xs):n<H.length:=(bf.mp (dN e)).1
def iW(e:getL H n=some xs):getL (H++l) n=some xs:=by unfold getL;rw[ey (qL e),dN e]
structure Fr(S:A')(H H':Hs):Prop where
 le:H.length<=H'.length
 at_:∀j,j<H.length->j∉S->H'[j]?=H[j]?
def Fr.refl:Fr S H H:=⟨aq _,λ_ _ _=>rfl⟩
def Fr.trans(a:Fr S H H1)(b:Fr T H1 H2)(h:∀j∈T,j∈S∨H.length<=j):Fr S H H2:=⟨cp a.le b.le,λj hj hS=>(b.at_ j (aw hj a.le) λz=>(h j z).elim hS λw=>absurd (aw hj w) (ig _)).trans (a.at_ j hj hS)⟩
def Fr.app:Fr S H (H++l):=⟨by simp,λj hj _=>ey hj⟩
def Fr.set:Fr [n] H (H.set n o):=⟨by simp,λj hj hS=>fj (by simpa using dh (by simpa using hS))⟩
def Fr.getL(a:Fr S H H')(e:getL H j=some xs)(h:j∉S):getL H' j=some xs:=by unfold L2.Mr.getL at e⊢;rw[a.at_ j (qL e) h];exact e
def Fr.mono(a:Fr S H H')(h:∀j∈S,j∈T):Fr T H H':=⟨a.le,λj hj hT=>a.at_ j hj λz=>hT (h j z)⟩
def aX{m u:MS}(e:m ρ h=.nx ρ1 h1):aI m u ρ h=u ρ1 h1:=by unfold aI;rw[e]
def N4{mi:M Src}{st:dG}(e:mi ρ h=.ok src h1):gX mi st b ρ h=jD src st b src.n 0 ρ h1:=by unfold gX;rw[e];rfl
def nJ{c:M Bool}{t u:MS}(e:c ρ h=.ok true h1):bK c t u ρ h=t ρ h1:=by unfold bK;rw[e];rfl
def jQ{c:M Bool}{t u:MS}(e:c ρ h=.ok false h1):bK c t u ρ h=u ρ h1:=by unfold bK;rw[e];rfl
def N5{src:Src}{sg:dG}{b:MS}(hg:src.get k H=some d)(hs:sg d ρ=some ρ1)(hb:b ρ1 H=.nx ρ2 H2):jD src sg b (f+1) k ρ H=jD src sg b f (k+1) ρ2 H2:=by simp[jD,hg,hs,hb]
theorem N6{src:Src}{sg:dG}{b:MS}(P:Nat->Ev->Hs->Prop)(step:∀k ρ H,k<src.n->P k ρ H->∃d ρ1 ρ2 H2,src.get k H=some d/\sg d ρ=some ρ1/\b ρ1 H=.nx ρ2 H2/\P (k+1) ρ2 H2)(fin:∀ρ H,P src.n ρ H->src.fin H=true):∀(f k:Nat)(ρ:Ev)(H:Hs),f+k=src.n->P k ρ H->∃ρ' H',jD src sg b f k ρ H=.nx ρ' H'/\P src.n ρ' H'
 |0,k,ρ,H,h,p=>by
  have hk:k=src.n:=by lia
  subst hk;exact⟨ρ,H,by simp[jD,fin ρ H p],p⟩
 |f+1,k,ρ,H,h,p=>by let⟨d,ρ1,ρ2,H2,e1,e2,e3,p2⟩:=step k ρ H (by lia) p;rw[N5 e1 e2 e3];exact N6 P step fin f (k+1) ρ2 H2 (by lia) p2
def uP{mi:M Src}{sg:dG}{b:MS}{ρ:Ev}(hi:mi ρ H=.ok src H1)(P:Nat->Ev->Hs->Prop)(step:∀k ρ H,k<src.n->P k ρ H->∃d ρ1 ρ2 H2,src.get k H=some d/\sg d ρ=some ρ1/\b ρ1 H=.nx ρ2 H2/\P (k+1) ρ2 H2)(fin:∀ρ H,P src.n ρ H->src.fin H=true)(p:P 0 ρ H1):∃ρ' H',gX mi sg b ρ H=.nx ρ' H'/\P src.n ρ' H':=by
 rw[N4 hi];exact N6 P step fin src.n 0 ρ H1 (by lia) p
theorem AR{src:Src}{sg:dG}{t:M Bool}{m:MC}(P:Nat->Ev->Hs->Bj->Prop)(step:∀k ρ H acc,k<src.n->P k ρ H acc->∃d ρ1,src.get k H=some d/\sg d ρ=some ρ1/\
   ((∃H2,t ρ1 H=.ok false H2/\P (k+1) ρ1 H2 acc)∨∃H2 ρ3 acc3 H3,t ρ1 H=.ok true H2/\m ρ1 H2 acc=.ok (ρ3,acc3) H3/\P (k+1) ρ3 H3 acc3))(fin:∀ρ H acc,P src.n ρ H acc->src.fin H=true):∀(f k:Nat)(ρ:Ev)(H:Hs)(acc:Bj),f+k=src.n->P k ρ H acc->∃ρ' H' Fm,eS src sg t m f k ρ H acc=.ok (ρ',Fm) H'/\P src.n ρ' H' Fm
 |0,k,ρ,H,acc,h,p=>by
  have hk:k=src.n:=by lia
  subst hk;exact⟨ρ,H,acc,by simp[eS,fin ρ H acc p],p⟩
 |f+1,k,ρ,H,acc,h,p=>by
  let⟨d,ρ1,e1,e2,e3⟩:=step k ρ H acc (by lia) p
  rcases e3 with⟨H2,e3,p2⟩|⟨H2,ρ3,acc3,H3,e3,e4,p2⟩
  ·let⟨ρ',H',Fm,e5,p5⟩:=AR P step fin f (k+1) ρ1 H2 acc (by lia) p2;exact⟨ρ',H',Fm,by simp[eS,e1,e2,e3,e5],p5⟩
  ·let⟨ρ',H',Fm,e5,p5⟩:=AR P step fin f (k+1) ρ3 H3 acc3 (by lia) p2;exact⟨ρ',H',Fm,by simp[eS,e1,e2,e3,e4,e5],p5⟩
theorem uQ(k:Nat)(H:Hs):∀ns:y',bE (bD (k+1) H) (ns.map Gh)=some (ns.map Hj)
 |[]=>rfl
 |n::ns=>by rw[da,bE,uQ k H ns];rfl
def aG(p:Int×Int):Dv:=.tup [.int p.1,.int p.2]
def lK(p:Int×Int):Dt:=.tup [.int p.1,.int p.2]
def N7(k:Nat)(H:Hs)(p:Int×Int):bD (k+2) H (aG p)=some (lK p):=rfl
theorem F3(k:Nat)(H:Hs):∀ps:wo,bE (bD (k+2) H) (ps.map aG)=some (ps.map lK)
 |[]=>rfl
 |p::ps=>by rw[da,bE,F3 k H ps,N7];rfl
def N8(p q:Int×Int):bG (lK p) (lK q)=decide (p=q):=by let⟨a,b⟩:=p;let⟨c,d⟩:=q;simp only[lK,bG,eG,Bool.and_true];rw[dk];simp
def z0d(neg:Bool)(H:Hs)(p:Int×Int)(ps:wo):kP neg (aG p) (.tup (ps.map aG)) H=.ok (.bl (if neg then !decide (p∈ps)else decide (p∈ps))) H:=by
 have e:(ps.map lK).any (λt=>bG t (lK p))=decide (p∈ps):=by
  rw[dk];simp only[Aa,pz,Function.comp,N8,decide_eq_true_eq];constructor
  ·rintro ⟨q,hq,rfl⟩;exact hq
  ·intro h;exact⟨p,h,rfl⟩
 have h1:bE (bD cD H) (ps.map aG)=some (ps.map lK):=F3 28 H ps;have h2:bD cD H (aG p)=some (lK p):=N7 28 H p;show qF [] neg (aG p) (.tup (ps.map aG)) H=_;simp only[qF,gK,h1,h2,e]
def N9(neg:Bool)(H:Hs)(x:Int)(ns:y'):kP neg (.int x) (.tup (ns.map Gh)) H=.ok (.bl (if neg then !decide (x∈ns)else decide (x∈ns))) H:=by
 have e:(ns.map Hj).any (λt=>bG t (.int x))=decide (x∈ns):=by
  rw[dk];simp only[Aa,pz,Function.comp,bG,decide_eq_true_eq,beq_iff_eq];constructor
  ·rintro ⟨q,hq,rfl⟩;exact hq
  ·intro h;exact⟨x,h,rfl⟩
 have h1:bE (bD cD H) (ns.map Gh)=some (ns.map Hj):=uQ 29 H ns;have h2:bD cD H (.int x)=some (.int x):=rfl;show qF [] neg (.int x) (.tup (ns.map Gh)) H=_;simp only[qF,gK,h1,h2,e]
section
variable{elt tg iter Dx Cb:bq}{ifs Cq:List bq}{sc:fi}{ps px pos:Pos}{N:Bh}{cap:List (Option Nat)}{mi mi':M Src}{st En:dG}{test Em:M Bool}{me:M Dv}{i:Nat}{x:Str}
def OA(hN:X.N.Nodup)(hi':X.N[i]?=some x)(hc:X.calm=true)(C:Cj X sc N cap)(hi:kA X G E tg iter mi)(hg:∀s H ex,jZ (bU X sc N s H ex) G tg st)(Er:∀s H ex,pW (bU X sc N s H ex) G ifs test)(hel:∀s H ex,aJ (bU X sc N s H ex) G E0 elt me)(hx:X.env.scope.names.lookup x=some .local:=by rfl)(hsw:swapsWith (.ListComp elt [⟨tg,iter,ifs,0⟩] sc ps) (some (.Name x px)) pos.line X.env=pure true:=by rfl)(hs:∀x,foldedSetIterable iter X.env x=pure x:=by intro _;rfl):iK X G E (.Assign [.Name x px] (.ListComp elt [⟨tg,iter,ifs,0⟩] sc ps) pos) (aM (bQ (bO mi cap st test (bB me))) (aF i)):=λhK=>
 PS.imp (LX hsw hN hi' hx hc C rfl (λit D env=>ES elt tg iter ifs sc ps (.ref it) D env) (hi hK) (λs H ex=>hg s H ex hK) (λs H ex=>Er s H ex hK) (λs H ex D=>Fo.imp (wG (hel s H ex hK)) λ_ _ _ _ t=>AA t) hs) λD σ H⟨μ,ρ,h,rs,s,o⟩=>AD (E9 (jY rs s o λμ1 d h1 v H1 x1 Cc s1 r1 o1=>o1 μ1 H1 _ Gs s1 (Cc.set i r1)))
def z0e(hN:X.N.Nodup)(hi1:X.N[i]?=some x)(hc:X.calm=true)(C:Cj X sc N cap)(hi:kA X G E tg iter mi)(hg:∀s H ex,jZ (bU X sc N s H ex) G tg st)(Er:∀s H ex,pW (bU X sc N s H ex) G ifs test)(hi':∀s H ex,kA (bU X sc N s H ex) G E0 Dx Cb mi')(Fh:∀s H ex,jZ (bU X sc N s H ex) G Dx En)(htt':∀s H ex,pW (bU X sc N s H ex) G Cq Em)(hel:∀s H ex,aJ (bU X sc N s H ex) G E0 elt me)(hx:X.env.scope.names.lookup x=some .local:=by rfl)(hsw:swapsWith (.ListComp elt [⟨tg,iter,ifs,0⟩,⟨Dx,Cb,Cq,0⟩] sc ps) (some (.Name x px)) pos.line X.env=pure true:=by rfl)(hs:∀x,foldedSetIterable iter X.env x=pure x:=by intro _;rfl)(hs':∀s H ex x,foldedSetIterable Cb (bU X sc N s H ex).env x=pure x:=by intro _ _ _ _;rfl):
  iK X G E (.Assign [.Name x px] (.ListComp elt [⟨tg,iter,ifs,0⟩,⟨Dx,Cb,Cq,0⟩] sc ps) pos) (aM (bQ (bO mi cap st test (lC mi' En Em (bB me)))) (aF i)):=λhK=>
 PS.imp (LX hsw hN hi1 hx hc C rfl (inner:=λD env=>tQ Cb (.ListComp elt [⟨tg,iter,ifs,0⟩,⟨Dx,Cb,Cq,0⟩] sc ps) 1 D env) (λit D env=>LP elt tg iter Dx Cb ifs Cq sc ps (.ref it) D env) (hi hK) (λs H ex=>hg s H ex hK) (λs H ex=>Er s H ex hK)
  (λs H ex D=>Fo.imp (LV (X:=bU X sc N s H ex) (D:=D) (gens:=[⟨tg,iter,ifs,0⟩,⟨Dx,Cb,Cq,0⟩]) (d:=1) rfl hc rfl (λit=>LQ elt tg iter Dx Cb ifs Cq sc ps (.ref it) D _) (hi' s H ex hK) (Fh s H ex hK) (htt' s H ex hK) (Fo.imp (wG (hel s H ex hK)) λ_ _ _ _ t=>AA t) (hs' s H ex)) λ_ _ _ _ t=>MP t) hs) λD σ H⟨μ,ρ,h,rs,s,o⟩=>
  AD (E9 (jY rs s o λμ1 d h1 v H1 x1 Cc s1 r1 o1=>o1 μ1 H1 _ Gs s1 (Cc.set i r1)))
end
end L2.Mr
open L2.Mr.Fr renaming app->Gj,refl->Gy,set->Hf,trans->Hh
namespace SoM
open PySem PySem.W PyProof.Rows
variable{n:Nat}{f:Nat->Nat}{s:ag}
def oW(n:Nat)(f:Nat->Nat)(i j:Nat)(C:Bool->ag->Prop)(s:ag):Prop:=i<n/\j<n/\C (decide (f i<f j)) s
def F(f:Nat->Nat)(p:Array Nat)(k:Nat):Nat:=f (p.getD k 0)
def Ent(n:Nat)(p:Array Nat):Prop:=p.size=n/\p.toList.Perm (ba n)
def Ent.lt(e:Ent n p)(hn:0<n)(k:Nat):p.getD k 0<n:=by
 by_cases h:k<p.size
 ·have:p.getD k 0=p[k]:=by simp[lr,h]
  rw[this];have hm:p[k]∈p.toList:=by simp
  exact bx.mp (e.2.mem_iff.mp hm)
 ·have:p.getD k 0=0:=by simp[lr,h]
  lia
def xJ{p q:Array Nat}(h:p[i]?=q[j]?):F f p i=F f q j:=by unfold F;simp only[Array.getD_eq_getD_getElem?,h]
def Ent.mirror(e:Ent n p)(i j d:Nat):Ent n (mirror p i j d):=⟨(mirror_size ..).trans e.1,((yp.mp (mirror_perm p i j d))).trans e.2⟩
def Ent.bubble(e:Ent n p)(k d:Nat):Ent n (bubble p k d):=⟨(bubble_size ..).trans e.1,((yp.mp (bubble_perm p k d))).trans e.2⟩
def Ent.rev(e:Ent n p)(i j:Nat):Ent n (kas_rev p i j):=e.mirror _ _ _
def xK{p:Array Nat}{i j:Nat}(hj:j<=p.size)(k:Nat):F f (kas_rev p i j) k=if i<=k/\k<j then F f p (i+j-1-k)else F f p k:=by
 have e:=getElem?_mirror_all (i:=i) hj k
 by_cases h:i<=k/\k<j
 ·rw[if_pos h]at e⊢;exact xJ e
 ·rw[if_neg h]at e⊢;exact xJ e
def OB{p:Array Nat}{k d:Nat}(hs:k<p.size)(hd:d<=k)(i:Nat):F f (bubble p k d) i=if i=k-d then F f p k else if k-d<i/\i<=k then F f p (i-1)else F f p i:=by
 have e:=getElem?_bubble hs d hd i
 by_cases h1:i=k-d
 ·rw[if_pos h1]at e⊢;exact xJ e
 ·rw[if_neg h1]at e⊢
  by_cases h2:k-d<i/\i<=k
  ·rw[if_pos h2]at e⊢;exact xJ e
  ·rw[if_neg h2]at e⊢;exact xJ e
def Inc(f:Nat->Nat)(p:Array Nat)(m:Nat):Prop:=∀i j,i<=j->j<m->F f p i<=F f p j
def Dec(f:Nat->Nat)(p:Array Nat)(m:Nat):Prop:=∀i j,i<=j->j<m->F f p j<=F f p i
def Inc.succ(h:Inc f p m)(hm:1<=m)(h1:F f p (m-1)<=F f p m):Inc f p (m+1):=by
 intro i j Dg hj
 by_cases q:j=m
 ·subst q
  by_cases r:i=j
  ·subst r;exact aq _
  ·exact cp (h i (j-1) (by lia) (by lia)) h1
 ·exact h i j Dg (by lia)
def Dec.succ(h:Dec f p m)(hm:1<=m)(h1:F f p m<=F f p (m-1)):Dec f p (m+1):=by
 intro i j Dg hj
 by_cases q:j=m
 ·subst q
  by_cases r:i=j
  ·subst r;exact aq _
  ·exact cp h1 (h i (j-1) (by lia) (by lia))
 ·exact h i j Dg (by lia)
theorem F5(e:Ent n p)(hn:0<n){Q:Nat->ag->Prop}:∀(fu m:Nat)(s:ag),1<=m->Inc f p m->
  (∀m',m<=m'->m'<=m+fu->Inc f p m'->(m'=m+fu∨F f p m'<F f p (m'-1))->Q m' s)->(kas_asc p fu m).kasWp (oW n f) Q s
 |0,m,s,h1,hi,h=>h m (aq _) (aq _) hi (.inl rfl)
 |fu+1,m,s,h1,hi,h=>by
  refine⟨e.lt hn _,e.lt hn _,?_⟩
  by_cases c:f (p.getD m 0)<f (p.getD (m-1) 0)
  ·rw[decide_eq_true c];exact h m (aq _) (by lia) hi (.inr c)
  ·rw[decide_eq_false c];refine F5 e hn fu (m+1) s (by lia) (hi.succ h1 (Nat.le_of_not_lt c)) λm' a b c d=>h m' (by lia) (by lia) c ?_
   rcases d with d|d
   ·exact .inl (by lia)
   ·exact .inr d
theorem AS(hn:0<n){Q:Array Nat×Nat×Nat->ag->Prop}:∀(fu m q:Nat)(p:Array Nat)(s:ag),Ent n p->q+1<=m->m+fu<=n->Dec f p m->(∀k,m-1-q<=k->k<m->F f p k=F f p (m-1))->
  (∀p' m' q',Ent n p'->q'+1<=m'->m<=m'->m'<=m+fu->Dec f p' m'->(∀k,m'-1-q'<=k->k<m'->F f p' k=F f p' (m'-1))->Q (p',m',q') s)->(kas_desc fu p m q).kasWp (oW n f) Q s
 |0,m,q,p,s,e,h1,h2,hd,he,h=>h p m q e h1 (aq _) (aq _) hd he
 |fu+1,m,q,p,s,e,h1,h2,hd,he,h=>by
  refine⟨e.lt hn _,e.lt hn _,?_⟩
  by_cases c:f (p.getD m 0)<f (p.getD (m-1) 0)
  ·have c':F f p m<F f p (m-1):=c;rw[decide_eq_true c];show KasT.kasWp _ (if true=true then(if q>0 then _ else _)else _) _ _;rw[if_pos rfl]
   by_cases hq:q>0
   ·rw[if_pos hq];have Cv:m<=p.size:=by rw[e.1];lia
    have hF:∀k,F f (kas_rev p (m-(q+1)) m) k=F f p k:=by
     intro k;rw[xK Cv]
     split
     ·rw[he _ (by lia) (by lia),he k (by lia) (by lia)]
     ·rfl
    have Ej:Dec f (kas_rev p (m-(q+1)) m) (m+1):=by intro i j Dg hj;rw[hF,hF];exact hd.succ (by lia) (gr c') i j Dg hj
    refine AS hn fu (m+1) 0 _ s (e.rev _ _) (by lia) (by lia) Ej ?_ λp' m' q' a b c d=>h p' m' q' a b (by lia) (by lia);intro k k1 k2;have:k=m:=by lia
    subst this;rfl
   ·rw[if_neg hq];refine AS hn fu (m+1) 0 _ s e (by lia) (by lia) (hd.succ (by lia) (gr c')) ?_ λp' m' q' a b c d=>h p' m' q' a b (by lia) (by lia);intro k k1 k2;have:k=m:=by lia
    subst this;rfl
  ·have c':¬F f p m<F f p (m-1):=c;rw[decide_eq_false c];show KasT.kasWp _ (if false=true then _ else KasT.ask _ _ _) _ _;rw[if_neg (by simp)];refine⟨e.lt hn _,e.lt hn _,?_⟩
   by_cases c2:f (p.getD (m-1) 0)<f (p.getD m 0)
   ·rw[decide_eq_true c2];exact h p m q e h1 (aq _) (by lia) hd he
   ·have c2':¬F f p (m-1)<F f p m:=c2;rw[decide_eq_false c2];have eq:F f p m=F f p (m-1):=by lia
    refine AS hn fu (m+1) (q+1) _ s e (by lia) (by lia) (hd.succ (by lia) (by lia)) ?_ λp' m' q' a b c d=>h p' m' q' a b (by lia) (by lia);intro k k1 k2;show F f p k=F f p m
    by_cases r:k=m
    ·subst r;rfl
    ·rw[eq];exact he k (by lia) (by lia)
def Dec.rev{p:Array Nat}(hm:m<=p.size)(h:Dec f p m):Inc f (kas_rev p 0 m) m:=by intro i j Dg hj;rw[xK hm,xK hm,if_pos ⟨gv _,by lia⟩,if_pos ⟨gv _,hj⟩];exact h _ _ (by lia) (by lia)
def OC(hn:0<n){Q:Nat×Array Nat->ag->Prop}(e:Ent n p)(h1:1<=m)(h2:m<=n)(hd:Dec f p m)(h:∀m' p',Ent n p'->1<=m'->m'<=n->Inc f p' m'->Q (m',p') s):(kas_tail3 m n p).kasWp (oW n f) Q s:=by
 unfold kas_tail3;rw[KasT.kasWp_bind];refine F5 (e.rev 0 m) hn (n-m) m s h1 (hd.rev (by rw[e.1];exact h2)) λm' a b c _=>?_;exact h m' _ (e.rev 0 m) (by lia) (by lia) c
def OD(hn:0<n){Q:Nat×Array Nat->ag->Prop}(e:Ent n p)(h2:m+1<=n)(hd:Dec f p (m+1))(h:∀m' p',Ent n p'->1<=m'->m'<=n->Inc f p' m'->Q (m',p') s):(kas_descPart m n p).kasWp (oW n f) Q s:=by
 unfold kas_descPart;rw[KasT.kasWp_bind];refine AS hn (n-(m+1)) (m+1) 0 p s e (by lia) (by lia) hd (λk k1 k2=>by (have:k=m:=by lia);subst this;rfl) λp' m' q' e' a b c d eq=>?_;show KasT.kasWp _ (if q'>0 then _ else _) _ _
 by_cases hq:q'>0
 ·rw[if_pos hq];have Cv:m'<=p'.size:=by rw[e'.1];lia
  have hF:∀k,F f (kas_rev p' (m'-(q'+1)) m') k=F f p' k:=by
   intro k;rw[xK Cv]
   split
   ·rw[eq _ (by lia) (by lia),eq k (by lia) (by lia)]
   ·rfl
  refine OC hn (e'.rev _ _) (show 1<=m' by lia) (show m'<=n by lia) ?_ h;intro i j Dg hj;rw[hF,hF];exact d i j Dg hj
 ·rw[if_neg hq];exact OC hn e' (show 1<=m' by lia) (show m'<=n by lia) d h
def z0f(hn:1<=n){Q:Nat×Array Nat->ag->Prop}(e:Ent n p)(h:∀m' p',Ent n p'->1<=m'->m'<=n->Inc f p' m'->Q (m',p') s):(kas_count n p).kasWp (oW n f) Q s:=by
 unfold kas_count;rw[KasT.kasWp_bind];refine F5 e (by lia) (n-1) 1 s (aq _) (λi j Dg hj=>by (have:i=j:=by lia);subst this;exact aq _) λm a b c d=>?_;show KasT.kasWp _ (if(m==n)=true then _ else if m>1 then _ else _) _ _
 by_cases q:m=n
 ·rw[if_pos (beq_iff_eq.mpr q)];exact h m p e (by lia) (by lia) c
 ·rw[if_neg (by intro z;exact q (beq_iff_eq.mp z))];have hlt:F f p m<F f p (m-1):=by
   rcases d with d|d
   ·lia
   ·exact d
  by_cases q1:m>1
  ·rw[if_pos q1];refine⟨e.lt (by lia) _,e.lt (by lia) _,?_⟩
   by_cases c2:f (p.getD 0 0)<f (p.getD (m-1) 0)
   ·rw[decide_eq_true c2];exact h m p e (by lia) (by lia) c
   ·have c2':¬F f p 0<F f p (m-1):=c2;rw[decide_eq_false c2];have Cv:m<=p.size:=by rw[e.1];lia
    have eq:∀k,k<m->F f p k=F f p 0:=by
     intro k hk;have:=c 0 k (by lia) hk;have:=c k (m-1) (by lia) (by lia)
     lia
    have hF:∀k,F f (kas_rev p 0 m) k=F f p k:=by
     intro k;rw[xK Cv]
     split
     ·rw[eq _ (by lia),eq k (by lia)]
     ·rfl
    refine OD (by lia) (e.rev _ _) (by lia) ?_ h;intro i j Dg hj;rw[hF,hF]
    by_cases r:j=m
    ·subst r
     by_cases r2:i=j
     ·subst r2;exact aq _
     ·have:=eq i (by lia);have:=eq (j-1) (by lia)
      lia
    ·rw[eq i (by lia),eq j (by lia)];exact aq _
  ·rw[if_neg q1];have:m=1:=by lia
   subst this;refine OD (by lia) e (by lia) ?_ h;intro i j Dg hj
   by_cases r:i=j
   ·subst r;exact aq _
   ·have h1:i=0:=by lia
    have h2:j=1:=by lia
    subst h1;subst h2;exact gr hlt
theorem F6(e:Ent n p)(hn:0<n)(hi:Inc f p k){Q:Nat->ag->Prop}:∀(fu l r:Nat)(s:ag),r-l<=fu->l<=r->r<=k->
  (∀i,i<l->F f p i<=F f p k)->(∀i,r<=i->i<k->F f p k<F f p i)->
  (∀l',l'<=k->(∀i,i<l'->F f p i<=F f p k)->(∀i,l'<=i->i<k->F f p k<F f p i)->Q l' s)->(kas_place p k fu l r).kasWp (oW n f) Q s
 |0,l,r,s,h1,h2,h3,ha,hb,h=>by
  have:l=r:=by lia
  subst this;exact h l h3 ha hb
 |fu+1,l,r,s,h1,h2,h3,ha,hb,h=>by
  unfold kas_place
  by_cases q:l>=r
  ·rw[if_pos q];have:l=r:=by lia
   subst this;exact h l h3 ha hb
  ·rw[if_neg q];refine⟨e.lt hn _,e.lt hn _,?_⟩
   by_cases c:f (p.getD k 0)<f (p.getD ((l+r)/2) 0)
   ·have c':F f p k<F f p ((l+r)/2):=c;rw[decide_eq_true c];refine F6 e hn hi fu l ((l+r)/2) s (by lia) (by lia) (by lia) ha ?_ h;intro i i1 i2;have:=hi ((l+r)/2) i i1 i2
    lia
   ·have c':¬F f p k<F f p ((l+r)/2):=c;rw[decide_eq_false c];refine F6 e hn hi fu ((l+r)/2+1) r s (by lia) (by lia) (by lia) ?_ hb h;intro i i1;have:=hi i ((l+r)/2) (by lia) (by lia)
    lia
theorem OE(hn:0<n){Q:Array Nat->ag->Prop}:∀(fu k:Nat)(p:Array Nat)(s:ag),Ent n p->k+fu<=n->Inc f p k->(∀p',Ent n p'->Inc f p' (k+fu)->Q p' s)->(kas_bin fu p k).kasWp (oW n f) Q s
 |0,k,p,s,e,h1,hi,h=>h p e hi
 |fu+1,k,p,s,e,h1,hi,h=>by
  unfold kas_bin;rw[KasT.kasWp_bind];refine F6 e hn hi k 0 k s (by lia) (by lia) (aq _) (λi hi=>absurd hi (by lia)) (λi a b=>absurd b (by lia)) λl hl ha hb=>?_;have Cv:k<p.size:=by rw[e.1];lia
  refine OE hn fu (k+1) _ s (e.bubble _ _) (by lia) ?_ λp' e' i'=>h p' e' (by rw[show k+(fu+1)=k+1+fu by lia];exact i');intro i j Dg hj;rw[OB Cv (by lia),OB Cv (by lia)];have hkl:k-(k-l)=l:=by lia
  rw[hkl]
  by_cases i1:i=l
  ·rw[if_pos i1]
   by_cases j1:j=l
   ·rw[if_pos j1];exact aq _
   ·rw[if_neg j1,if_pos (by lia)];exact gr (hb (j-1) (by lia) (by lia))
  ·rw[if_neg i1]
   by_cases i2:l<i/\i<=k
   ·rw[if_pos i2,if_neg (by lia),if_pos (by lia)];exact hi (i-1) (j-1) (by lia) (by lia)
   ·rw[if_neg i2]
    by_cases j1:j=l
    ·rw[if_pos j1];exact ha i (by lia)
    ·rw[if_neg j1]
     by_cases j2:l<j/\j<=k
     ·rw[if_pos j2];exact hi i (j-1) (by lia) (by lia)
     ·rw[if_neg j2];exact hi i j Dg (by lia)
def z0g(hn:1<=n){Q:Array Nat->ag->Prop}(h:∀p,Ent n p->Inc f p n->Q p s):(kas_sort n).kasWp (oW n f) Q s:=by
 unfold kas_sort;rw[KasT.kasWp_bind];refine z0f hn ⟨by simp,by simp⟩ λm p e h1 h2 hi=>?_;show KasT.kasWp _ (if m<n then _ else _) _ _
 by_cases q:m<n
 ·rw[if_pos q];have:max m 1=m:=by lia
  rw[this];refine OE (by lia) (n-m) m p s e (by lia) hi λp' e' i'=>h p' e' ?_;rw[show m+(n-m)=n by lia]at i';exact i'
 ·rw[if_neg q];have:m=n:=by lia
  subst this;exact h p e hi
theorem OF{α:Type}{cmp:Nat->Nat->(Bool->ag->Prop)->ag->Prop}{I:ag->Prop}(hc:∀i j C s,I s->i<n->j<n->(∀s',I s'->C (decide (f i<f j)) s')->cmp i j C s):
  ∀(t:KasT α)(Q:α->Prop)(Q':α->ag->Prop)(s₀ s:ag),t.kasWp (oW n f) (λa _=>Q a) s₀->I s->(∀a s',Q a->I s'->Q' a s')->t.kasWp cmp Q' s
 |.ret a,Q,Q',s₀,s,h,hi,k=>k a s h hi
 |.ask i j c,Q,Q',s₀,s,h,hi,k=>hc i j _ s hi h.1 h.2.1 λs' hi'=>OF hc (c _) Q Q' s₀ s' h.2.2 hi' k
end SoM
namespace L2
structure Ef{α:Type}(lt:α->α->Bool):Prop where
 irr:∀x,lt x x=false
 tr:∀x y z,lt x y=true->lt y z=true->lt x z=true
 tot:∀x y,lt x y=false->lt y x=false->x=y
section
variable{α:Type}{lt:α->α->Bool}
def Ef.asy(o:Ef lt)(h:lt x y=true):lt y x=false:=by
 cases q:lt y x with
 |false=>rfl
 |true=>have:=o.tr x y x h q;rw[o.irr]at this;cases this
def Ef.lt_le(o:Ef lt)(h:lt x y=true)(h2:lt z y=false):lt x z=true:=by
 cases q:lt y z with
 |true=>exact o.tr x y z h q
 |false=>rw[<-o.tot y z q h2];exact h
def Ef.le_tr(o:Ef lt)(h:lt y x=false)(h2:lt z y=false):lt z x=false:=by
 cases q:lt z x with
 |false=>rfl
 |true=>have:=o.lt_le q h;rw[h2]at this;cases this
def nK(lt:α->α->Bool)(x:α):List α->List α
 |[]=>[x]
 |y::r=>if lt y x then y::nK lt x r else x::y::r
def fG(lt:α->α->Bool):List α->List α
 |[]=>[]
 |x::r=>nK lt x (fG lt r)
theorem F7(x:α):∀l,(nK lt x l).Perm (x::l)
 |[]=>.refl _
 |y::r=>by
  unfold nK
  split
  ·exact((F7 x r).cons y).trans (xj ..)
  ·exact .refl _
theorem rZ:∀l,(fG lt l).Perm l
 |[]=>.refl _
 |x::r=>(F7 x _).trans ((rZ r).cons x)
abbrev fR(lt:α->α->Bool)(l:List α):Prop:=l.Pairwise λa b=>lt b a=false
abbrev eW(lt:α->α->Bool)(l:List α):Prop:=l.Pairwise λa b=>lt a b=true
theorem OG(o:Ef lt)(x:α):∀l,fR lt l->fR lt (nK lt x l)
 |[],_=>by simp[nK,fR]
 |y::r,h=>by
  have h1:=de.mp h;unfold nK
  split
  ·rename_i q;refine de.mpr ⟨λz hz=>?_,OG o x r h1.2⟩
   rcases az.mp ((F7 x r).mem_iff.mp hz)with rfl|hz
   ·exact o.asy q
   ·exact h1.1 z hz
  ·rename_i q;have q':lt y x=false:=by simpa using q
   refine de.mpr ⟨λz hz=>?_,h⟩
   rcases az.mp hz with rfl|hz
   ·exact q'
   ·exact o.le_tr q' (h1.1 z hz)
theorem OH(o:Ef lt):∀l,fR lt (fG lt l)
 |[]=>qj
 |x::r=>OG o x _ (OH o r)
theorem F8(o:Ef lt):∀{l l':List α},fR lt l->fR lt l'->l.Perm l'->l=l'
 |[],l',_,_,p=>(List.nil_perm.mp p).symm
 |x::r,[],_,_,p=>by simp at p
 |x::r,y::r',h,h',p=>by
  have h1:=de.mp h;have h2:=de.mp h';have e:x=y:=by
   refine o.tot x y ?_ ?_
   ·rcases az.mp (p.mem_iff.mp (bh ..))with e|e
    ·rw[e];exact o.irr y
    ·exact h2.1 x e
   ·rcases az.mp (p.mem_iff.mpr (bh ..))with e|e
    ·rw[e];exact o.irr x
    ·exact h1.1 y e
  subst e;rw[F8 o h1.2 h2.2 (List.Perm.cons_inv p)]
def F9(o:Ef lt)(h:fR lt l')(p:l'.Perm l):l'=fG lt l:=F8 o h (OH o l) (p.trans (rZ l).symm)
def mG(lt:α->α->Bool)(x:α):List α->List α
 |[]=>[x]
 |y::r=>if lt y x then y::mG lt x r else if lt x y then x::y::r else y::r
def eF(lt:α->α->Bool):List α->List α
 |[]=>[]
 |x::r=>mG lt x (eF lt r)
theorem GA(o:Ef lt)(x z:α):∀l,z∈mG lt x l↔z=x∨z∈l
 |[]=>by simp[mG]
 |y::r=>by
  unfold mG
  split
  ·rw[az,GA o x z r,az];constructor
   ·rintro (h|h|h)
    ·exact .inr (.inl h)
    ·exact .inl h
    ·exact .inr (.inr h)
   ·rintro (h|h|h)
    ·exact .inr (.inl h)
    ·exact .inl h
    ·exact .inr (.inr h)
  ·rename_i q1
   split
   ·simp
   ·rename_i q2;have e:=o.tot x y (by simpa using q2) (by simpa using q1);subst e;simp
theorem nL(o:Ef lt)(z:α):∀l,z∈eF lt l↔z∈l
 |[]=>.rfl
 |x::r=>by rw[eF,GA o,nL o z r,az]
theorem OI(o:Ef lt)(x:α):∀l,eW lt l->eW lt (mG lt x l)
 |[],_=>by simp[mG,eW]
 |y::r,h=>by
  have h1:=de.mp h;unfold mG
  split
  ·rename_i q;refine de.mpr ⟨λz hz=>?_,OI o x r h1.2⟩
   rcases(GA o x z r).mp hz with rfl|hz
   ·exact q
   ·exact h1.1 z hz
  ·split
   ·rename_i q;refine de.mpr ⟨λz hz=>?_,h⟩
    rcases az.mp hz with rfl|hz
    ·exact q
    ·exact o.tr _ _ _ q (h1.1 z hz)
   ·exact h
theorem qM(o:Ef lt):∀l,eW lt (eF lt l)
 |[]=>qj
 |x::r=>OI o x _ (qM o r)
def AU(o:Ef lt)(h:eW lt l):fR lt l:=h.imp λh=>o.asy h
def sC(o:Ef lt)(h:eW lt l):l.Nodup:=h.imp λ{a b}h e=>by rw[e,o.irr]at h;cases h
def GB(o:Ef lt)(h:eW lt l)(h':eW lt l')(m:∀z,z∈l↔z∈l'):l=l':=by refine F8 o (AU o h) (AU o h') ?_;exact(ni (sC o h) (sC o h')).mpr m
def z0h(o:Ef lt)(h:eW lt l')(m:∀z,z∈l'↔z∈l):l'=eF lt l:=GB o h (qM o l) λz=>(m z).trans (nL o z l).symm
def z0i(o:Ef lt)(l:List α)(h:l.Nodup):eF lt l=fG lt l:=by refine F9 o (AU o (qM o l)) ?_;exact(ni (sC o (qM o l)) h).mpr λz=>nL o z l
def rk(lt:α->α->Bool)(ks:List α)(x:α):Nat:=ks.countP λy=>lt y x
theorem GC{p q:α->Bool}:∀(l:List α),(∀y,p y=true->q y=true)->l.countP p<=l.countP q
 |[],_=>aq _
 |y::r,h=>by
  have:=GC r h;rw[uc,uc]
  cases hp:p y with
  |true=>rw[h y hp];simp;lia
  |false=>cases q y<;>simp<;>lia
theorem OJ{p q:α->Bool}:∀(l:List α),(∀y,p y=true->q y=true)->∀x,x∈l->q x=true->p x=false->l.countP p<l.countP q
 |[],_,x,hx,_,_=>by simp at hx
 |y::r,h,x,hx,h1,h2=>by
  rw[uc,uc]
  rcases az.mp hx with rfl|hx
  ·have:=GC r h;rw[h1,h2];simp;lia
  ·have:=OJ r h x hx h1 h2
   cases hp:p y with
   |true=>rw[h y hp];simp;lia
   |false=>cases q y<;>simp<;>lia
def OK(o:Ef lt)(hx:x∈ks):decide (rk lt ks x<rk lt ks z)=lt x z:=by
 cases q:lt x z with
 |true=>exact decide_eq_true (OJ ks (λy h=>o.tr y x z h q) x hx q (o.irr x))
 |false=>exact decide_eq_false (Nat.not_lt.mpr (GC ks λy h=>o.lt_le h q))
def z0j(o:Ef lt)(hz:z∈ks)(h:rk lt ks x<=rk lt ks z):lt z x=false:=by rw[<-OK o hz];exact decide_eq_false (Nat.not_lt.mpr h)
end
def cR:y'->y'->Bool
 |[],[]=>false
 |[],_::_=>true
 |_::_,[]=>false
 |a::x,b::y=>if a==b then cR x y else decide (a<b)
def Dp:Ef cR:=by
 refine⟨λx=>?_,λx=>?_,λx=>?_⟩
 ·induction x with
  |nil=>rfl
  |cons a x ih=>simp[cR,ih]
 ·induction x with
  |nil=>
   intro y z h1 h2
   cases z with
   |nil=>cases y with
    |nil=>exact h1
    |cons b y=>cases h2
   |cons c z=>rfl
  |cons a x ih=>
   intro y z h1 h2
   cases y with
   |nil=>cases h1
   |cons b y=>
    cases z with
    |nil=>cases h2
    |cons c z=>
     simp only[cR,beq_iff_eq]at h1 h2⊢
     by_cases e1:a=b<;>by_cases e2:b=c
     ·rw[if_pos e1]at h1;rw[if_pos e2]at h2;rw[if_pos (e1.trans e2)];exact ih y z h1 h2
     ·rw[if_neg e2]at h2;rw[if_neg (by rw[e1];exact e2)];rw[e1];exact h2
     ·rw[if_neg e1]at h1;rw[if_neg (by rw[<-e2];exact e1)];rw[<-e2];exact h1
     ·rw[if_neg e1]at h1;rw[if_neg e2]at h2;simp only[decide_eq_true_eq]at h1 h2;rw[if_neg (by lia)];simp;lia
 ·induction x with
  |nil=>
   intro y h1 h2
   cases y with
   |nil=>rfl
   |cons b y=>cases h1
  |cons a x ih=>
   intro y h1 h2
   cases y with
   |nil=>cases h2
   |cons b y=>
    simp only[cR,beq_iff_eq]at h1 h2
    by_cases e:a=b
    ·subst e;rw[if_pos rfl]at h1 h2;rw[ih y h1 h2]
    ·rw[if_neg e]at h1;rw[if_neg (dh e)]at h2;simp at h1 h2;lia
def cP(p q:Int×Int):Bool:=if p.1==q.1 then decide (p.2<q.2)else decide (p.1<q.1)
def hO(p:Int×Int):y':=[p.1,p.2]
def uR(p q:Int×Int):cR (hO p) (hO q)=cP p q:=by
 unfold cP hO cR
 split
 ·unfold cR
  split
  ·rename_i h;simp at h;simp[cR,h]
  ·rfl
 ·rfl
def z0k(h:hO p=hO q):p=q:=by let⟨a,b⟩:=p;let⟨c,d⟩:=q;simp[hO]at h;rw[h.1,h.2]
def Dh:Ef cP:=⟨λx=>by rw[<-uR];exact Dp.irr _,λx y z h1 h2=>by rw[<-uR]at *;exact Dp.tr _ _ _ h1 h2,λx y h1 h2=>by rw[<-uR]at *;exact z0k (Dp.tot _ _ h1 h2)⟩
section
variable{α β:Type}{lt:α->α->Bool}{lt':β->β->Bool}{f:α->β}
theorem OL(h:∀x y,lt' (f x) (f y)=lt x y)(x:α):∀l,nK lt' (f x) (l.map f)=(nK lt x l).map f
 |[]=>rfl
 |y::r=>by
  simp only[da,nK,h]
  split
  ·rw[OL h x r];rfl
  ·rfl
theorem OM(h:∀x y,lt' (f x) (f y)=lt x y):∀l,fG lt' (l.map f)=(fG lt l).map f
 |[]=>rfl
 |x::r=>by rw[da,fG,OM h r,OL h];rfl
theorem ON(h:∀x y,lt' (f x) (f y)=lt x y)(x:α):∀l,mG lt' (f x) (l.map f)=(mG lt x l).map f
 |[]=>rfl
 |y::r=>by
  simp only[da,mG,h]
  split
  ·rw[ON h x r];rfl
  ·split<;>rfl
theorem OO(h:∀x y,lt' (f x) (f y)=lt x y):∀l,eF lt' (l.map f)=(eF lt l).map f
 |[]=>rfl
 |x::r=>by rw[da,eF,OO h r,ON h];rfl
end
end L2
namespace SM
open PySem PySem.SetTable
def fR(l:A'):Prop:=l.Pairwise (·<·)
theorem GD{l:A'}(hr:fR l){i k x:Nat}(a:l[i]?=some x)(b:l[k]?=some x):i=k:=by
 obtain⟨p1,p2⟩:=bf.mp a;obtain⟨q1,q2⟩:=bf.mp b
 rcases Nat.lt_trichotomy i k with h|h|h
 ·have:=ij.mp hr i k p1 q1 h;lia
 ·exact h
 ·have:=ij.mp hr k i q1 p1 h;lia
def z0l(xs:Array Nat)(j:Nat)(hr:fR xs.toList):∀(fuel lo hi:Nat),lo<=hi->hi<=xs.size->hi-lo<=fuel->
  (∀i(h:i<xs.size),i<lo->xs[i]<j)->(∀i(h:i<xs.size),hi<=i->j<=xs[i])->
  (∀i(h:i<xs.size),i<below.go xs j fuel lo hi->xs[i]<j)/\(∀i(h:i<xs.size),below.go xs j fuel lo hi<=i->j<=xs[i])/\below.go xs j fuel lo hi<=xs.size:=by
 intro fuel
 induction fuel with
 |zero=>
  intro lo hi h1 h2 h3 ha hb;have:lo=hi:=by lia
  subst this;exact⟨ha,hb,h2⟩
 |succ n ih=>
  intro lo hi h1 h2 h3 ha hb;unfold below.go
  by_cases hlt:lo<hi
  ·rw[if_pos hlt];dsimp only;have hm:(lo+hi)/2<xs.size:=by lia
   have e:xs.getD ((lo+hi)/2) j=xs[(lo+hi)/2]:=by simp[lr,hm]
   have mono:∀a b(ha:a<xs.size)(hb:b<xs.size),a<b->xs[a]<xs[b]:=by intro a b ha hb Ek;have:=ij.mp hr a b (by simpa using ha) (by simpa using hb) Ek;simpa using this
   by_cases hc:xs.getD ((lo+hi)/2) j<j
   ·rw[if_pos hc];refine ih _ _ (by lia) h2 (by lia) ?_ hb;intro i h hi';rw[e]at hc
    by_cases q:i=(lo+hi)/2
    ·subst q;exact hc
    ·have:=mono i _ h hm (by lia);lia
   ·rw[if_neg hc];refine ih _ _ (by lia) (by lia) (by lia) ha ?_;intro i h hi';rw[e]at hc
    by_cases q:i=(lo+hi)/2
    ·subst q;lia
    ·have:=mono _ i hm h (by lia);lia
  ·rw[if_neg hlt];have:lo=hi:=by lia
   subst this;exact⟨ha,hb,h2⟩
def xM{xs:Array Nat}(hr:fR xs.toList):
  (∀i(h:i<xs.size),i<below xs j->xs[i]<j)/\(∀i(h:i<xs.size),below xs j<=i->j<=xs[i])/\below xs j<=xs.size:=
 z0l xs j hr xs.size 0 xs.size (gv _) (aq _) (by lia) (λi h hi=>absurd hi (by lia)) (λi h hi=>absurd h (by lia))
def OP{xs:Array Nat}(hr:fR xs.toList)(hm:j∈xs.toList):xs[below xs j]?=some j:=by
 let⟨h1,h2,h3⟩:=xM (j:=j) hr;let⟨i,hi,e⟩:=kr hm;have hi':i<xs.size:=by simpa using hi
 have e':xs[i]=j:=by simpa using e
 have hle:below xs j<=i:=by
  rcases ji i (below xs j)with q|q
  ·have:=h1 i hi' q;lia
  ·exact q
 have hb:below xs j<xs.size:=by lia
 have:=h2 (below xs j) hb (aq _);have mono:∀a b(ha:a<xs.size)(hb:b<xs.size),a<b->xs[a]<xs[b]:=by intro a b ha hb Ek;have:=ij.mp hr a b (by simpa using ha) (by simpa using hb) Ek;simpa using this
 have hE:below xs j=i:=by
  rcases ji (below xs j) i with q|q
  ·have:=mono _ _ hb hi' q;lia
  ·lia
 rw[gq hb]
 congr 1
 have:∀k(hk:k<xs.size),k=i->xs[k]=xs[i]:=by intro k hk e;subst e;rfl
 rw[this _ hb hE,e']
def z0m{xs:Array Nat}(hm:j∉xs.toList):(xs[below xs j]?==some j)=false:=by rw[beq_eq_false_iff_ne];intro e;let⟨h,e⟩:=dy.mp e;exact hm (by rw[<-e];simp)
def xN{α:Type}(xs:Array α)(p:Nat)(x:α)(hp:p<=xs.size):(insertAt xs p x).toList=xs.toList.take p++x::xs.toList.drop p:=by unfold insertAt;rw[Array.toList_append,Array.toList_push];simp[Array.toList_extract,um]
def z0n{xs:Array Nat}(hr:fR xs.toList)(hm:j∉xs.toList):fR (insertAt xs (below xs j) j).toList:=by
 let⟨h1,h2,h3⟩:=xM (j:=j) hr;rw[xN _ _ _ h3];unfold fR at hr⊢;have hlt:∀a∈xs.toList.take (below xs j),a<j:=by intro a ha;let⟨i,hi,e⟩:=kr ha;rw[jx]at hi;rw[List.getElem_take]at e;have:=h1 i (by simp at hi;lia) (by lia);simp at e;lia
 have hgt:∀a∈xs.toList.drop (below xs j),j<a:=by
  intro a ha;let⟨i,hi,e⟩:=kr ha;rw[pw]at hi;rw[List.getElem_drop]at e;have q:=h2 (below xs j+i) (by simp at hi;lia) (by lia);have ne:a≠j:=by rintro rfl;exact hm (qk ha)
  simp at e;lia
 rw[Ay];refine⟨hr.sublist (List.take_sublist _ _),?_,?_⟩
 ·rw[de];exact⟨hgt,hr.sublist (List.drop_sublist _ _)⟩
 ·intro a ha b hb
  rcases az.mp hb with rfl|hb
  ·exact hlt a ha
  ·have:=hlt a ha;have:=hgt b hb;lia
def oX(mask:Nat)(p:Probe):Probe:=
 if p.more>0 then{p with j:=p.j+1,more:=p.more-1} else
 {p with j:=(leap mask p.i p.perturb).1,more:=runEnd mask (leap mask p.i p.perturb).1-(leap mask p.i p.perturb).1,i:=(leap mask p.i p.perturb).1,perturb:=(leap mask p.i p.perturb).2}
def OQ(t:iw)(p:Probe):t.advance p=oX t.mask p:=by
 unfold SetTable.advance oX
 split<;>rfl
def st0(mask:Nat)(h:Int):Probe:={j:=bits h%(mask+1),more:=runEnd mask (bits h%(mask+1))-bits h%(mask+1),i:=bits h%(mask+1),perturb:=bits h,dummy:=none}
def dJ(mask:Nat)(h:Int):Nat->Probe
 |0=>st0 mask h
 |n+1=>oX mask (dJ mask h n)
def pr(mask:Nat)(h:Int)(n:Nat):Nat:=(dJ mask h n).j
def z0o(mask:Nat)(p:Probe):(oX mask p).dummy=p.dummy:=by unfold oX;split<;>rfl
theorem OR(mask:Nat)(h:Int):∀n,(dJ mask h n).dummy=none
 |0=>rfl
 |n+1=>by rw[dJ,z0o,OR mask h n]
def sD(mask i pt:Nat):Probe:={j:=i,more:=runEnd mask i-i,i:=i,perturb:=pt,dummy:=none}
def bs(mask:Nat)(h:Int):Nat->Nat×Nat
 |0=>(bits h%(mask+1),bits h)
 |L+1=>leap mask (bs mask h L).1 (bs mask h L).2
def z0p(mask i:Nat):runEnd mask i-i<=9:=by unfold runEnd;split<;>lia
theorem AV(mask:Nat)(h:Int)(i pt:Nat)(n:Nat)(e:dJ mask h n=sD mask i pt):∀k,k<=runEnd mask i-i->dJ mask h (n+k)={sD mask i pt with j:=i+k,more:=runEnd mask i-i-k}
 |0,_=>by rw[Nat.add_zero,e];rfl
 |k+1,hk=>by
  have ih:=AV mask h i pt n e k (by lia);rw[show n+(k+1)=(n+k)+1 from rfl,dJ,ih];unfold oX;rw[if_pos (show runEnd mask i-i-k>0 by lia)];simp[sD]
  lia
theorem OS(mask:Nat)(h:Int):∀L,∃n,n<=10*L/\dJ mask h n=sD mask (bs mask h L).1 (bs mask h L).2
 |0=>⟨0,by lia,rfl⟩
 |L+1=>by let⟨n,hn,e⟩:=OS mask h L;have r:=AV mask h _ _ n e (runEnd mask (bs mask h L).1-(bs mask h L).1) (aq _);have:=z0p mask (bs mask h L).1;refine⟨n+(runEnd mask (bs mask h L).1-(bs mask h L).1)+1,by lia,?_⟩;rw[dJ,r];unfold oX;rw[if_neg (by simp)];rfl
theorem OT(mask:Nat)(h:Int):∀L,(bs mask h L).2=bits h/32^L
 |0=>by simp[bs]
 |L+1=>by rw[bs];show(bs mask h L).2/32=_;rw[OT mask h L,Nat.div_div_eq_div_mul,Nat.pow_succ]
def z0q(h:Int):bits h<2^64:=by unfold bits;lia
def z0r(mask:Nat)(h:Int)(hL:13<=L):(bs mask h L).2=0:=by
 rw[OT];have h1:=z0q h;have h2:(32:Nat)^13<=32^L:=Nat.pow_le_pow_right (by decide) hL;have h3:(2:Nat)^64<32^13:=by decide
 exact Nat.div_eq_of_lt (by lia)
def fx(mask x:Nat):Nat:=(x*5+1)%(mask+1)
def qN(mask:Nat):Nat->Nat->Nat
 |0,x=>x
 |n+1,x=>qN mask n (fx mask x)
theorem OU(mask:Nat):∀n x,qN mask (n+1) x=fx mask (qN mask n x)
 |0,x=>rfl
 |n+1,x=>by rw[qN,OU mask n,qN]
theorem OV(mask:Nat)(h:Int):∀n,(bs mask h (13+n)).1=qN mask n (bs mask h 13).1
 |0=>rfl
 |n+1=>by rw[OU,<-OV mask h n,show 13+(n+1)=(13+n)+1 from rfl,bs];show((bs mask h (13+n)).1*5+1+(bs mask h (13+n)).2/32)%(mask+1)=_;rw[z0r mask h (by lia)];rfl
def uS(mask:Nat):Nat->Nat->Nat
 |0,_=>0
 |n+1,x=>2^x||| uS mask n (fx mask x)
theorem OW(mask j:Nat):∀n x,(uS mask n x).testBit j=true->∃k,k<n/\qN mask k x=j
 |0,x,h=>by simp[uS]at h
 |n+1,x,h=>by
  rw[uS,Nat.testBit_or,Bool.or_eq_true]at h
  rcases h with h|h
  ·rw[Nat.testBit_two_pow,decide_eq_true_eq]at h;exact⟨0,by lia,h⟩
  ·let⟨k,hk,e⟩:=OW mask j n _ h;exact⟨k+1,by lia,e⟩
def nM(mask:Nat):Prop:=mask=7∨mask=31∨mask=127
def OX(mask:Nat):Bool:=(ba (mask+1)).all λx=>uS mask (mask+1) x==2^(mask+1)-1
def z0s{mask:Nat}(g:nM mask):OX mask=true:=by rcases g with rfl|rfl|rfl<;>decide+kernel
def z0t{mask x j:Nat}(g:nM mask)(hx:x<=mask)(hj:j<=mask):∃k,k<=mask/\qN mask k x=j:=by
 have h1:=z0s g;unfold OX at h1;rw[dv]at h1;have h2:=h1 x (bx.mpr (by lia));rw[beq_iff_eq]at h2;have h3:(uS mask (mask+1) x).testBit j=true:=by rw[h2,Nat.testBit_two_pow_sub_one,decide_eq_true_eq];lia
 let⟨k,hk,e⟩:=OW mask j _ _ h3;exact⟨k,by lia,e⟩
def AW(a m:Nat):a%(m+1)<=m:=by
 have:=Nat.mod_lt a (show 0<m+1 by lia)
 lia
theorem z0u(mask:Nat)(h:Int):∀L,(bs mask h L).1<=mask
 |0=>AW _ _
 |L+1=>AW _ _
def OY{mask j:Nat}(g:nM mask)(h:Int)(hj:j<=mask):∃L,L<=13+mask/\(bs mask h L).1=j:=by let⟨k,hk,e⟩:=z0t g (z0u mask h 13) hj;exact⟨13+k,by lia,by rw[OV];exact e⟩
def z0v{mask j:Nat}(g:nM mask)(h:Int)(hj:j<=mask):∃n,n<10*turns mask/\pr mask h n=j:=by let⟨L,hL,e⟩:=OY g h hj;let⟨n,hn,e2⟩:=OS mask h L;refine⟨n,by unfold turns;lia,?_⟩;unfold pr;rw[e2];exact e
def OZ{mask i:Nat}(hi:i<=mask):runEnd mask i<=mask:=by unfold runEnd;split<;>lia
theorem O2{mask:Nat}(h:Int):∀n,(dJ mask h n).i<=mask/\(dJ mask h n).j+(dJ mask h n).more<=mask
 |0=>by
  have e:bits h%(mask+1)<=mask:=AW _ _;have:=OZ e;have:bits h%(mask+1)<=runEnd mask (bits h%(mask+1)):=by unfold runEnd;split<;>lia
  exact⟨e,by show bits h%(mask+1)+(runEnd mask (bits h%(mask+1))-bits h%(mask+1))<=mask;lia⟩
 |n+1=>by
  let⟨h1,h2⟩:=O2 (mask:=mask) h n;rw[dJ];unfold oX
  split
  ·exact⟨h1,by dsimp only;lia⟩
  ·dsimp only;have e:(leap mask (dJ mask h n).i (dJ mask h n).perturb).1<=mask:=AW _ _;have:=OZ e;have:(leap mask (dJ mask h n).i (dJ mask h n).perturb).1<=runEnd mask (leap mask (dJ mask h n).i (dJ mask h n).perturb).1:=by unfold runEnd;split<;>lia
   exact⟨e,by lia⟩
def GF{mask:Nat}(h:Int)(n:Nat):pr mask h n<=mask:=by have:=(O2 (mask:=mask) h n).2;unfold pr;lia
def Way(mask:Nat)(occ:Nat->Prop)(h:Int)(j:Nat):Prop:=∃n,pr mask h n=j/\∀m,m<n->occ (pr mask h m)
def Way.mono{mask:Nat}{occ occ':Nat->Prop}(w:Way mask occ h j)(k:∀x,occ x->occ' x):Way mask occ' h j:=let ⟨n,e,a⟩:=w;⟨n,e,λm hm=>k _ (a m hm)⟩
structure Ed(t:iw)(hs:y'):Prop where
 size:t.place.size=hs.length
 rise:fR t.place.toList
 nod:t.dummies=#[]
 bnd:∀j∈t.place.toList,j<=t.mask
 room:hs.length<=t.mask
 msk:nM t.mask
 way:∀(i:Nat)(h:Int)(j:Nat),hs[i]?=some h->t.place.toList[i]?=some j->Way t.mask (·∈t.place.toList) h j
 plain:t.plain=true
def Ed.fits(T:Ed t hs):t.fits hs.length=true:=by unfold SetTable.fits SetTable.fill;rw[T.nod,T.size];simpa using T.room
def Ed.gave(T:Ed t hs):t.gaveWay=false:=by
 unfold SetTable.gaveWay
 rcases T.msk with e|e|e<;>rw[e]<;>rfl
def O3(j:Nat):SetTable.has #[] j=false:=by unfold SetTable.has;simp
def Ed.slot_live(T:Ed t hs)(h:j∈t.place.toList):∃i,t.slot j=.live i/\t.place.toList[i]?=some j:=by refine⟨below t.place j,?_,by simpa using OP T.rise h⟩;unfold SetTable.slot;dsimp only;rw[OP T.rise h];simp
def Ed.slot_empty(T:Ed t hs)(h:j∉t.place.toList):t.slot j=.empty:=by unfold SetTable.slot;dsimp only;rw[z0m h,T.nod,O3];rfl
def Ed.empty_there(T:Ed t hs):∃j,j<=t.mask/\j∉t.place.toList:=by
 rcases sr (∃j,j<=t.mask/\j∉t.place.toList)with h|h
 ·exact h
 ·exfalso
  have h1:∀j,j∈ba (t.mask+1)->j∈t.place.toList:=by
   intro j hj
   rcases sr (j∈t.place.toList)with q|q
   ·exact q
   ·exact absurd ⟨j,by have:=bx.mp hj;lia,q⟩ h
  have h2:=(ud (n:=t.mask+1)).length_le_of_subset h1;rw[ki]at h2;have h3:t.place.toList.length=hs.length:=by rw[<-T.size];simp
  have:=T.room
  lia
theorem z0w{t:iw}{hs:y'}(T:Ed t hs)(hashAt:Nat->Int)(h:Int):∀(fuel n N:Nat),n<=N->N-n<fuel->pr t.mask h N∉t.place.toList->
  ∃m,n<=m/\m<=N/\(∀l,n<=l->l<m->pr t.mask h l∈t.place.toList/\∀i,t.place.toList[i]?=some (pr t.mask h l)->hashAt i≠h)/\
   ((pr t.mask h m∉t.place.toList/\probe.go t hashAt h fuel (dJ t.mask h n)=some (.empty (pr t.mask h m) none)) ∨
    (∃i,t.place.toList[i]?=some (pr t.mask h m)/\hashAt i=h/\probe.go t hashAt h fuel (dJ t.mask h n)=some (.candidate (pr t.mask h m) i (dJ t.mask h (m+1))))):=by
 intro fuel
 induction fuel with
 |zero=>intro n N _ h2 _;lia
 |succ f ih=>
  intro n N h1 h2 h3;have hj:(dJ t.mask h n).j=pr t.mask h n:=rfl
  rcases sr (pr t.mask h n∈t.place.toList)with hm|hm
  ·obtain⟨i,e1,e2⟩:=T.slot_live hm
   by_cases hh:hashAt i=h
   ·refine⟨n,aq _,h1,λl a b=>absurd a (by lia),.inr ⟨i,e2,hh,?_⟩⟩;rw[probe.go,hj,e1];dsimp only;rw[if_pos (beq_iff_eq.mpr hh),OQ];rfl
   ·have hne:n≠N:=by rintro rfl;exact h3 hm
    obtain⟨m,a1,a2,a3,a4⟩:=ih (n+1) N (by lia) (by lia) h3;have e3:probe.go t hashAt h (f+1) (dJ t.mask h n)=probe.go t hashAt h f (dJ t.mask h (n+1)):=by rw[probe.go,hj,e1];dsimp only;rw[if_neg (by intro q;exact hh (beq_iff_eq.mp q)),OQ];rfl
    refine⟨m,by lia,a2,λl b1 b2=>?_,by rw[e3];exact a4⟩
    rcases ji n l with q|q
    ·exact a3 l (by lia) b2
    ·have:l=n:=by lia
     subst this;refine⟨hm,λi' e'=>?_⟩;have:i'=i:=GD T.rise e' e2;subst this;exact hh
  ·refine⟨n,aq _,h1,λl a b=>absurd a (by lia),.inl ⟨hm,?_⟩⟩;rw[probe.go,hj,T.slot_empty hm];dsimp only;rw[OR]
def Ed.stops(T:Ed t hs)(h:Int):∃N,N<10*turns t.mask/\pr t.mask h N∉t.place.toList:=by let⟨j,hj,hn⟩:=T.empty_there;let⟨N,hN,e⟩:=z0v T.msk h hj;exact⟨N,hN,by rw[e];exact hn⟩
theorem Ed.before{t:iw}{hs:y'}(T:Ed t hs){h:Int}{i j m:Nat}(e1:hs[i]?=some h)(e2:t.place.toList[i]?=some j)(hm:pr t.mask h m∉t.place.toList):∃n,n<m/\pr t.mask h n=j:=by
 obtain⟨n,e,a⟩:=T.way i h j e1 e2;refine⟨n,?_,e⟩
 rcases ji n m with q|q
 ·exact q
 ·exfalso
  rcases ji m n with r|r
  ·exact hm (a m r)
  ·have:m=n:=by lia
   subst this;exact hm (by rw[e];exact cx e2)
def O4{xs:Array Nat}(hp:p<=xs.size):x∈(insertAt xs p j).toList↔x=j∨x∈xs.toList:=by
 rw[xN _ _ _ hp,cj,az];have e:x∈xs.toList↔x∈xs.toList.take p∨x∈xs.toList.drop p:=by rw[<-cj,Ao]
 rw[e];constructor
 ·rintro (a|a|a)
  ·exact .inr (.inl a)
  ·exact .inl a
  ·exact .inr (.inr a)
 ·rintro (a|a|a)
  ·exact .inr (.inl a)
  ·exact .inl a
  ·exact .inr (.inr a)
def z0x{t:iw}(hn:t.dummies=#[])(j:Nat):t.put j=({t with place:=insertAt t.place (below t.place j) j},below t.place j):=by unfold SetTable.put;dsimp only;rw[hn,O3];cases t;subst hn;rfl
def O5{α:Type}(l:List α)(x:α)(p i:Nat)(hp:p<=l.length):(l.take p++x::l.drop p)[i]?=if i<p then l[i]? else if i=p then some x else l[i-1]?:=by
 have hl:(l.take p).length=p:=by rw[jx];lia
 by_cases h1:i<p
 ·rw[if_pos h1,ey (by lia),zi h1]
 ·rw[if_neg h1,gh (by lia),hl]
  by_cases h2:i=p
  ·subst h2;rw[if_pos rfl,Nat.sub_self];rfl
  ·rw[if_neg h2];obtain⟨k,rfl⟩:∃k,i=p+(k+1):=⟨i-p-1,by lia⟩
   rw[show p+(k+1)-p=k+1 by lia,ub,List.getElem?_drop,show p+(k+1)-1=p+k by lia]
def Ed.put(T:Ed t hs)(hn:pr t.mask h n∉t.place.toList)(hw:∀m,m<n->pr t.mask h m∈t.place.toList)(hr:hs.length+1<=t.mask):
  Ed {t with place:=insertAt t.place (below t.place (pr t.mask h n)) (pr t.mask h n)} (hs.take (below t.place (pr t.mask h n))++h::hs.drop (below t.place (pr t.mask h n))):=by
 have hb:=(xM (j:=pr t.mask h n) T.rise).2.2;have hs':t.place.toList.length=hs.length:=by rw[<-T.size];simp
 have hlen:(hs.take (below t.place (pr t.mask h n))++h::hs.drop (below t.place (pr t.mask h n))).length=hs.length+1:=by
  rw[bw,di,jx,pw];have:=T.size
  lia
 refine⟨?_,z0n T.rise hn,T.nod,?_,?_,T.msk,?_,T.plain⟩
 ·show(insertAt t.place (below t.place (pr t.mask h n)) (pr t.mask h n)).size=_;rw[hlen];have:(insertAt t.place (below t.place (pr t.mask h n)) (pr t.mask h n)).toList.length=hs.length+1:=by
   rw[xN _ _ _ hb,bw,di,jx,pw,hs'];have:=T.size
   lia
  simpa using this
 ·intro j hj
  rcases(O4 hb).mp hj with rfl|hj
  ·exact GF h n
  ·exact T.bnd j hj
 ·rw[hlen];exact hr
 ·intro i h' j e1 e2;have Ge:(t.place.toList.take (below t.place (pr t.mask h n))++pr t.mask h n::t.place.toList.drop (below t.place (pr t.mask h n)))[i]?=some j:=by rw[<-xN _ _ _ hb];exact e2
  have Fb:below t.place (pr t.mask h n)<=hs.length:=by rw[<-T.size];exact hb
  rw[O5 _ _ _ _ Fb]at e1;rw[O5 _ _ _ _ (by rw[hs'];exact Fb)]at Ge;have mono:∀x,x∈t.place.toList->x∈(insertAt t.place (below t.place (pr t.mask h n)) (pr t.mask h n)).toList:=λx hx=>(O4 hb).mpr (.inr hx)
  by_cases q1:i<below t.place (pr t.mask h n)
  ·rw[if_pos q1]at e1 Ge;exact(T.way _ _ _ e1 Ge).mono mono
  ·rw[if_neg q1]at e1 Ge
   by_cases q2:i=below t.place (pr t.mask h n)
   ·rw[if_pos q2]at e1 Ge
    cases e1;cases Ge
    exact⟨n,rfl,λm hm=>mono _ (hw m hm)⟩
   ·rw[if_neg q2]at e1 Ge;exact(T.way _ _ _ e1 Ge).mono mono
def iX(owner:Array (Option Nat))(j:Nat):Prop:=(owner.getD j (some 0)).isSome=true
def O6{P:Nat->Bool}(h:(ba n).find? P=none):∀k,k<n->P k=false:=by intro k hk;have:=List.find?_eq_none.mp h k (bx.mpr hk);simpa using this
def z0y{P:Nat->Bool}:∀{n k:Nat},(ba n).find? P=some k->k<n/\P k=true/\∀l,l<k->P l=false:=by
 intro n
 induction n with
 |zero=>intro k h;simp at h
 |succ n ih=>
  intro k h;rw[uy,List.find?_append]at h
  cases q:(ba n).find? P with
  |some k'=>rw[q]at h;simp at h;subst h;let⟨a,b,c⟩:=ih q;exact⟨by lia,b,c⟩
  |none=>
   rw[q]at h
   by_cases hp:P n=true
   ·simp[hp]at h;subst h;exact⟨by lia,hp,λl hl=>O6 q l hl⟩
   ·simp[hp]at h
def z0z{mask:Nat}(e:dJ mask h n=sD mask (bs mask h L).1 (bs mask h L).2):dJ mask h (n+(runEnd mask (bs mask h L).1-(bs mask h L).1)+1)=sD mask (bs mask h (L+1)).1 (bs mask h (L+1)).2:=by have r:=AV mask h _ _ n e (runEnd mask (bs mask h L).1-(bs mask h L).1) (aq _);rw[dJ,r];unfold oX;rw[if_neg (by simp)];rfl
def z10{mask:Nat}:∀(fuel L n:Nat),dJ mask h n=sD mask (bs mask h L).1 (bs mask h L).2->(∀k,k<n->iX owner (pr mask h k))->
  (∃L',L<=L'/\L'<L+fuel/\¬iX owner (bs mask h L').1)->
  ∃n,layClean.free mask owner fuel (bs mask h L).1 (bs mask h L).2=some (pr mask h n)/\¬iX owner (pr mask h n)/\∀m,m<n->iX owner (pr mask h m):=by
 intro fuel
 induction fuel with
 |zero=>rintro L n _ _ ⟨L',a,b,_⟩;lia
 |succ f ih=>
  rintro L n e hb ⟨L',a1,a2,a3⟩
  have r:=AV mask h _ _ n e;have hle:(bs mask h L).1<=runEnd mask (bs mask h L).1:=by unfold runEnd;split<;>lia
  rw[layClean.free]
  cases q:(ba (runEnd mask (bs mask h L).1+1-(bs mask h L).1)).find? λk=>(owner.getD ((bs mask h L).1+k) (some 0)).isNone with
  |some k=>
   let⟨b1,b2,b3⟩:=z0y q;dsimp only;have ek:pr mask h (n+k)=(bs mask h L).1+k:=by unfold pr;rw[r k (by lia)]
   refine⟨n+k,by rw[ek],?_,λm hm=>?_⟩
   ·rw[ek];unfold iX;simp at b2;simp[b2]
   ·rcases ji m n with z|z
    ·exact hb m z
    ·obtain⟨l,rfl⟩:∃l,m=n+l:=⟨m-n,by lia⟩
     have el:pr mask h (n+l)=(bs mask h L).1+l:=by unfold pr;rw[r l (by lia)]
     rw[el];have:=b3 l (by lia);unfold iX
     cases w:owner.getD ((bs mask h L).1+l) (some 0)with
     |none=>rw[w]at this;simp at this
     |some _=>rfl
  |none=>
   dsimp only;have b:=O6 q;have hocc:∀l,l<=runEnd mask (bs mask h L).1-(bs mask h L).1->iX owner ((bs mask h L).1+l):=by
    intro l hl;have:=b l (by lia);unfold iX
    cases w:owner.getD ((bs mask h L).1+l) (some 0)with
    |none=>rw[w]at this;simp at this
    |some _=>rfl
   have hne:L≠L':=by
    rintro rfl
    exact a3 (by simpa using hocc 0 (by lia))
   refine ih (L+1) _ (z0z e) (λk hk=>?_) ⟨L',by lia,by lia,a3⟩
   rcases ji k n with z|z
   ·exact hb k z
   ·obtain⟨l,rfl⟩:∃l,k=n+l:=⟨k-n,by lia⟩
    have el:pr mask h (n+l)=(bs mask h L).1+l:=by unfold pr;rw[r l (by lia)]
    rw[el];exact hocc l (by lia)
structure LOk(mask:Nat)(hs:y')(owner:Array (Option Nat))(k:Nat):Prop where
 size:owner.size=mask+1
 own:∀(j i:Nat),owner[j]?=some (some i)->i<k/\∃h,hs[i]?=some h/\Way mask (iX owner) h j
 all:∀(i:Nat),i<k->∃j:Nat,owner[j]?=some (some i)
 inj:∀(j j' i:Nat),owner[j]?=some (some i)->owner[j']?=some (some i)->j=j'
def xO{owner:Array (Option Nat)}(hj:j<owner.size):iX owner j↔∃i,owner[j]?=some (some i):=by
 unfold iX;rw[gq hj];simp only[lr,hj,dif_pos,Array.getInternal_eq_getElem,zg]
 cases owner[j]<;>simp
def LOk.free{mask k:Nat}(O:LOk mask hs owner k)(hk:k<=mask):∃j,j<=mask/\¬iX owner j:=by
 rcases sr (∃j,j<=mask/\¬iX owner j)with h|h
 ·exact h
 ·exfalso
  have h1:∀j,j<=mask->∃i,owner[j]?=some (some i):=λj hj=>by
   rcases sr (iX owner j)with q|q
   ·exact(xO (by rw[O.size];lia)).mp q
   ·exact absurd ⟨j,hj,q⟩ h
  let f:Nat->Nat:=λj=>match owner[j]? with|some (some i)=>i|_=>0
  have hf:∀j,j<=mask->owner[j]?=some (some (f j)):=λj hj=>by let⟨i,e⟩:=h1 j hj;show owner[j]?=some (some (match owner[j]? with|some (some i)=>i|_=>0));rw[e]
  have nd:((ba (mask+1)).map f).Nodup:=by rw[yu];rw[sv];refine wx ?_ (ud (n:=mask+1));intro a b ha hb Ek e;have ea:=hf a (by have:=bx.mp ha;lia);have eb:=hf b (by have:=bx.mp hb;lia);rw[e]at ea;exact Ek (O.inj _ _ _ ea eb)
  have sub:∀x,x∈(ba (mask+1)).map f->x∈ba k:=by intro x hx;obtain⟨j,hj,rfl⟩:=cf.mp hx;exact bx.mpr (O.own j _ (hf j (by have:=bx.mp hj;lia))).1
  have:=nd.length_le_of_subset sub;simp at this
  lia
def LOk.step{mask k:Nat}(g:nM mask)(O:LOk mask hs owner k)(hk:k<=mask)(hh:hs[k]?=some h):
  ∃j,layClean.free mask owner (turns mask) (bits h%(mask+1)) (bits h)=some j/\LOk mask hs (owner.setIfInBounds j (some k)) (k+1):=by
 let⟨j0,hj0,hn0⟩:=O.free hk;let⟨L,hL,eL⟩:=OY g h hj0;let⟨n,e,hn,hw⟩:=z10 (mask:=mask) (h:=h) (owner:=owner) (turns mask) 0 0 rfl (λk hk=>absurd hk (by lia)) ⟨L,by lia,by unfold turns;lia,by rw[eL];exact hn0⟩;refine⟨pr mask h n,e,?_⟩;have hjl:pr mask h n<owner.size:=by rw[O.size];have:=GF (mask:=mask) h n;lia
 have hjn:owner[pr mask h n]?=some none:=by
  rw[gq hjl];have:¬∃i,owner[pr mask h n]?=some (some i):=λq=>hn ((xO hjl).mpr q)
  cases w:owner[pr mask h n]with
  |none=>rfl
  |some i=>exact absurd ⟨i,by rw[gq hjl,w]⟩ this
 have get:∀j,(owner.setIfInBounds (pr mask h n) (some k))[j]?=if pr mask h n=j then some (some k)else owner[j]?:=by
  intro j;rw[Array.getElem?_setIfInBounds]
  by_cases q:pr mask h n=j
  ·rw[if_pos q,if_pos q,if_pos hjl]
  ·rw[if_neg q,if_neg q]
 have Cv:(owner.setIfInBounds (pr mask h n) (some k)).size=mask+1:=by rw[Array.size_setIfInBounds];exact O.size
 have occm:∀x,iX owner x->iX (owner.setIfInBounds (pr mask h n) (some k)) x:=by
  intro x hx
  by_cases hl:x<owner.size
  ·let⟨i,e⟩:=(xO hl).mp hx;refine(xO (by rw[Cv,<-O.size];exact hl)).mpr ?_;rw[get]
   by_cases q:pr mask h n=x
   ·exact⟨k,if_pos q⟩
   ·exact⟨i,by rw[if_neg q];exact e⟩
  ·unfold iX;simp[lr,hl]
 refine⟨Cv,?_,?_,?_⟩
 ·intro j i e;rw[get]at e
  by_cases q:pr mask h n=j
  ·rw[if_pos q]at e;cases e;exact⟨by lia,h,hh,n,q,λm hm=>occm _ (hw m hm)⟩
  ·rw[if_neg q]at e;let⟨a,h',b,c⟩:=O.own j i e;exact⟨by lia,h',b,c.mono occm⟩
 ·intro i hi
  by_cases q:i=k
  ·subst q;exact⟨pr mask h n,by rw[get,if_pos rfl]⟩
  ·let⟨j,e⟩:=O.all i (by lia);refine⟨j,?_⟩;rw[get]
   by_cases z:pr mask h n=j
   ·rw[<-z,hjn]at e;cases e
   ·rw[if_neg z];exact e
 ·intro j j' i e e';rw[get]at e e'
  by_cases z:pr mask h n=j
  ·rw[if_pos z]at e;cases e
   by_cases z':pr mask h n=j'
   ·exact z.symm.trans z'
   ·rw[if_neg z']at e';have:=(O.own j' _ e').1
    lia
  ·rw[if_neg z]at e
   by_cases z':pr mask h n=j'
   ·rw[if_pos z']at e';cases e';have:=(O.own j _ e).1
    lia
   ·rw[if_neg z']at e';exact O.inj _ _ _ e e'
theorem O7{mask:Nat}{hs:y'}(g:nM mask)(hl:hs.length<=mask):∀(l pre:y')(owner:Array (Option Nat)),hs=pre++l->LOk mask hs owner pre.length->
  ∃owner',l.foldl (λ(acc:Option (Array (Option Nat)×Nat))h=>do
    let (owner,k) <-acc
    let j <-layClean.free mask owner (turns mask) (bits h%(mask+1)) (bits h)
    pure (owner.setIfInBounds j (some k),k+1)) (some (owner,pre.length))=some (owner',hs.length)/\LOk mask hs owner' hs.length
 |[],pre,owner,e,O=>by rw[nv]at e;subst e;exact⟨owner,rfl,O⟩
 |h::l,pre,owner,e,O=>by
  have hh:hs[pre.length]?=some h:=by rw[e];simp
  obtain⟨j,e1,O1⟩:=O.step g (by rw[e]at hl;simp at hl;lia) hh;have e2:hs=(pre++[h])++l:=by rw[e];simp
  have hlen:(pre++[h]).length=pre.length+1:=by simp
  obtain⟨o',a,b⟩:=O7 g hl l (pre++[h]) _ e2 (by rw[hlen];exact O1);refine⟨o',?_,b⟩;rw[List.foldl_cons];rw[<-a,hlen]
  congr 1
  show(do let j <-layClean.free mask owner (turns mask) (bits h%(mask+1)) (bits h);pure (owner.setIfInBounds j (some pre.length),pre.length+1))=_;rw[e1];rfl
def z11{mask:Nat}{hs:Array Int}(g:nM mask)(hl:hs.size<=mask):∃owner,layClean mask hs=some owner/\LOk mask hs.toList owner hs.size:=by
 have O0:LOk mask hs.toList (Array.replicate (mask+1) none) 0:=by
  refine⟨by simp,?_,λi hi=>absurd hi (by lia),?_⟩
  ·intro j i e;rw[ze]at e
   split at e<;>simp at e
  ·intro j j' i e;rw[ze]at e
   split at e<;>simp at e
 let⟨o',a,b⟩:=O7 g (by simpa using hl) hs.toList [] _ rfl O0;refine⟨o',?_,by simpa using b⟩;unfold layClean;rw[<-Array.foldl_toList];simp only[og]at a;rw[a];rfl
def Way.mono'{mask:Nat}{occ occ':Nat->Prop}(w:Way mask occ h j)(k:∀x,x<=mask->occ x->occ' x):Way mask occ' h j:=let ⟨n,e,a⟩:=w;⟨n,e,λm hm=>k _ (GF h m) (a m hm)⟩
theorem O8(g:Nat->Option Nat):∀(l:A'),l.Pairwise (·<·)->((l.filterMap λj=>(g j).map ((j,·):Nat->Nat×Nat)).map ff).Pairwise (·<·)
 |[],_=>by simp
 |j::l,h=>by
  rw[de]at h;have ih:=O8 g l h.2
  cases e:g j with
  |none=>simpa[ck,e]using ih
  |some i=>
   simp only[ck,e,Option.map_some,da,de];refine⟨?_,ih⟩;intro a ha;obtain⟨⟨x,y⟩,hp,rfl⟩:=cf.mp ha;let⟨z,hz,ez⟩:=ka.mp hp
   cases q:g z with
   |none=>rw[q]at ez;simp at ez
   |some i'=>
    rw[q]at ez;simp at ez;have:=h.1 z hz
    lia
def z12{mask finger moves:Nat}{led:Bool}{hs:Array Int}(g:nM mask)(hl:hs.size<=mask):
  ∃t order,laid mask finger moves led true hs=some (t,order)/\t.mask=mask/\t.led=led/\order.toList.Perm (ba hs.size)/\Ed t (order.toList.filterMap (hs.toList[·]?)):=by
 let⟨owner,e,O⟩:=z11 g hl;generalize hlive:(ba (mask+1)).filterMap (λj=>(owner.getD j none).map ((j,·):Nat->Nat×Nat))=live;have Eb:∀j i,(j,i)∈live↔owner[j]?=some (some i):=by
  intro j i;rw[<-hlive,ka];constructor
  ·rintro ⟨x,hx,ex⟩
   have Fz:x<owner.size:=by rw[O.size];exact bx.mp hx
   have eg:owner.getD x none=owner[x]:=by simp[lr,Fz]
   rw[eg]at ex
   cases q:owner[x]with
   |none=>rw[q]at ex;simp at ex
   |some i'=>rw[q]at ex;simp at ex;obtain⟨rfl,rfl⟩:=ex;rw[gq Fz,q]
  ·intro h;let⟨Fz,q⟩:=dy.mp h;refine⟨j,bx.mpr (by rw[<-O.size];exact Fz),?_⟩;have eg:owner.getD j none=owner[j]:=by simp[lr,Fz]
   rw[eg,q];rfl
 have hrise:(live.map ff).Pairwise (·<·):=by rw[<-hlive];exact O8 _ _ (pb)
 have Dz:(live.map gu).Perm (ba hs.size):=by
  refine(ni ?_ ud).mpr ?_
  ·rw[yu,sv];rw[sv]at hrise;refine wx ?_ hrise
   rintro ⟨a,i⟩ ⟨b,i'⟩ ha hb Ek e
   have e':i=i':=e;subst e';have:=O.inj a b i ((Eb _ _).mp ha) ((Eb _ _).mp hb);have hab':a<b:=Ek
   lia
  ·intro i;rw[bx];constructor
   ·intro h;obtain⟨⟨j,i'⟩,hp,rfl⟩:=cf.mp h;exact(O.own j i' ((Eb _ _).mp hp)).1
   ·intro h;let⟨j,ej⟩:=O.all i h;exact cf.mpr ⟨(j,i),(Eb _ _).mpr ej,rfl⟩
 have hlen:live.length=hs.size:=by simpa using Dz.length_eq
 have hget:∀(i:Nat),((live.map gu).filterMap (hs.toList[·]?))[i]?=(live[i]?).bind λp=>hs.toList[p.2]?:=by
  have gen:∀(l:List (Nat×Nat)),(∀p∈l,p.2<hs.toList.length)->∀(i:Nat),((l.map gu).filterMap (hs.toList[·]?))[i]?=(l[i]?).bind λp=>hs.toList[p.2]?:=by
   intro l
   induction l with
   |nil=>intro _ i;simp
   |cons p l ih=>
    intro hp i;have h1:=hp p (bh ..);have e1:hs.toList[p.2]?=some hs.toList[p.2]:=bj h1;rw[da,ck,e1]
    cases i with
    |zero=>simp[e1]
    |succ i=>simp only[ub];exact ih (λq hq=>hp q (au _ hq)) i
  intro i;refine gen live ?_ i
  rintro ⟨j,k⟩ hp
  have:=(O.own j k ((Eb _ _).mp hp)).1;simpa using this
 have hlen':((live.map gu).filterMap (hs.toList[·]?)).length=hs.size:=by
  have gen:∀(l:List (Nat×Nat)),(∀p∈l,p.2<hs.toList.length)->((l.map gu).filterMap (hs.toList[·]?)).length=l.length:=by
   intro l
   induction l with
   |nil=>intro _;rfl
   |cons p l ih=>intro hp;have h1:=hp p (bh ..);have e1:hs.toList[p.2]?=some hs.toList[p.2]:=bj h1;rw[da,ck,e1];show(_::_).length=_;rw[di,di,ih (λq hq=>hp q (au _ hq))]
  rw[gen live ?_,hlen]
  rintro ⟨j,k⟩ hp
  have:=(O.own j k ((Eb _ _).mp hp)).1;simpa using this
 refine⟨{mask,place:=(live.map ff).toArray,dummies:=#[],finger,led,moves,plain:=true},(live.map gu).toArray,?_,rfl,rfl,Dz,?_⟩
 ·unfold laid;rw[e];show some _=some _;rw[hlive]
 ·refine⟨(by show(live.map ff).toArray.size=((live.map gu).filterMap (hs.toList[·]?)).length;rw[hlen',ax,bo,hlen]),hrise,rfl,?_,by rw[hlen'];exact hl,g,?_,rfl⟩
  ·intro j hj;obtain⟨⟨x,y⟩,hp,rfl⟩:=cf.mp (show j∈live.map ff from hj);have:=(Eb _ _).mp hp;let⟨Fz,_⟩:=dy.mp this;have:=O.size;show x<=mask
   lia
  ·intro i h j e1 e2;have e1':((live.map gu).filterMap (hs.toList[·]?))[i]?=some h:=e1;rw[hget]at e1';have Ge:(live.map ff)[i]?=some j:=e2;rw[du]at Ge
   cases q:live[i]? with
   |none=>rw[q]at Ge;cases Ge
   |some p=>
    let⟨x,k⟩:=p;rw[q]at e1' Ge;simp at e1' Ge;subst Ge;have hp:=cx q;let⟨a,h',b,c⟩:=O.own x k ((Eb _ _).mp hp);have hh:h'=h:=by
     have:hs.toList[k]?=some h:=by simpa using e1'
     rw[b]at this;exact cw this
    subst hh;refine c.mono' λy hy ho=>?_;let⟨i',ei⟩:=(xO (by rw[O.size];lia)).mp ho;exact cf.mpr ⟨(y,i'),(Eb _ _).mpr ei,rfl⟩
end SM
namespace SR
variable{prog:bp}{w:cm}{A:cb}{E:af->ag->Prop}{s:ag}
open SM
section
variable{prog:bp}{w:cm}
def hk(prog:bp)(w:cm)(k:y'):Int:=tupleKeyHash (intKind prog w) k
abbrev KB:=List (y'×ah)
def iC(prog:bp)(w:cm)(kb:KB):List (Int×af):=kb.map λp=>(hk prog w p.1,iu p.2)
structure Ca(prog:bp)(w:cm)(h:cu)(a:ah)(kb:KB)(o:Obj)(es:Array (Int×af))(ep:Nat)(t:iw):Prop where
 obj:h.get? a=some o
 ex:o.ExactSet
 data:o.data=.set es ep t
 es:es.toList=iC prog w kb
 tab:Ed t (kb.map λp=>hk prog w p.1)
 nd:(kb.map ff).Nodup
 nf:kb.length*5<t.mask*3
 led:t.led=!w.params.followText "set-order"
def mH(prog:bp)(w:cm)(h:cu)(a:ah)(kb:KB):Prop:=∃o es ep t,Ca prog w h a kb o es ep t
def AX(prog:bp)(w:cm)(h:cu)(kb:KB):Prop:=∀p∈kb,gz (intKind prog w) h p.1 p.2
variable{h:cu}{a:ah}{kb:KB}{o:Obj}{es:Array (Int×af)}{ep:Nat}{t:iw}
def Ca.size(P:Ca prog w h a kb o es ep t):es.size=kb.length:=by have:=congrArg qi P.es;simpa[iC]using this
def Ca.fits(P:Ca prog w h a kb o es ep t):t.fits es.size=true:=by have:=P.tab.fits;rw[bo]at this;rw[P.size];exact this
theorem Ca.at_(P:Ca prog w h a kb o es ep t){i:Nat}{p:y'×ah}(e:kb[i]?=some p):es[i]?=some (hk prog w p.1,.ref p.2):=by
 have:es.toList[i]?=some (hk prog w p.1,iu p.2):=by rw[P.es];simp[iC,e]
 simpa using this
theorem Ca.hash_at(P:Ca prog w h a kb o es ep t){i:Nat}{p:y'×ah}(e:kb[i]?=some p):(es[i]?.map (·.1)).getD 0=hk prog w p.1:=by rw[P.at_ e];rfl
end
section
variable{a:ah}{kb:KB}{o:Obj}{es:Array (Int×af)}{ep:Nat}{t:iw}
def O9{Q:Bool->ag->Prop}(hb:gz (intKind prog w) s.heap ks b)(h:Q false s):wpAny (model prog w) A (ofAClassStatement 8 (.ref b)) Q E s:=by
 let⟨o,items,n,ho,hc,hd,hi⟩:=hb;unfold ofAClassStatement;refine aa (oh (T:="tuple") ⟨o,ho,hc⟩ ?_);show wpAny _ _ ((if(("tuple":String)=="tuple")=true then(pure true:Sem Bool)else isSubtype (.type "tuple") (.type "tuple")) >>=_) _ _ s;rw[if_pos (by decide)];refine aa (ak ?_);simp only[qg,cy,if_false];refine aa (jt ho hd ?_);refine aa ?_;show wpAny _ _ (forIn items _ _) _ _ s;rw[<-Be];refine qr _ (λrest r s'=>r.1=none/\s'=s/\∀v∈rest,carriedByValue v=true) _ ?_ ?_ _ _ ⟨rfl,rfl,hi.byValue⟩
 ·rintro v rest r s' ⟨hr,rfl,hall⟩
  have hv:=hall v bh;have e:ofAClassStatement 7 v=pure false:=by
   cases v with
   |ref a=>simp[carriedByValue]at hv
   |_=>rfl
  rw[e];refine aa (ak ?_);simp only[cy,if_false];exact ak ⟨rfl,rfl,λu Ce=>hall u (au _ Ce)⟩
 ·rintro ⟨r1,r2⟩ s' ⟨hr,rfl,_⟩
  simp only at hr;subst hr;exact ak h
def z13{Q:Bool->ag->Prop}(hb:gz (intKind prog w) s.heap k b):∀(l:List af),(∀y∈l,∃k' b',y=.ref b'/\gz (intKind prog w) s.heap k' b')->Q false s->
  wpAny (model prog w) A (searchCouldBeSeen (.ref b) l) Q E s:=by
 intro l hl h;unfold searchCouldBeSeen;refine aa ?_;refine qr _ (λrest r s'=>r.1=none/\s'=s/\∀y∈rest,∃k' b',y=.ref b'/\gz (intKind prog w) s.heap k' b') _ ?_ ?_ _ _ ⟨rfl,rfl,hl⟩
 ·rintro y rest r s' ⟨hr,rfl,hall⟩
  obtain⟨k',b',rfl,hb'⟩:=hall y bh;have fin:r.1=none/\s'=s'/\∀y∈rest,∃k' b',y=.ref b'/\gz (intKind prog w) s'.heap k' b':=⟨hr,rfl,λu hu=>hall u (au _ hu)⟩
  dsimp only
  split
  ·exact ak ⟨rfl,rfl,fin.2.2⟩
  ·refine aa (wpAny_eqIsQuiet_tuple hb ?_);simp only[qg,cy,if_false];refine aa (wpAny_eqIsQuiet_tuple hb' ?_);simp only[qg,cy,if_false];refine aa (O9 hb ?_);simp only[cy,if_false];refine aa (O9 hb' ?_);simp only[cy,if_false];exact ak ⟨rfl,rfl,fin.2.2⟩
 ·rintro ⟨r1,r2⟩ s' ⟨hr,rfl,_⟩
  simp only at hr;subst hr;exact ak h
end
section
variable{a:ah}{kb:KB}{o:Obj}{es:Array (Int×af)}{ep:Nat}{t:iw}{k:y'}{b:ah}
def mem_keys{kb:KB}:k∈kb.map ff↔∃(i:Nat)(b:ah),kb[i]?=some (k,b):=by
 constructor
 ·intro h;obtain⟨⟨k',b⟩,hp,rfl⟩:=cf.mp h;let⟨i,hi,e⟩:=kr hp;exact⟨i,b,by rw[bj hi,e]⟩
 ·rintro ⟨i,b,e⟩
  exact cf.mpr ⟨(k,b),cx e,rfl⟩
def z14(P:Ca prog w s.heap a kb o es ep t)(T:AX prog w s.heap kb)(hb:gz (intKind prog w) s.heap k b)(hu:A.units<cLine){Q:SetFound->ag->Prop}(Dq:k∈kb.map ff->Q (.there none) s)(Dc:k∉kb.map ff->∀n,pr t.mask (hk prog w k) n∉t.place.toList->(∀m,m<n->pr t.mask (hk prog w k) m∈t.place.toList)->Q (.free (pr t.mask (hk prog w k) n) false) s)(N:Nat)(hN:N<10*uq t.mask)(hNe:pr t.mask (hk prog w k) N∉t.place.toList):
  ∀(fuel n:Nat)(stand:Option SetTable.Probe),stand.getD (t.probeStart (hk prog w k))=dJ t.mask (hk prog w k) n->n<=N->N-n<fuel->
   (∀l,l<n->pr t.mask (hk prog w k) l∈t.place.toList/\∀(i:Nat)p,t.place.toList[i]?=some (pr t.mask (hk prog w k) l)->kb[i]?=some p->p.1≠k)->
   wpAny (model prog w) A (setSearchFrom a (.ref b) (hk prog w k) true fuel stand) Q E s:=by
 intro fuel
 induction fuel with
 |zero=>intro n stand _ _ h2;lia
 |succ f ih=>
  intro n stand F' h1 h2 hseen;have hlen:t.place.toList.length=kb.length:=by have:=P.tab.size;simpa using this
  have kbat:∀{i j:Nat},t.place.toList[i]?=some j->∃p,kb[i]?=some p:=λ{i j}e=>by let⟨hi,_⟩:=bf.mp e;exact⟨kb[i]'(by lia),bj (by lia)⟩
  unfold setSearchFrom;refine aa (ju P.obj P.data P.fits ?_);dsimp only;rw[P.tab.gave];simp only[cy,if_false];let⟨m,a1,a2,a3,a4⟩:=z0w P.tab (λi=>(es[i]?.map (·.1)).getD 0) (hk prog w k) (10*uq t.mask) n N h1 (by lia) hNe;have pass:∀l,l<m->pr t.mask (hk prog w k) l∈t.place.toList/\∀(i:Nat)p,t.place.toList[i]?=some (pr t.mask (hk prog w k) l)->kb[i]?=some p->p.1≠k:=by
   intro l hl
   rcases ji l n with q|q
   ·exact hseen l q
   ·let⟨b1,b2⟩:=a3 l q hl;refine⟨b1,λi p e1 e2 e3=>b2 i e1 ?_⟩;show(es[i]?.map (·.1)).getD 0=_;rw[P.hash_at e2,e3]
  rcases a4 with⟨b1,b2⟩|⟨i,b1,b2,b3⟩
  ·have e:∀g:Nat->Int,g=(λi=>(es[i]?.map (·.1)).getD 0)->t.probe g (hk prog w k) (stand.getD (t.probeStart (hk prog w k)))=some (.empty (pr t.mask (hk prog w k) m) none):=by rintro g rfl;rw[F'];exact b2
   rw[e]
   rotate_left
   ·rfl
   refine ak (Dc ?_ m b1 λl hl=>(pass l hl).1);intro Eb;let⟨i,b',ei⟩:=mem_keys.mp Eb;obtain⟨j,ej⟩:∃j,t.place.toList[i]?=some j:=by let⟨hi,_⟩:=bf.mp ei;exact⟨_,bj (by lia)⟩
   let⟨n',hn',e'⟩:=P.tab.before (i:=i) (h:=hk prog w k) (by rw[du,ei];rfl) ej b1;exact(pass n' hn').2 i (k,b') (by rw[e'];exact ej) ei rfl
  ·have e:∀g:Nat->Int,g=(λi=>(es[i]?.map (·.1)).getD 0)->t.probe g (hk prog w k) (stand.getD (t.probeStart (hk prog w k)))=some (.candidate (pr t.mask (hk prog w k) m) i (dJ t.mask (hk prog w k) (m+1))):=by rintro g rfl;rw[F'];exact b3
   rw[e]
   rotate_left
   ·rfl
   dsimp only;let⟨p,ep'⟩:=kbat b1;have hp:=T p (cx ep');have es1:t.sameMemory t.moves t.mask=some true:=by unfold SetTable.sameMemory;simp
   let⟨i2,e2,e3⟩:=P.tab.slot_live (cx b1);have hi2:i2=i:=GD P.tab.rise e3 b1;subst hi2;have nxt:¬p.1=k->wpAny (model prog w) A (setSearchFrom a (.ref b) (hk prog w k) true f (some (dJ t.mask (hk prog w k) (m+1)))) Q E s:=by
    intro hpk;have hmN:m≠N:=by rintro rfl;exact hNe (cx b1)
    refine ih (m+1) _ rfl (by lia) (by lia) ?_
    ·intro l hl
     rcases ji l m with q|q
     ·exact pass l q
     ·have:l=m:=by lia
      subst this;refine⟨cx b1,λi' p' z1 z2=>?_⟩;have:i'=i2:=GD P.tab.rise z1 b1;subst this;rw[ep']at z2;cases z2;exact hpk
   cases hl:t.led
   case' true=>simp only[qg,cy,if_false]
   case' false=>
    simp only[Bool.not_false,if_true];refine aa (z13 hb _ ?_ ?_)
    ·intro y hy;obtain⟨e1,he1,rfl⟩:=cf.mp hy;have Eh:=(Array.mem_filter.mp (Ap.mp he1)).1;have he3:e1∈iC prog w kb:=by rw[<-P.es];exact Ap.mpr Eh
     obtain⟨q,hq,rfl⟩:=cf.mp he3;exact⟨q.1,q.2,rfl,T q hq⟩
    simp only[cy,if_false]
   all_goals
    rw[P.at_ ep'];dsimp only;refine aa (gy (wpAny_eqBool_tuple hu hp hb ?_));refine aa (ju P.obj P.data P.fits ?_);dsimp only
    by_cases hpk:p.1=k
    ·rw[decide_eq_true hpk];simp only[wg,if_true];exact ak (Dq (mem_keys.mpr ⟨i2,p.2,by rw[ep',<-hpk]⟩))
    ·rw[decide_eq_false hpk];simp only[rj,cy,if_false];rw[es1];dsimp only;simp only[if_true];rw[e2];dsimp only;rw[P.at_ ep'];dsimp only;refine aa (wpAny_isSame_ref_self ?_);refine aa (ak ?_);simp only[if_true];exact nxt hpk
def z15(P:Ca prog w s.heap a kb o es ep t)(T:AX prog w s.heap kb)(hb:gz (intKind prog w) s.heap k b)(hu:A.units<cLine){Q:SetFound->ag->Prop}(Dq:k∈kb.map ff->Q (.there none) s)(Dc:k∉kb.map ff->∀n,pr t.mask (hk prog w k) n∉t.place.toList->(∀m,m<n->pr t.mask (hk prog w k) m∈t.place.toList)->Q (.free (pr t.mask (hk prog w k) n) false) s):
  wpAny (model prog w) A (setSearch a (.ref b) (hk prog w k) true) Q E s:=by
 let⟨N,hN,hNe⟩:=P.tab.stops (hk prog w k);have hm:10*uq t.mask<=1420:=by
  unfold uq
  rcases P.tab.msk with e|e|e<;>rw[e]<;>decide
 exact z14 P T hb hu Dq Dc N hN hNe 100000 0 none rfl (gv _) (by lia) λl hl=>absurd hl (by lia)
theorem z16{Q:Bool->ag->Prop}(hb:gz (intKind prog w) s.heap k b)(h:Q true s):wpAny (model prog w) A (hashByValue 8 (.ref b)) Q E s:=by
 have hT:=hb.typeIs;obtain⟨o,items,n,ho,hc,hd,hi⟩:=hb;unfold hashByValue;refine aa (wpAny_specialOf hT F.slot_tuple_hash.lookup ?_);dsimp only;refine aa (jt ho hd ?_);refine aa ?_;show wpAny _ _ (forIn items _ _) _ _ s;rw[<-Be];have hv:∀v∈items.toList,∃i t,v=.int i t:=by
  clear hd ho
  generalize items.toList=l at hi
  induction hi with
  |nil=>intro v h;cases h
  |cons h1 _ ih=>
   intro v hv
   rcases az.mp hv with rfl|hv
   ·obtain⟨t,e⟩:=oq h1;exact⟨_,t,e⟩
   ·exact ih v hv
 refine qr _ (λrest r s'=>r.1=none/\s'=s/\∀v∈rest,∃i t,v=.int i t) _ ?_ ?_ _ _ ⟨rfl,rfl,hv⟩
 ·rintro v rest r s' ⟨hr,rfl,hall⟩
  obtain⟨i,t,rfl⟩:=hall v bh;refine aa (ak ?_);simp only[qg,cy,if_false];exact ak ⟨rfl,rfl,λu Ce=>hall u (au _ Ce)⟩
 ·rintro ⟨r1,r2⟩ s' ⟨hr,rfl,_⟩
  simp only at hr;subst hr;exact ak h
end
section
variable{a:ah}{kb:KB}{o:Obj}{es:Array (Int×af)}{ep:Nat}{t:iw}{k:y'}{b:ah}
def z17(p:Nat):(iC prog w kb).take p++(hk prog w k,iu b)::(iC prog w kb).drop p=iC prog w (kb.take p++(k,b)::kb.drop p):=by simp[iC,zl,wj]
def z18(p:Nat):(kb.map λq=>hk prog w q.1).take p++hk prog w k::(kb.map λq=>hk prog w q.1).drop p=(kb.take p++(k,b)::kb.drop p).map λq=>hk prog w q.1:=by simp[zl,wj]
def qJ{α:Type}(l:List α)(x:α)(p:Nat):(l.take p++x::l.drop p).Perm (x::l):=by have h:(l.take p++x::l.drop p).Perm (x::(l.take p++l.drop p)):=List.perm_middle;rwa [Ao]at h
theorem GG{p:Nat}(h:(kb.map ff).Nodup)(hk:k∉kb.map ff):((kb.take p++(k,b)::kb.drop p).map ff).Nodup:=by have q:=(qJ kb (k,b) p).map ff;exact q.nodup_iff.mpr (jr.mpr ⟨hk,h⟩)
theorem PB{es':Array (Int×af)}{t':iw}(hd:o.data=.set es ep t)(ho:s.heap.get? a=some o):(s.heap.update a (Obj.putSet es' t')).get? a=some {o with data:=.set es' (ep+1) t'}:=by have:=ph (Obj.putSet es' t') ho (by rw[putSet_of es' t' hd];rfl);rw[putSet_of es' t' hd]at this;exact this
theorem PC{α:Type}:∀(l:List α),(ba l.length).filterMap (λi=>l[i]?)=l
 |[]=>rfl
 |x::l=>by
  rw[di,zw,ck];simp only[List.getElem?_cons_zero,List.filterMap_map]
  congr 1
  exact PC l
theorem PD{kb:KB}{mask' wanted:Nat}{Q:Unit->ag->Prop}(ho:s.heap.get? a=some o)(hex:o.ExactSet)(hd:o.data=.set es ep t)(hes:es.toList=iC prog w kb)(hT:Ed t (kb.map λp=>hk prog w p.1))(nd:(kb.map ff).Nodup)(hled:t.led=!w.params.followText "set-order")(hw:Ab wanted-1=mask')(hg:nM mask')(hl:kb.length*5<mask'*3)(hz:Ab wanted<=cg)(h:∀h' Ex,je a s.heap h'->mH prog w h' a Ex->Ex.Perm kb->Q () {s with heap:=h'}):
  wpAny (model prog w) A (setRelay a wanted) Q E s:=by
 have Cv:es.size=kb.length:=by have:=congrArg qi hes;simpa[iC]using this
 have hfit:t.fits es.size=true:=by have:=hT.fits;rw[bo]at this;rw[Cv];exact this
 have eh:(es.map (·.1)).toList=kb.map λp=>hk prog w p.1:=by rw[Array.toList_map,hes];simp[iC]
 have hs':(es.map (·.1)).size=kb.length:=by simp[Cv]
 unfold setRelay;refine aa (ju ho hd hfit ?_);dsimp only;rw[if_neg (by lia)];obtain⟨t',order,e1,e2,e3,e4,e5⟩:=z12 (mask:=mask') (finger:=t.finger) (moves:=t.movedTo mask') (led:=t.led) (hs:=es.map (·.1)) hg (by rw[hs'];lia);have er:t.relaid (es.map (·.1)) wanted=some (t',order):=by unfold SetTable.relaid;rw[hw,hT.plain];exact e1
 rw[er];have hlt:∀i∈order.toList,i<kb.length:=λi hi=>by have:=bx.mp (e4.mem_iff.mp hi);lia
 have hfm:∀(l:A'),(∀i∈l,i<kb.length)->l.filterMap (λi=>es[i]?)=iC prog w (l.filterMap λi=>kb[i]?):=by
  intro l hl
  induction l with
  |nil=>rfl
  |cons i l ih=>
   have hi:=hl i bh;have q1:kb[i]?=some kb[i]:=bj hi;have q2:es[i]?=some (hk prog w kb[i].1,iu kb[i].2):=by
    have:es.toList[i]?=some (hk prog w kb[i].1,iu kb[i].2):=by rw[hes];simp[iC,q1]
    simpa using this
   rw[ck,ck,q1,q2];simp only;rw[ih λj hj=>hl j (au _ hj)];rfl
 have hkey:∀(l:A'),(∀i∈l,i<kb.length)->l.filterMap (λi=>(es.map (·.1)).toList[i]?)=(l.filterMap λi=>kb[i]?).map λp=>hk prog w p.1:=by
  intro l hl
  induction l with
  |nil=>rfl
  |cons i l ih=>
   have hi:=hl i bh;have q1:kb[i]?=some kb[i]:=bj hi;have q2:(es.map (·.1)).toList[i]?=some (hk prog w kb[i].1):=by rw[eh];simp[q1]
   rw[ck,ck,q1,q2];simp only;rw[ih λj hj=>hl j (au _ hj)];rfl
 have Dz:(order.toList.filterMap λi=>kb[i]?).Perm kb:=by have q:=e4.filterMap (λi=>kb[i]?);rw[hs']at q;exact q.trans (List.Perm.of_eq (PC kb))
 have hes2:(order.filterMap (es[·]?)).toList=iC prog w (order.toList.filterMap λi=>kb[i]?):=by rw[Array.toList_filterMap];exact hfm _ hlt
 have hsz2:(order.filterMap (es[·]?)).size=es.size:=by have:=congrArg qi hes2;rw[nq]at this;rw[this,Cv];simp[iC,Dz.length_eq]
 show wpAny _ _ ((if((order.filterMap (es[·]?)).size !=es.size)=true then(unsupported "internal:set-table-lost-an-element" >>=λ_=>pure (order.filterMap (es[·]?),t'))else pure (order.filterMap (es[·]?),t')) >>=_) _ _ s;rw[if_neg (by rw[hsz2];simp)];refine aa (ak ?_);dsimp only;refine wpAny_storeSet_of ho hd ?_ (by rw[hsz2,Cv];rcases hg with q|q|q<;>(rw[q]at hl;rw[jd];lia));refine h _ (order.toList.filterMap λi=>kb[i]?) (pg ..) ⟨_,_,_,t',PB hd ho,hex,rfl,hes2,?_,?_,?_,e3.trans hled⟩ Dz
 ·rw[<-hkey _ hlt];exact e5
 ·exact(Dz.map ff).nodup_iff.mpr nd
 ·rw[Dz.length_eq,e2];exact hl
def z19(P:Ca prog w s.heap a kb o es ep t)(T:AX prog w s.heap kb)(hb:gz (intKind prog w) s.heap k b)(hu:A.units<cLine)(h76:k∉kb.map ff->kb.length+1<=76){Q:Bool->ag->Prop}(h:∀h' Ex r,je a s.heap h'->mH prog w h' a Ex->(k∈kb.map ff->Ex.Perm kb)->(k∉kb.map ff->Ex.Perm ((k,b)::kb))->Q r {s with heap:=h'}):
  wpAny (model prog w) A (setAddHashed a (.ref b) (hk prog w k)) Q E s:=by
 unfold setAddHashed;refine gy ?_;unfold setAddHashedIn;refine aa (ju P.obj P.data P.fits ?_);dsimp only;have hbs:byScan (.ref b) es=false:=by simp[byScan,Value.scannable]
 rw[hbs];simp only[cy,if_false];refine aa (z15 P T hb hu (λDq=>?_) λDc n hn hw=>?_)
 ·dsimp only;refine ak ?_;have:=h s.heap kb false (vg ..) ⟨o,es,ep,t,P⟩ (λ_=>.refl _) λq=>absurd Dq q;exact this
 ·dsimp only;refine aa (ju P.obj P.data P.fits ?_);dsimp only;rw[z0x P.tab.nod];dsimp only;rw[if_pos P.tab.plain];refine aa (z16 hb ?_);simp only[if_true];have hlen:=P.nf;have hmask:=P.tab.msk;have hroom:(kb.map λp=>hk prog w p.1).length+1<=t.mask:=by
   rw[bo]
   rcases hmask with q|q|q<;>(rw[q]at hlen⊢;lia)
  have T2:=P.tab.put (h:=hk prog w k) (n:=n) hn hw hroom;have hbl:=(xM (j:=pr t.mask (hk prog w k) n) P.tab.rise).2.2;generalize hp:ur t.place (pr t.mask (hk prog w k) n)=p at T2 hbl⊢;rw[z18 (b:=b)]at T2;have hesl:(jk es p (hk prog w k,iu b)).toList=iC prog w (kb.take p++(k,b)::kb.drop p):=by rw[xN _ _ _ (by rw[P.size,<-show t.place.size=kb.length from by have:=P.tab.size;simpa using this];exact hbl),P.es,z17]
  have Cv:(jk es p (hk prog w k,iu b)).size=kb.length+1:=by have:=congrArg qi hesl;simp only[iC,bo,nq]at this;rw[this,(qJ kb (k,b) p).length_eq];rfl
  refine aa (wpAny_storeSet_of P.obj P.data ?_ (by rw[Cv,jd];have:=h76 Dc;lia));have Ff:(kb.take p++(k,b)::kb.drop p).length=kb.length+1:=(qJ kb (k,b) p).length_eq;have ho2:=PB (s:=s) (es':=jk es p (hk prog w k,iu b)) (t':={t with place:=jk t.place p (pr t.mask (hk prog w k) n)}) P.data P.obj;have fill:({t with place:=jk t.place p (pr t.mask (hk prog w k) n)}:iw).tooFull=decide ((kb.length+1)*5>=t.mask*3):=by unfold SetTable.tooFull SetTable.fill;have e1:=T2.size;rw[bo,Ff]at e1;have e1':(jk t.place p (pr t.mask (hk prog w k) n)).size=kb.length+1:=e1;dsimp only;rw[P.tab.nod,e1'];rfl
  simp only[Bool.not_false,wg];rw[fill];have fin:∀h' Ex,je a (s.heap.update a (Obj.putSet (jk es p (hk prog w k,iu b)) {t with place:=jk t.place p (pr t.mask (hk prog w k) n)})) h'->mH prog w h' a Ex->
    Ex.Perm (kb.take p++(k,b)::kb.drop p)->Q true {s with heap:=h'}:=λh' Ex sb st pm=>
   h h' Ex true ((pg ..).trans sb) st (λq=>absurd q Dc) λ_=>pm.trans (qJ kb (k,b) p)
  by_cases pL:(kb.length+1)*5>=t.mask*3
  ·rw[decide_eq_true pL,if_pos rfl];have h76':=h76 Dc;have hcase:(t.mask=7/\kb.length=4)∨(t.mask=31/\kb.length=18):=by
    rcases hmask with q|q|q
    ·left;rw[q]at hlen pL;exact⟨q,by lia⟩
    ·right;rw[q]at hlen pL;exact⟨q,by lia⟩
    ·rw[q]at pL;lia
   have es0:es.size=kb.length:=P.size
   rcases hcase with⟨q1,q2⟩|⟨q1,q2⟩
   ·refine aa (PD (mask':=31) (kb:=kb.take p++(k,b)::kb.drop p) ho2 P.ex rfl hesl T2 (GG P.nd Dc) P.led (by rw[es0,q2];decide) (.inr (.inl rfl)) (by rw[Ff,q2];decide) (by rw[es0,q2,jd];decide) λh' Ex sb st pm=>ak (fin h' Ex sb st pm))
   ·refine aa (PD (mask':=127) (kb:=kb.take p++(k,b)::kb.drop p) ho2 P.ex rfl hesl T2 (GG P.nd Dc) P.led (by rw[es0,q2];decide) (.inr (.inr rfl)) (by rw[Ff,q2];decide) (by rw[es0,q2,jd];decide) λh' Ex sb st pm=>ak (fin h' Ex sb st pm))
  ·rw[decide_eq_false pL,if_neg ic];refine ak (fin _ _ (vg ..) ⟨_,_,_,_,ho2,P.ex,rfl,hesl,T2,GG P.nd Dc,?_,P.led⟩ (.refl _));rw[Ff];exact Nat.lt_of_not_le pL
end
def Ca.keep{h h':cu}(S:mH prog w h a kb)(k:∀o,h.get? a=some o->h'.get? a=some o):mH prog w h' a kb:=by let⟨o,es,ep,t,P⟩:=S;exact⟨o,es,ep,t,k o P.obj,P.ex,P.data,P.es,P.tab,P.nd,P.nf,P.led⟩
def AY{h h':cu}(x:gz (intKind prog w) h ks a)(k:∀o,h.get? a=some o->h'.get? a=some o):gz (intKind prog w) h' ks a:=by let⟨o,items,n,ho,r⟩:=x;exact⟨o,items,n,k o ho,r⟩
section
variable{prog:bp}{w:cm}{A:cb}{R:yb->ag->Prop}{I:ah}{fp wr:List ah}{n:Nat}{P:Nat->af->Prop}{St:Nat->cu->Prop}
structure Upto(ky:Nat->y')(ad:Nat->ah)(i:Nat)(kb:KB):Prop where
 from_:∀p∈kb,∃j,j<i/\p=(ky j,ad j)
 all:∀j,j<i->ky j∈kb.map ff
def z1a(W:Walks prog w A.in1 I fp wr n P St)(S:ah)(hSf:S∉fp)(ad:Nat->ah)(ky:Nat->y')(hval:∀i v,P i v->v=.ref (ad i))(hu:A.units+2<cLine)(U:wt)(hU:U.length<=76)(hky:∀i,i<n->ky i∈U)(hS:∀i,i<n->ad i≠S/\ad i∉wr):
  ∀(m i:Nat)(s:ag)(kb:KB),n-i=m->i<=n->St i s.heap->mH prog w s.heap S kb->Upto ky ad i kb->(∀j,j<n->gz (intKind prog w) s.heap (ky j) (ad j))->
   (∀h' tk Ex,(∀b o,b∉S::wr->s.heap.get? b=some o->h'.get? b=some o)->mH prog w h' S Ex->Upto ky ad n Ex->R (.ok (.ret .none)) {s with heap:=h',toks:=tk})->
   codeAny (model prog w) A (.builtin "set.update.loop" ⟨[.ref S,.ref I],[]⟩) R s:=by
 have hSw:S∉wr:=λh=>hSf (W.sub _ h);intro m
 induction m with
 |zero=>
  intro i s kb hk hi F' hT Fu Fg hR;have Dq:i=n:=by lia
  subst Dq;refine nc F.entry_set_update_loop ?_;rw[kd F.plain_set_update_loop _];show wpAny _ A.in1 (pyNext (.ref I) >>=_) _ _ s;refine aa (W.done s _ _ F' λh' tk hm=>?_);exact ak (hR h' tk kb (λb o hb e=>hm b o (λz=>hb (au _ z)) e) (Ca.keep hT λo e=>hm S o hSw e) Fu)
 |succ m ih=>
  intro i s kb hk hi F' hT Fu Fg hR;have hlt:i<n:=by lia
  refine nc F.entry_set_update_loop ?_;rw[kd F.plain_set_update_loop _];show wpAny _ A.in1 (pyNext (.ref I) >>=_) _ _ s;refine aa (W.item i s _ _ hlt F' λv h' tk hP hst' hm=>?_);have ev:=hval i v hP;subst ev;have hT':mH prog w h' S kb:=Ca.keep hT λo e=>hm S o hSw e;have Et:∀j,j<n->gz (intKind prog w) h' (ky j) (ad j):=λj hj=>AY (Fg j hj) λo e=>hm _ o (hS j hj).2 e;show wpAny _ A.in1 (holding [iu (ad i)] (setAdd S (.ref (ad i))) >>=_) _ _ _;refine aa (gy ?_);unfold setAdd;refine gy ?_;refine aa (wpAny_pyHash_tuple (s:={s with heap:=h',toks:=tk}) (show A.in1.units<cLine by show A.units+1<cLine;lia) (Et i hlt) ?_);let⟨o,es,ep,t,Pt⟩:=hT';have tups:AX prog w h' kb:=λp hp=>by obtain⟨j,hj,rfl⟩:=Fu.from_ p hp;exact Et j (by lia)
  have hsub:∀x∈kb.map ff,x∈U:=λx hx=>by obtain⟨p,hp,rfl⟩:=cf.mp hx;obtain⟨j,hj,rfl⟩:=Fu.from_ p hp;exact hky j (by lia)
  refine z19 (s:={s with heap:=h',toks:=tk+((ky i).length+1)}) (a:=S) (k:=ky i) (b:=ad i) Pt tups (Et i hlt) (by show A.units+1<cLine;lia) (λDc=>?_) λh2 kb2 r sb hT2 q1 q2=>?_
  ·have nd:(ky i::kb.map ff).Nodup:=jr.mpr ⟨Dc,Pt.nd⟩;have:=nd.length_le_of_subset (l₂:=U) λx hx=>by
    rcases az.mp hx with rfl|hx
    ·exact hky i hlt
    ·exact hsub x hx
   simp at this
   lia
  ·have hup2:Upto ky ad (i+1) kb2:=by
    by_cases Dq:ky i∈kb.map ff
    ·have pm:=q1 Dq;refine⟨λp hp=>?_,λj hj=>?_⟩
     ·let⟨j,hj,e⟩:=Fu.from_ p (pm.mem_iff.mp hp);exact⟨j,by lia,e⟩
     ·rw[(pm.map ff).mem_iff]
      rcases ji j i with z|z
      ·exact Fu.all j z
      ·have:j=i:=by lia
       subst this;exact Dq
    ·have pm:=q2 Dq;refine⟨λp hp=>?_,λj hj=>?_⟩
     ·rcases az.mp (pm.mem_iff.mp hp)with z|z
      ·exact⟨i,by lia,z⟩
      ·let⟨j,hj,e⟩:=Fu.from_ p z;exact⟨j,by lia,e⟩
     ·rw[(pm.map ff).mem_iff,da,az]
      rcases ji j i with z|z
      ·exact .inr (Fu.all j z)
      ·have:j=i:=by lia
       subst this;exact .inl rfl
   refine ak ⟨plainId_quiet F.plain_set_update_loop _,ih (i+1) _ kb2 (by lia) hlt (W.frame _ _ _ hst' λb hb o e=>?_) hT2 hup2 (λj hj=>?_) λh3 tk3 kb3 k3 hT3 hup3=>?_⟩
   ·rw[sb.2 b (λz:b=S=>hSf (by rw[<-z];exact hb))];exact e
   ·exact AY (Et j hj) λo e=>(sb.2 _ (hS j hj).1).trans e
   ·refine hR h3 tk3 kb3 (λb o hb e=>k3 b o hb ?_) hT3 hup3;exact(sb.2 b λz=>hb (by rw[z];exact bh)).trans (hm b o (λz=>hb (au _ z)) e)
end
def walk_slots:Slot "set" "__iter__" "set.__iter__"/\Slot "set_iterator" "__next__" "set_iterator.__next__"/\Slot "set_iterator" "__iter__" "set_iterator.__iter__"/\Slot "set" "__len__" "set.__len__":=by
 refine⟨Slot.of (owner:="set") (n:="__iter__") ?_ ?_ ?_ ?_ ?_ ?_,Slot.of (owner:="set_iterator") (n:="__next__") ?_ ?_ ?_ ?_ ?_ ?_,Slot.of (owner:="set_iterator") (n:="__iter__") ?_ ?_ ?_ ?_ ?_ ?_,Slot.of (owner:="set") (n:="__len__") ?_ ?_ ?_ ?_ ?_ ?_⟩
 all_goals first
  |decide+kernel
  |(rw[typeLookup_type,builtinLookup_eq_fast];kernel_rfl)
  |(rw[isSubtype_type];kernel_rfl)
  |(left;decide+kernel)
  |(right;decide+kernel)
def AZ(a:af):argsOk "set.__iter__" ⟨[a],[]⟩/\argsOk "set_iterator.__next__" ⟨[a],[]⟩/\argsOk "set_iterator.__iter__" ⟨[a],[]⟩:=by refine⟨?_,?_,?_⟩<;>unfold argsOk<;>kernel_rfl
def PF:entryFor table "set_iterator.__next__"=some mr.«set_iterator.__next__»:=entryFor_of_fast (by kernel_rfl)
def z1b:entryFor table "set.__iter__"=some mr.«frozenset.__iter__»:=entryFor_alias (id':="frozenset.__iter__") (by kernel_rfl) rfl (by decide+kernel) (by kernel_rfl)
def z1c:entryFor table "set_iterator.__iter__"=some mr.«dict_keyiterator.__iter__»:=entryFor_alias (id':="dict_keyiterator.__iter__") (by kernel_rfl) rfl (by decide+kernel) (by kernel_rfl)
theorem erase_perm{α:Type}:∀(l:List α)(i:Nat)(h:i<l.length),(l[i]::l.eraseIdx i).Perm l
 |[],_,h=>absurd h (by simp)
 |x::r,0,_=>.refl _
 |x::r,i+1,h=>by have ih:=erase_perm r i (by simpa using h);show((r[i]'(by simpa using h))::x::r.eraseIdx i).Perm (x::r);exact(xj _ _ _).trans (ih.cons x)
theorem PH{α:Type}(next:Nat->Nat):∀(fuel k:Nat)(l:List α)(out:Array α),l.length<=fuel->(yq next fuel k l out).toList.Perm (out.toList++l)
 |0,k,l,out,h=>by have:l=[]:=zt.mp (by lia);subst this;rw[yq];simp
 |fuel+1,k,l,out,h=>by
  rw[yq]
  cases l with
  |nil=>simp
  |cons x r=>have hlt:next k%(x::r).length<(x::r).length:=Nat.mod_lt _ (by simp);rw[bj hlt];dsimp only;refine(PH next fuel (k+1) _ _ (by rw[yv hlt];lia)).trans ?_;rw[Array.toList_push,oz];refine yw _ ?_;exact erase_perm _ _ hlt
def z1d{α:Type}(next:Nat->Nat)(xs:Array α):(pickOrder next xs).toList.Perm xs.toList:=by unfold pickOrder;have:=PH next xs.size 0 xs.toList #[] (by simp);simpa using this
section
variable{prog:bp}{w:cm}
def jR(w:cm)(a:ah)(ep:Nat)(es:Array (Int×af)):Array (Int×af):=if w.params.followText "set-order" then pickOrder (w.params.setOrder a ep) es else es
def PJ(w:cm)(a:ah)(ep:Nat)(es:Array (Int×af)):(jR w a ep es).toList.Perm es.toList:=by
 unfold jR
 split
 ·exact z1d _ _
 ·exact .refl _
def A0(w:cm)(a:ah)(ep:Nat)(es:Array (Int×af)):(jR w a ep es).size=es.size:=by simpa using(PJ w a ep es).length_eq
def iD(w:cm)(t:iw)(i:Nat):Nat:=if w.params.followText "set-order" then 0 else match i with|0=>0|j+1=>t.place.getD j 0+1
def lL(a:ah)(slot i n ep:Nat):Obj:={cls:=.type "set_iterator",data:=.fields #[rawInt slot,rawInt i,.ref a,rawInt n,rawInt ep]}
def z1e(T:Ed t hs)(hb:w.params.followText "set-order"=false)(hi:i<=t.place.size):ur t.place (iD w t i)=i:=by
 let⟨h1,h2,h3⟩:=xM (j:=iD w t i) T.rise;have mono:∀a b(ha:a<t.place.size)(hb:b<t.place.size),a<b->t.place[a]<t.place[b]:=by intro a b ha hb Ek;have:=ij.mp T.rise a b (by simpa using ha) (by simpa using hb) Ek;simpa using this
 unfold iD at h1 h2 h3⊢;rw[hb]at h1 h2 h3⊢;simp only[cy,if_false]at h1 h2 h3⊢
 cases i with
 |zero=>
  dsimp only at h1 h2 h3⊢;generalize ur t.place 0=r at h1 h2 h3⊢
  cases r with
  |zero=>rfl
  |succ r=>have:=h1 r (by lia) (by lia);lia
 |succ j=>
  dsimp only at h1 h2 h3⊢;have hj:j<t.place.size:=by lia
  have ej:t.place.getD j 0=t.place[j]:=by simp[lr,hj]
  rw[ej]at h1 h2 h3⊢;generalize ur t.place (t.place[j]+1)=r at h1 h2 h3⊢
  rcases Nat.lt_trichotomy r (j+1)with q|q|q
  ·have:=h2 j hj (by lia);lia
  ·exact q
  ·have:=h1 (j+1) (by lia) q;have:=mono j (j+1) hj (by lia) (by lia)
   lia
end
section
variable{a it:ah}{kb:KB}{o:Obj}{es:Array (Int×af)}{ep:Nat}{t:iw}
def z1f{Q:Bool->ag->Prop}(P:Ca prog w s.heap a kb o es ep t)(h:Q false s):wpAny (model prog w) A (setDrawn a) Q E s:=by
 unfold setDrawn setsByText;refine aa (ju P.obj P.data P.fits ?_);dsimp only;refine aa (aa (oi (ak ?_)));have e:(!(w.params.followText "set-order")&&((!t.plain)&&decide (es.size>1)))=false:=by rw[P.tab.plain];simp
 show wpAny _ _ (pure (!(w.params.followText "set-order")&&((!t.plain)&&decide (es.size>1)))) _ _ s;rw[e];exact ak h
def z1g{Q:af->ag->Prop}(P:Ca prog w s.heap a kb o es ep t)(h:Q (.ref s.heap.objs.size) {s with heap:=s.heap.push (lL a 0 0 es.size ep)}):
  wpAny (model prog w) A (pyIter (.ref a)) Q E s:=by
 have hT:s.TypeIs (.ref a) "set":=⟨o,P.obj,P.ex.1⟩;refine wpAny_pyIter_slot hT walk_slots.1 (fv walk_slots.1 hT z1b ?_ (AZ _).1);unfold mr.«frozenset.__iter__» Builtin.Frozenset.slot0;refine aa (m:=(do Builtin.Frozenset.addrOf (<-slotArgs "__iter__" 0 ⟨[.ref a],[]⟩).1:Sem ah)) (ak ?_);unfold Builtin.Frozenset.sizeOf;refine aa (aa (xk P.obj P.data P.fits (ak ?_)));refine aa (z1f P ?_);simp only[cy,if_false];refine aa (ak ?_);refine aa (wpAny_setEpoch_of P.obj P.data P.fits ?_);refine aa (dw ?_ (by size_fits));refine ak ⟨_,rfl,"set_iterator",_,⟨_,bg _ rfl,rfl⟩,walk_slots.2.1.lookup,h⟩
end
section
variable{a it:ah}{kb:KB}{o:Obj}{es:Array (Int×af)}{ep:Nat}{t:iw}
def PK{Q:Option (af×Nat)->ag->Prop}(P:Ca prog w s.heap a kb o es ep t)(hi:i<=es.size)(h:Q (((jR w a ep es)[i]?).map λe=>(e.2,iD w t (i+1))) s):wpAny (model prog w) A (setNext a (iD w t i) i ep) Q E s:=by
 unfold setNext setsByText;refine aa (ju P.obj P.data P.fits ?_);dsimp only;refine aa (aa (oi (ak ?_)));have hps:t.place.size=es.size:=by have:=P.tab.size;rw[P.size];simpa using this
 show wpAny _ _ (if w.params.followText "set-order"=true then _ else _) _ _ s
 by_cases hb:w.params.followText "set-order"=true
 ·rw[if_pos hb,if_neg (by simp)];refine aa ?_;unfold setWalk setsByText;refine aa (ju P.obj P.data P.fits ?_);dsimp only;refine aa (aa (oi (ak ?_)));show wpAny _ _ (if w.params.followText "set-order"=true then _ else _) _ _ s;rw[if_pos hb];refine aa (oi (ak (ak ?_)));unfold jR iD at h;unfold iD;rw[if_pos hb]at h⊢;rw[if_pos hb]at h;exact h
 ·have hb':w.params.followText "set-order"=false:=by simpa using hb
  rw[if_neg hb];have hl:t.led=true:=by rw[P.led,hb'];rfl
  have hd:((!t.plain)&&decide (es.size>1))=false:=by rw[P.tab.plain];rfl
  show wpAny _ _ (if((!t.plain)&&decide (es.size>1))=true then _ else _) _ _ s;rw[hd];simp only[cy,if_false];show wpAny _ _ ((if((!t.led)&&!es.isEmpty)=true then _ else _) >>=_) _ _ s;rw[hl];simp only[qg,Bool.false_and,cy,if_false];refine aa (ak ?_);have hbl:=z1e (w:=w) P.tab hb' (i:=i) (by lia);rw[hbl];unfold jR at h;rw[if_neg hb]at h;refine ak ?_
  by_cases hlt:i<es.size
  ·have e1:es[i]?=some es[i]:=gq hlt;have e2:t.place[i]?=some t.place[i]:=gq (by lia);rw[e1]at h;rw[e1,e2];have e3:iD w t (i+1)=t.place[i]+1:=by unfold iD;rw[if_neg hb];simp[lr,show i<t.place.size by lia]
   rw[e3]at h;exact h
  ·have e1:es[i]?=none:=ui (by lia);rw[e1]at h⊢;exact h
def z1h{Q:Option af->ag->Prop}(P:Ca prog w s.heap a kb o es ep t)(hit:s.heap.get? it=some (lL a (iD w t i) i es.size ep))(hx:(jR w a ep es)[i]?=some x)(hQ:∀h',h'.get? it=some (lL a (iD w t (i+1)) (i+1) es.size ep)->je it s.heap h'->Q (some x.2) {s with heap:=h'}):wpAny (model prog w) A (pyNext (.ref it)) Q E s:=by
 have hT:s.TypeIs (.ref it) "set_iterator":=⟨_,hit,rfl⟩;have hlt:i<es.size:=by rw[<-A0 w a ep es];exact(dy.mp hx).1
 unfold pyNext;refine aa (xu (gn (name:=mf "__next__") hT walk_slots.2.1 (fv walk_slots.2.1 hT PF ?_ (AZ _).2.1)));unfold mr.«set_iterator.__next__»;refine aa (m:=slotArgs "__next__" 0 ⟨[.ref it],[]⟩) (ak ?_);refine aa (wpAny_fieldsOf hit rfl ?_);dsimp only;show wpAny _ _ (setEntries a >>=_) _ _ s;refine aa (xk P.obj P.data P.fits ?_);rw[if_neg (by simp)];show wpAny _ _ (setNext a ((iD w t i:Nat):Int).toNat ((i:Nat):Int).toNat ((ep:Nat):Int).toNat >>=_) _ _ s;rw[fq,fq,fq];refine aa (PK P (gr hlt) ?_);rw[hx];show wpAny _ _ (setField (.ref it) 0 (rawInt ((iD w t (i+1):Nat):Int)) >>=_) _ _ s;refine aa (jm hit (by simp) λh1 g1 b1=>?_);refine aa (jm g1 (by simp) λh2 g2 b2=>?_);refine ak ⟨_,rfl,ak (hQ h2 ?_ (b1.trans b2))⟩;rw[g2];rfl
def z1i{Q:Option af->ag->Prop}(hh:A.handled=none)(P:Ca prog w s.heap a kb o es ep t)(hit:s.heap.get? it=some (lL a (iD w t i) i es.size ep))(hi:i=es.size)(hQ:∀h',Ax it s.heap h'->Q none {s with heap:=h'}):wpAny (model prog w) A (pyNext (.ref it)) Q E s:=by
 have hT:s.TypeIs (.ref it) "set_iterator":=⟨_,hit,rfl⟩;unfold pyNext;refine aa (xu (gn (name:=mf "__next__") hT walk_slots.2.1 (fv walk_slots.2.1 hT PF ?_ (AZ _).2.1)));unfold mr.«set_iterator.__next__»;refine aa (m:=slotArgs "__next__" 0 ⟨[.ref it],[]⟩) (ak ?_);refine aa (wpAny_fieldsOf hit rfl ?_);dsimp only;show wpAny _ _ (setEntries a >>=_) _ _ s;refine aa (xk P.obj P.data P.fits ?_);rw[if_neg (by simp)];show wpAny _ _ (setNext a ((iD w t i:Nat):Int).toNat ((i:Nat):Int).toNat ((ep:Nat):Int).toNat >>=_) _ _ s;rw[fq,fq,fq];refine aa (PK P (rf hi) ?_);rw[ui (by rw[A0];lia)];show wpAny _ _ (setField (.ref it) 2 jy >>=_) _ _ s;refine aa (jm hit (by simp) λh1 g1 b1=>?_);show wpAny _ _ (newExc (.type "StopIteration") [] >>=_) _ _ _;refine aa ?_;simp only[newExc,newTuple];refine aa (dw ?_ (by size_fits));refine aa (m:=firstArgMember _ _) (zj (a:=jy) (by first|rfl|(simp only[firstArgMember];rfl)) ?_);refine dw ?_ (by size_fits);simp only[raiseNew];refine aa (wpAny_handled ?_);rw[show A.in1.handled=none from hh];refine aa (ak (wpAny_throw ?_));refine aa (zd (T:="StopIteration") (b:=true) ⟨_,bg _ rfl,rfl⟩ isSubtype_stop ?_);exact ak (hQ _ ((b1.extBut.push _).push _))
end
section
variable{a:ah}{kb:KB}{o:Obj}{es:Array (Int×af)}{ep:Nat}{t:iw}
theorem Ca.at'{h h':cu}(P:Ca prog w h a kb o es ep t)(k:h'.get? a=some o):Ca prog w h' a kb o es ep t:=⟨k,P.ex,P.data,P.es,P.tab,P.nd,P.nf,P.led⟩
def z1j(hh:A.handled=none)(I:ah)(hne:a≠I):
  Walks prog w A I [I,a] [I] es.size (λi v=>∃x,(jR w a ep es)[i]?=some x/\v=x.2) (λi h=>Ca prog w h a kb o es ep t/\h.get? I=some (lL a (iD w t i) i es.size ep)) where
 sub:=λb hb=>by rw[cz.mp hb];exact bh ..
 frame:=λi h h'⟨p,q⟩k=>⟨p.at' (k a (by simp) _ p.obj),k I (by simp) _ q⟩
 item:=λi s Q E hi⟨p,q⟩hQ=>by
  have hi':i<(jR w a ep es).size:=by rw[A0];exact hi
  have hx:(jR w a ep es)[i]?=some (jR w a ep es)[i]:=gq hi';refine z1h p q hx λh' q' sb=>hQ _ h' s.toks ⟨_,hx,rfl⟩ ⟨p.at' ((sb.2 a hne).trans p.obj),q'⟩ λb o hb e=>?_;exact(sb.2 b λz=>hb (by rw[z];exact bh ..)).trans e
 done:=λs Q E⟨p,q⟩hQ=>z1i hh p q rfl λh' x=>hQ h' s.toks λb o hb e=>x b o (λz=>hb (by rw[z];exact bh ..)) e
 self:=λi s Q E⟨_,q⟩hQ=>by have hT:s.TypeIs (.ref I) "set_iterator":=⟨_,q,rfl⟩;refine wpAny_pyIter_slot hT walk_slots.2.2.1 (fv walk_slots.2.2.1 hT z1c ?_ (AZ _).2.2);exact ak ⟨_,rfl,"set_iterator",_,⟨_,q,rfl⟩,walk_slots.2.1.lookup,hQ⟩
def z1k{Q:Unit->ag->Prop}(h:s.heap.get? S=some (seqObj "list" #[] n))(q:∀h' c,h'.get? S=some (seqObj "list" #[] c)->(∀b o,b≠S->s.heap.get? b=some o->h'.get? b=some o)->Q () {s with heap:=h'}):
  wpAny (model prog w) A (xv (.ref S)) Q E s:=by
 unfold xv;refine aa (uz h rfl ?_);have h1:=nh h (λx=>x.push jy);refine uz h1 rfl ?_;have h2:=nh h1 (λx=>x.pop);refine q _ _ h2 λb o hb e=>?_;rw[jg _ _ _ _ hb,jg _ _ _ _ hb];exact e
def z1l{Q:List af->ag->Prop}(hh:A.handled=none)(P:Ca prog w s.heap a kb o es ep t)(hn:es.size<=cg)(q:∀(h':cu)(tk:Nat),(∀b o,s.heap.get? b=some o->h'.get? b=some o)->s.heap.objs.size<=h'.objs.size->Q ((jR w a ep es).toList.map (·.2)) {s with heap:=h',toks:=tk}):wpAny (model prog w) A (collect (.ref a)) Q E s:=by
 have la:a<s.heap.objs.size:=av P.obj;have up1:∀b o,s.heap.get? b=some o->(s.heap.push (seqObj "list" #[] 0)).get? b=some o:=λb o e=>ao _ e;have hS1:(s.heap.push (seqObj "list" #[] 0)).get? s.heap.objs.size=some (seqObj "list" #[] 0):=bg _ rfl;have P1:Ca prog w (s.heap.push (seqObj "list" #[] 0)) a kb o es ep t:=P.at' (up1 a o P.obj);have hT1:pj {s with heap:=s.heap.push (seqObj "list" #[] 0)} (.ref a) "set":=⟨o,P1.obj,P1.ex.1⟩;unfold collect;refine aa (wy (nc entry_proto_collect' ?_));rw[kd F.plain_proto_collect _];refine aa (m:=newList []) (vc (ak ⟨wm _ (by decide+kernel),nc entry_list_iadd' ?_⟩));rw[kd F.plain_list_iadd _];show wpAny _ A.in1 (lg (.ref s.heap.objs.size) (.ref a) (.ref s.heap.objs.size)) _ _ {s with heap:=s.heap.push (seqObj "list" #[] 0)};unfold lg;refine aa (oh hT1 ?_);have ne:xf (.ref s.heap.objs.size) (.ref a)=false:=by simp[xf,jw la]
 rw[if_neg (by rw[ne];decide)];refine aa (z1g P1 ?_);have sz:(s.heap.push (seqObj "list" #[] 0)).objs.size=s.heap.objs.size+1:=vp _ _;rw[sz];have up2:∀b o,(s.heap.push (seqObj "list" #[] 0)).get? b=some o->((s.heap.push (seqObj "list" #[] 0)).push (lL a 0 0 es.size ep)).get? b=some o:=λb o e=>ao _ e;have P2:Ca prog w ((s.heap.push (seqObj "list" #[] 0)).push (lL a 0 0 es.size ep)) a kb o es ep t:=P1.at' (up2 a o P1.obj);have hT2:pj {s with heap:=(s.heap.push (seqObj "list" #[] 0)).push (lL a 0 0 es.size ep)} (.ref a) "set":=⟨o,P2.obj,P2.ex.1⟩;have hI2:((s.heap.push (seqObj "list" #[] 0)).push (lL a 0 0 es.size ep)).get? (s.heap.objs.size+1)=some (lL a 0 0 es.size ep):=by rw[<-sz];exact bg _ rfl
 refine aa (gy ?_);unfold Builtin.List.listLengthHint;refine aa (wpAny_specialOf hT2 walk_slots.2.2.2.lookup ?_);have spl:splitId "set.__len__"=some ("set","__len__"):=by decide+kernel
 dsimp only;rw[spl];dsimp only;refine aa (zd (b:=true) hT2 sub_set_self ?_);rw[if_neg (by decide),if_pos (by decide+kernel)];refine aa (oh hT2 (ak ?_));rw[if_pos (by decide+kernel)];refine aa (tq ?_);refine aa (z1k (s:={s with heap:=(s.heap.push (seqObj "list" #[] 0)).push (lL a 0 0 es.size ep)}) (up2 _ _ hS1) λh3 c hS3 up3=>?_);have neS:∀b o,s.heap.get? b=some o->b≠s.heap.objs.size:=λb o e=>bc (av e);have P3:Ca prog w h3 a kb o es ep t:=P2.at' (up3 a o (bc la) P2.obj);have hI3:h3.get? (s.heap.objs.size+1)=some (lL a 0 0 es.size ep):=up3 _ _ (qh _) hI2;have hz:iD w t 0=0:=by unfold iD;split<;>rfl
 have hh2:A.in1.handled=none:=by simp[hh]
 have nin:s.heap.objs.size∉[s.heap.objs.size+1,a]:=λm=>by
  rcases az.mp m with e|m
  ·exact qh _ e.symm
  ·exact jw la (cz.mp m)
 refine ak ⟨plainId_quiet F.plain_extend_loop _,codeAny_extend_loopS (A:=A) ((z1j (kb:=kb) (o:=o) (t:=t) (ep:=ep) (es:=es) hh2 (s.heap.objs.size+1) (a:=a) (bc (km la))).toS) hn s.heap.objs.size nin _ es.size 0 {s with heap:=h3} #[] c rfl (gv _)
  ⟨P3,by rw[hz];exact hI3⟩ hS3 (ItemsOf.nil _) λs' acc c' mv hS' ia=>?_⟩
 have eacc:acc.toList=(jR w a ep es).toList.map (·.2):=by
  apply xg
  intro i;rw[mq,du,mq]
  cases q:acc[i]? with
  |some v=>let⟨x,h1,h2⟩:=ia.2 i v q;rw[h1,h2];rfl
  |none=>have h1:acc.size<=i:=Array.getElem?_eq_none_iff.mp q;rw[ui (by rw[A0,<-ia.1];exact h1)];rfl
 let⟨hp,gs,dr,tk,os⟩:=s';have e1:gs=s.gens:=mv.gens;have e2:dr=s.drawn:=mv.drawn;have e3:os=s.os:=mv.os;subst e1;subst e2;subst e3;show wpAny _ A (load s.heap.objs.size >>=_) _ _ _;refine aa (wpAny_load hS' (ak ?_));rw[eacc];refine q hp tk (λb o e=>mv.heap b o (λm=>?_) (up3 b o (neS b o e) (up2 b o (up1 b o e)))) (gr (av hS'))
 rcases az.mp m with z|m
 ·exact neS b o e z
 ·exact bc (km (av e)) (cz.mp m)
end
open PySem.W SoM L2
section
theorem PL{Q:Bool->ag->Prop}:∀{kx ky:y'}{vx vy:List af}(i:Nat),ItemsAre (intKind prog w) kx vx->ItemsAre (intKind prog w) ky vy->fin=decide (vx.length<vy.length)->Q (cR kx ky) s->KatLex prog w A true fin Q (vx.zip vy) i s
 |_,_,_,_,i,.nil,.nil,hf,h=>by subst hf;exact kat_nil h
 |_,_,_,_,i,.nil,.cons _ _,hf,h=>by subst hf;refine kat_nil ?_;rw[decide_eq_true (by simp)];exact h
 |_,_,_,_,i,.cons _ _,.nil,hf,h=>by subst hf;refine kat_nil ?_;rw[decide_eq_false (by simp)];exact h
 |_,_,_,_,i,.cons (k:=a) hu hx,.cons (k:=b) hv hy,hf,h=>by
  obtain⟨t,rfl⟩:=oq hu;obtain⟨t',rfl⟩:=oq hv;refine kat_cons (yx (kat_go (λe=>?_) λe=>?_))
  ·refine kat_yes (PL (i+1) hx hy (hf.trans (by simp)) ?_);rw[cR,if_pos e]at h;exact h
  ·have h':Q (decide (a<b)) s:=by rw[cR,if_neg (by rw[e];simp)]at h;exact h
   refine kat_no ?_
   cases q:i==0 with
   |true=>exact oneLt_int h'
   |false=>exact kat_one _ _ (yj h')
def z1m{Q:Bool->ag->Prop}(hx:gz (intKind prog w) s.heap kx x)(hy:gz (intKind prog w) s.heap ky y)(h:Q (cR kx ky) s):wpAny (model prog w) A (keyLt' (tuples' true) (.ref x) (.ref y)) Q E s:=by let⟨ox,ix,nx,e1,_,d1,i1⟩:=hx;let⟨oy,iy,ny,e2,_,d2,i2⟩:=hy;exact kat_lt e1 d1 e2 d2 (PL 0 i1 i2 (by simp) h)
def Cy(prog:bp)(w:cm)(h:cu)(n:Nat)(ad:Nat->ah)(ky:Nat->y'):Prop:=∀i,i<n->gz (intKind prog w) h (ky i) (ad i)/\ky i≠[]
def bX(n:Nat)(ad:Nat->ah):List af:=(ba n).map λi=>.ref (ad i)
def lM(n:Nat)(ad:Nat->ah):(bX n ad).length=n:=by simp[bX]
def GH{ad:Nat->ah}(h:i<n):(bX n ad).getD i jy=.ref (ad i):=by simp[bX,h]
theorem PM:∀(l:A'){ad:Nat->ah}{ky:Nat->y'},(∀i∈l,gz (intKind prog w) s.heap (ky i) (ad i)/\ky i≠[])->∃fs:List af,KatTups s.heap (l.map λi=>.ref (ad i)) fs/\fs.length=l.length/\∀v∈fs,∃a t,v=.int a t
 |[],_,_,_=>⟨[],trivial,rfl,by simp⟩
 |i::l,ad,ky,h=>by
  obtain⟨fs,t,hl,hv⟩:=PM l (ad:=ad) (ky:=ky) λj hj=>h j (au _ hj);obtain⟨⟨o,its,n,e,c,d,r⟩,ne⟩:=h i (bh ..)
  cases q:its.toList with
  |nil=>rw[q]at r;cases hk:ky i with
   |nil=>exact absurd hk ne
   |cons a b=>rw[hk]at r;cases r
  |cons v vs=>
   rw[q]at r
   cases hk:ky i with
   |nil=>exact absurd hk ne
   |cons a b=>
    rw[hk]at r
    cases r with
    |cons hu _=>
     obtain⟨tk,rfl⟩:=oq hu;refine⟨.int a tk::fs,KatTups.cons e c d (by rw[<-mq,q];rfl) t,by simp[hl],λv hv'=>?_⟩
     rcases az.mp hv' with rfl|hv'
     ·exact⟨_,_,rfl⟩
     ·exact hv v hv'
theorem z1n{n:Nat}{ad:Nat->ah}{ky:Nat->y'}{G:Array Nat->ag->Prop}(h2:2<=n)(hk:Cy prog w s.heap n ad ky)(h:∀p,Ent n p->fR cR (p.toList.map ky)->G p s):
  wpAny (model prog w) A (keyKind' (bX n ad).toArray) (λκ s'=>(kas_sort (bX n ad).length).kasWp (kas_ask prog w A κ (bX n ad)) G s') (λ_ _=>False) s:=by
 obtain⟨fs,t,hl,hv⟩:=PM (prog:=prog) (w:=w) (s:=s) (ba n) (ad:=ad) (ky:=ky) λi hi=>hk i (bx.mp hi);refine kat_kind (T:=.type "int") t (by rw[hl,ki];lia) (λv hv'=>?_) (by decide) ?_
 ·obtain⟨a,tk,rfl⟩:=hv v hv';exact .now
 ·rw[lM]
  let ks:=(ba n).map ky
  have mem:∀i,i<n->ky i∈ks:=λi hi=>cf.mpr ⟨i,bx.mpr hi,rfl⟩;refine OF (n:=n) (f:=λi=>rk cR ks (ky i)) (I:=λs'=>s'=s) (λi j C s' hs hi hj hC=>?_) (kas_sort n) (λp=>Ent n p/\fR cR (p.toList.map ky)) G s s (z0g (by lia) λp e inc=>⟨e,?_⟩) rfl λp s' hp hs=>by subst hs;exact h p hp.1 hp.2
  ·subst hs;show wpAny (model prog w) A (keyLt' (tuples' true) ((bX n ad).getD i jy) ((bX n ad).getD j jy)) C (λ_ _=>False) s';rw[GH hi,GH hj];refine z1m (hk i hi).1 (hk j hj).1 ?_;have:=hC s' rfl;rwa [OK Dp (mem i hi)]at this
  ·refine ij.mpr λi j hi hj Dg=>?_;have hj':j<p.size:=by simpa using hj
   have hi':i<p.size:=by lia
   have z:=inc i j (gr Dg) (by rw[<-e.1];exact hj');unfold SoM.F at z;have ei:p.getD i 0=p[i]:=by simp[lr,hi']
   have ej:p.getD j 0=p[j]:=by simp[lr,hj']
   rw[ei,ej]at z;have lt:∀k(hk:k<p.size),p[k]<n:=λk hk=>bx.mp (e.2.mem_iff.mp (by simp));have:=z0j Dp (mem _ (lt j hj')) z;simpa using this
end
section
abbrev sF(h h':cu):Prop:=∀b o,h.get? b=some o->h'.get? b=some o
def Dr(n:Nat)(ad:Nat->ah)(ky:Nat->y')(out:List af):Prop:=∃p:A',p.Perm (ba n)/\fR cR (p.map ky)/\out=p.map λi=>.ref (ad i)
def Dr.len{ad:Nat->ah}(h:Dr n ad ky out):out.length=n:=by let⟨p,pp,_,e⟩:=h;rw[e,bo,pp.length_eq,ki]
def Cy.keep{h h':cu}{ad:Nat->ah}(k:Cy prog w h n ad ky)(g:∀i,i<n->∀o,h.get? (ad i)=some o->h'.get? (ad i)=some o):Cy prog w h' n ad ky:=λi hi=>⟨AY (k i hi).1 (g i hi),(k i hi).2⟩
def z1o{ad:Nat->ah}{P:Fin->ag->Prop}(ho:s.heap.get? a=some (seqObj "list" (bX n ad).toArray c))(h64:n<64)(hk:Cy prog w s.heap n ad ky)(q:∀h' e out,Dr n ad ky out->h'.get? a=some (seqObj "list" out.toArray e)->(∀b o,b≠a->s.heap.get? b=some o->h'.get? b=some o)->P (.done (.ret .none)) {s with heap:=h'}):
  wpAny (model prog w) A (mr.«list.sort» ⟨[.ref a],[]⟩) P E s:=by
 have la:a<s.heap.objs.size:=av ho;obtain⟨e1,g1⟩:∃e1,(s.heap.update a (qe λ_=>(#[]:Array af))).get? a=some (seqObj "list" #[] e1):=⟨_,nh ho λ_=>#[]⟩
 have k1:∀b o,b≠a->s.heap.get? b=some o->(s.heap.update a (qe λ_=>(#[]:Array af))).get? b=some o:=λb o hb e=>by rw[jg _ _ _ _ hb];exact e
 generalize hH1:s.heap.update a (qe λ_=>(#[]:Array af))=H1 at g1 k1;have k3:sF H1 ((H1.push (seqObj "tuple" (bX n ad).toArray 0)).push (seqObj "list" #[] 0)):=λb o e=>ao _ (ao _ e);have ne:∀i,i<n->ad i≠a:=λi hi e=>by let⟨⟨o,its,m,e1,c1,_⟩,_⟩:=hk i hi;rw[e,ho]at e1;cases e1;exact absurd (Value.type.inj c1) (by decide)
 have K3:Cy prog w ((H1.push (seqObj "tuple" (bX n ad).toArray 0)).push (seqObj "list" #[] 0)) n ad ky:=hk.keep λi hi o e=>k3 _ o (k1 _ o (ne i hi) e);have g3:=k3 a _ g1;have kk:∀b o,b≠a->s.heap.get? b=some o->((H1.push (seqObj "tuple" (bX n ad).toArray 0)).push (seqObj "list" #[] 0)).get? b=some o:=λb o hb e=>k3 b o (k1 b o hb e);have sl:n<=cg:=by rw[jd];lia
 have fin:∀(out:List af),Dr n ad ky out->wpAny (model prog w) A (do
   let touched:=(<-seqEpoch a) !=e1
   Builtin.List.listUpdate (.ref a) λ_=>out.toArray
   if let some e:=(none:Option af)then rule "list.sort.comparison-raised"; throw e
   if touched then rule "list.sort.modified"; raiseError "ValueError" "list modified during sort"
   ret .none) P E {s with heap:=(H1.push (seqObj "tuple" (bX n ad).toArray 0)).push (seqObj "list" #[] 0)}:=λout Ey=>by
  refine aa (seqEpoch_at g3 rfl ?_);refine aa (uz g3 rfl ?_ (gv _) (by rw[ax,Ey.len];lia));simp only[bne_self_eq_false,cy,if_false];exact ak (q _ _ out Ey (nh g3 λ_=>out.toArray) λb o hb e=>by rw[jg _ _ _ _ hb];exact kk b o hb e)
 generalize hH3:(H1.push (seqObj "tuple" (bX n ad).toArray 0)).push (seqObj "list" #[] 0)=H3 at k3 K3 g3 kk fin;rw[list_sort_plain];refine aa (listItems_at ho rfl (aa (uz ho rfl ?_ (by rw[ax,lM];exact sl) (gv _))));rw[hH1];refine aa (seqEpoch_at g1 rfl (aa (wpAny_newTuple (aa (vc (gy ?_) (gv _))) (by show(bX n ad).length<=_;rw[lM];exact sl))));show wpAny (model prog w) A _ P E {s with heap:=(H1.push (seqObj "tuple" (bX n ad).toArray 0)).push (seqObj "list" #[] 0)};rw[hH3];have hz:(bX n ad).toArray.size=n:=by rw[ax,lM]
 dsimp only
 by_cases h2:n<2
 ·rw[if_pos (by rw[hz];exact h2),if_pos (by rw[hz];exact h2)];refine aa (ak ?_);rw[StateT.run_pure];refine aa (ak ?_);have e:(arrOf (SortSt.mk' general' ((bX n ad).toArray.zip (bX n ad).toArray) #[] 7 none)).map (·.2)=(bX n ad).toArray:=by show(((bX n ad).toArray.zip (bX n ad).toArray)).map (·.2)=_;rw[Array.map_snd_zip (aq _)]
  dsimp only;rw[e];refine fin _ ⟨ba n,.refl _,?_,rfl⟩;refine ij.mpr λi j hi hj Dg=>?_;rw[bo,ki]at hj
  lia
 ·have h2':2<=n:=by lia
  rw[if_neg (by rw[hz];exact h2),if_neg (by rw[hz];exact h2)];refine aa (kv (z1n (A:=A) (s:={s with heap:=H3}) (G:=λp s'=>s'={s with heap:=H3}/\Ent n p/\fR cR (p.toList.map ky)) h2' K3 λp e r=>⟨rfl,e,r⟩) (λκ s0 hκ=>?_) λ_ _ x=>x.elim);refine aa (kv (kat_run (ks:=bX n ad) (vs:=bX n ad) (Q:=λEn s'=>∃p:Array Nat,p.size=(bX n ad).length/\arrOf En=p.map (kas_item ((bX n ad).toArray.zip (bX n ad).toArray))/\failedOf En=none/\s'={s with heap:=H3}/\Ent n p/\fR cR (p.toList.map ky))
   rfl (by rw[lM];exact h2') (by rw[lM];exact h64) (λp En s' z1 z2 z3 z4=>⟨p,z1,z2,z3,z4⟩) hκ) ?_ λ_ _ e=>e)
  rintro ⟨⟨⟩,En⟩ s' ⟨p,_,z2,z3,rfl,z5,z6⟩
  dsimp only;rw[kat_snds rfl z2,z3];have e:(p.toList.map λi=>(bX n ad).getD i jy)=p.toList.map λi=>.ref (ad i):=nr λi hi=>GH (bx.mp (z5.2.mem_iff.mp hi));rw[e];exact fin _ ⟨p.toList,z5.2,z6,rfl⟩
def PN{ad:Nat->ah}{Q:af->ag->Prop}(h64:n<64)(hk:Cy prog w s.heap n ad ky)(hc:∀(Q':List af->ag->Prop)(E':af->ag->Prop),(∀h' tk,sF s.heap h'->s.heap.objs.size<=h'.objs.size->Q' (bX n ad) {s with heap:=h',toks:=tk})->wpAny (model prog w) A.in1 (collect x) Q' E' s)(q:∀h' tk D e out,Dr n ad ky out->s.heap.objs.size<=D->h'.get? D=some (seqObj "list" out.toArray e)->sF s.heap h'->Q (.ref D) {s with heap:=h',toks:=tk}):
  wpAny (model prog w) A (call (.builtin "sorted") [x]) Q E s:=by
 refine Calls.call_function_entry kind_sorted plain_sorted entry_sorted (args_sorted1 _) ?_;unfold mr.«sorted»;refine aa (m:=checkCount "sorted" 1 1 _) (ak (aa (hc _ _ λh1 tk k1 sz=>aa (vc ?_ (by rw[lM,jd];lia)))));have g:(h1.push (seqObj "list" (bX n ad).toArray 0)).get? h1.objs.size=some (seqObj "list" (bX n ad).toArray 0):=bg _ rfl;have k2:sF s.heap (h1.push (seqObj "list" (bX n ad).toArray 0)):=λb o e=>ao _ (k1 b o e);refine aa (gy (fv slot_list_sort ⟨_,g,rfl⟩ entry_list_sort (z1o (s:={s with heap:=h1.push (seqObj "list" (bX n ad).toArray 0),toks:=tk}) g h64 (hk.keep λi hi o e=>k2 _ o e) λh' e out so ho ke=>⟨_,rfl,?_⟩) (args_list_sort _)));exact ak ⟨_,rfl,q h' tk h1.objs.size e out so sz ho λb o e=>ke b o (bc (aw (av e) sz)) (k2 b o e)⟩
end
def bare(w:cm):Obj:={cls:=.type "set",dict:=none,data:=.set #[] 0 (.fresh 0 0 (!w.params.followText "set-order"))}
section
def z1p{h:cu}(e:h.get? a=some (bare w)):mH prog w h a []:=by
 have tok:∀led:Bool,Ed (.fresh 0 0 led) []:=λled=>⟨rfl,.nil,rfl,(λj hj=>nomatch hj),gv _,.inl rfl,(λi h j e=>nomatch e),rfl⟩
 exact⟨bare w,#[],0,_,e,⟨rfl,rfl,rfl⟩,rfl,rfl,tok _,.nil,(by show 0*5<7*3;decide),rfl⟩
def PQ(a:af){Q:af->ag->Prop}(q:Q (.ref s.heap.objs.size) {s with heap:=s.heap.push (bare w)}):
  codeAny (model prog w) A (.call (.builtin "set.__new__") ⟨[.type "set",a],[]⟩) (wants Q E) s:=by
 refine rh F.plain_set_new F.entry_set_new (zj (F.newCall_set_1 a) ?_);have self:=sub_set_self;unfold mr.«set.__new__» Builtin.Frozenset.newClass;cases s
 wp_walk
 exact oi (ak (aa (wpAny_alloc (ak (ak q)))))
def PR{v:af}{Q N:af->ag->Prop}(hn:codeAny (model prog w) A.in1 (.call (.builtin "set.__new__") ⟨[.type "set",v],[]⟩) (wants N E) s)(hi:∀x s1,N x s1->s1.TypeIs x "set"/\codeAny (model prog w) A.in1 (.call (.builtin "set.__init__") ⟨[x,v],[]⟩) (wants (λr s2=>r=.none/\Q x s2) E) s1):wpAny (model prog w) A (call (.type "set") [v]) Q E s:=by
 have f:=F.called_set;let⟨_,_,fm⟩:=f.mro;have fd:=f.made;have fs:=f.sub;have ft:=f.notType;have fc:=f.canCreate;have fk:=F.typeCall_set_1 v;have fl:=f.init.lookup;have q:(Code.builtin "type.__call__" ⟨[.type "set",v],[]⟩).quiet=true:=wm _ (by decide+kernel);refine Af (codeAny_of_tree (ak ⟨q,nc F.entry_type_call ?_⟩));rw[Around.under_plain (weight_type_call_type "set" [v] []) rfl]
 repeat (any_goals (first|assumption|wp_step))
 refine qd hn ?_
 rintro (e|fl1) s1 h1
 ·exact h1
 ·cases fl1<;>try exact h1.elim
  rename_i x;let⟨hx,hr⟩:=hi x s1 h1;have fb:=f.init.bind x
  repeat (any_goals (first|assumption|wp_step))
  refine qd hr ?_
  rintro (e|Gb) s2 h2
  ·exact h2
  ·cases Gb<;>try exact h2.elim
   obtain⟨rfl,h3⟩:=h2
   repeat (any_goals (first|assumption|wp_step))
def PV{P:Nat->af->Prop}{St:Nat->cu->Prop}(ad:Nat->ah)(ky:Nat->y')(U:wt){Q:af->ag->Prop}(hu:A.units+8<cLine)(hT:s.TypeIs (.ref l) T)(n1:isSubtype (.type T) (.type "set")=pure false)(n2:isSubtype (.type T) (.type "frozenset")=pure false)(n3:(vz T==vz "dict")=false)(hi:∀(B:cb)(Q':af->ag->Prop)(E':af->ag->Prop),Q' (.ref (s.heap.objs.size+1)) {s with heap:=(s.heap.push (bare w)).push it}->wpAny (model prog w) B (pyIter (.ref l)) Q' E' {s with heap:=s.heap.push (bare w)})(W:Walks prog w A.in1.in1.in1 (s.heap.objs.size+1) fp wr n P St)(hfp:s.heap.objs.size∉fp)(hwr:∀b∈wr,s.heap.objs.size<b)(h0:St 0 ((s.heap.push (bare w)).push it))(hval:∀i v,P i v->v=.ref (ad i))(hU:U.length<=76)(hky:∀i,i<n->ky i∈U)(Fg:∀j,j<n->gz (intKind prog w) s.heap (ky j) (ad j))(q:∀(h':cu)(tk:Nat)kb,mH prog w h' s.heap.objs.size kb->Upto ky ad n kb->(∀b o,s.heap.get? b=some o->h'.get? b=some o)->Q (.ref s.heap.objs.size) {s with heap:=h',toks:=tk}):
  wpAny (model prog w) A (call (.type "set") [.ref l]) Q E s:=by
 refine PR (N:=λx s1=>x=.ref s.heap.objs.size/\s1={s with heap:=s.heap.push (bare w)}) (PQ _ ⟨rfl,rfl⟩) ?_
 rintro x s1 ⟨rfl,rfl⟩
 have up:∀b o,s.heap.get? b=some o->(s.heap.push (bare w)).get? b=some o:=λb o e=>ao _ e;have hb:(s.heap.push (bare w)).get? s.heap.objs.size=some (bare w):=bg _ rfl;have hS:pj {s with heap:=s.heap.push (bare w)} (.ref s.heap.objs.size) "set":=⟨_,hb,rfl⟩;refine⟨hS,rh F.called_set.init.plain F.entry_set_init (check_set_init_1 hS ?_)⟩;let⟨ol,el,cl⟩:=hT;have hl1:pj {s with heap:=s.heap.push (bare w)} (.ref l) T:=⟨ol,up l ol el,cl⟩
 have lt:∀j,j<n->ad j<s.heap.objs.size:=λj hj=>let ⟨_,_,_,e,_⟩:=Fg j hj;av e;have Fb:((s.heap.push (bare w)).push it).get? s.heap.objs.size=some (bare w):=ao _ hb;have run:∀(R:yb->ag->Prop),(∀h' tk kb,mH prog w h' s.heap.objs.size kb->Upto ky ad n kb->(∀b o,s.heap.get? b=some o->h'.get? b=some o)->R (.ok (.ret .none)) {s with heap:=h',toks:=tk})->
   codeAny (model prog w) A.in1.in1 (.builtin "set.update.loop" ⟨[.ref s.heap.objs.size,.ref (s.heap.objs.size+1)],[]⟩) R {s with heap:=(s.heap.push (bare w)).push it}:=λR hR=>by
  refine z1a W s.heap.objs.size hfp ad ky hval (by show A.units+1+1+2<cLine;omega) U hU hky (λj hj=>⟨bc (lt j hj),λm=>Aq (lt j hj) (hwr _ m)⟩) n 0 _ [] rfl (gv _) h0 (z1p Fb)
   ⟨(λp hp=>nomatch hp),λj hj=>absurd hj (Nat.not_lt_zero j)⟩ (λj hj=>AY (Fg j hj) λo e=>ao _ (up _ o e)) λh' tk kb keep S u=>hR h' tk kb S u λb o e=>?_
  have hlt:=av e;exact keep b o (λm=>(az.mp m).elim (bc hlt) λm=>Aq hlt (hwr b m)) (ao _ (up b o e))
 unfold mr.«set.__init__» noKeywords ve;generalize hPI:pyIter=PI;unfold bare at hb
 wp_walk
 subst hPI;refine hi _ _ _ ?_;refine aa (wy (run _ λh' tk kb S u keep=>?_));exact ak (ak ⟨rfl,q h' tk kb S u keep⟩)
end
end SR
namespace L2.Mr
open SR
def B'(H:Hp):Ho->wt->Prop
 |[],[]=>True
 |v::vs,k::ks=>(∃b,v=.ref b/\H b=some (.tup (k.map Gn)))/\B' H vs ks
 |_,_=>False
def vAd:V->ah
 |.ref b=>b
 |_=>0
def fJ(vs:Ho)(i:Nat):ah:=vAd (vs.getD i .non)
section
variable{X:Cx}{pins:List (ah×Obj)}{σ:St}{H H':Hp}{s:ag}
theorem B'.len:∀{vs:Ho}{ks:wt},B' H vs ks->vs.length=ks.length
 |[],[],_=>rfl
 |[],_::_,h=>h.elim
 |_::_,[],h=>h.elim
 |v::vs,k::ks,h=>by rw[di,di,B'.len h.2]
theorem B'.at_:∀{vs:Ho}{ks:wt}{i:Nat},B' H vs ks->i<ks.length->vs[i]?=some (.ref (fJ vs i))/\H (fJ vs i)=some (.tup ((ks.getD i []).map Gn))
 |[],[],_,_,h=>by simp at h
 |[],_::_,_,h,_=>h.elim
 |_::_,[],_,h,_=>h.elim
 |v::vs,k::ks,0,h,_=>by obtain⟨⟨b,rfl,e⟩,_⟩:=h;exact⟨rfl,e⟩
 |v::vs,k::ks,i+1,h,hi=>by
  let⟨e1,e2⟩:=B'.at_ (i:=i) h.2 (by simpa using hi);have ea:fJ (v::vs) (i+1)=fJ vs i:=by simp[fJ]
  exact⟨by rw[ea];simpa using e1,by rw[ea];simpa using e2⟩
theorem PX:∀{k:y'}{its:List af}{prog:bp}{w:cm},Bs (k.map Gn) its->ItemsAre (intKind prog w) k its
 |[],_,_,_,.nil=>.nil
 |n::k,_,_,_,.cons h1 h2=>by obtain⟨t,rfl⟩:=h1;exact .cons (intKind_is _ _ _ _) (PX h2)
def A1(I:Inv X pins σ H s){k:y'}(e:H b=some (.tup (k.map Gn))):gz (intKind X.prog X.w) s.heap k b:=by let⟨_,its,r,o,e1,c,_,n,d⟩:=I.hok b _ e;exact⟨o,its.toArray,n,e1,c,d,PX r⟩
def z1q(I:Inv X pins σ H s)(h:B' H vs ks)(ne:∀k∈ks,k≠[]):Cy X.prog X.w s.heap ks.length (fJ vs) (λi=>ks.getD i []):=λi hi=>by refine⟨A1 I (h.at_ hi).2,ne _ ?_⟩;simp[hi]
def GI(h:B' H vs ks)(r:Bs vs its):its=bX ks.length (fJ vs):=by
 have hl:=r.length;have hl2:=h.len
 apply xg
 intro i
 by_cases hi:i<ks.length
 ·let⟨e1,_⟩:=h.at_ hi;let⟨u,e2,e3⟩:=r.get e1;cases e3;rw[e2];simp[bX,hi]
 ·rw[As (by lia),As (by rw[lM];lia)]
def PY{ad:Nat->ah}{ky:Nat->y'}(so:Dr n ad ky out)(hH:∀i,i<n->H (ad i)=some (.tup ((ky i).map Gn))):
  ∃(p:A')(Cm:Ho),p.Perm (ba n)/\fR cR (p.map ky)/\Bs Cm out/\B' H Cm (p.map ky):=by
 obtain⟨p,pp,r,rfl⟩:=so;refine⟨p,p.map λi=>Hk (ad i),pp,r,?_,?_⟩
 ·clear pp r
  induction p with
  |nil=>exact .nil
  |cons i p ih=>exact .cons rfl ih
 ·have:∀q:A',(∀i∈q,i<n)->B' H (q.map λi=>Hk (ad i)) (q.map ky):=λq=>by
   induction q with
   |nil=>intro _;trivial
   |cons i q ih=>exact λh=>⟨⟨_,rfl,hH i (h i (bh ..))⟩,ih λj hj=>h j (au _ hj)⟩
  exact this p λi hi=>bx.mp (pp.mem_iff.mp hi)
theorem PZ{α:Type}{p:A'}{n:Nat}{l:List α}{d:α}(h:p.Perm (ba n))(hl:l.length=n):(p.map λi=>l.getD i d).Perm l:=by
 refine(h.map _).trans ?_;have:(ba n).map (λi=>l.getD i d)=l:=by
  apply List.ext_getElem (by simp[hl])
  intro i h1 h2;simp[h2]
 rw[this]
abbrev A2:Ho->Hp->VK->Prop:=λxs H Q=>∃(p:ah)(vs:Ho)(ks:wt),xs=[.ref p]/\H p=some (.lst vs)/\B' H vs ks/\(∀k∈ks,k≠[])/\ks.length<64/\∀l Cm,H l=none->B' H Cm (fG cR ks)->Q (.ref l) (upd H l (.lst Cm))
theorem z1r:Bx X (.builtin "sorted") A2:=by
 intro pins s σ H xs us Q I rv ⟨p,vs,ks,e,hp,ht,ne,h64,q⟩;subst e;obtain⟨u,rfl,ru⟩:=jB rv;cases ru;obtain⟨its,rits,pl,hz⟩:=I.list (He hp);have hits:=GI ht rits;refine PN h64 (z1q I ht ne) (λQ' E' hQ=>?_) λh' tk D e out so hD ho k=>?_
 ·refine collect_list (vs:=bX ks.length (fJ vs)) (by rw[<-hits];exact pl.isList) ?_ (by rw[lM,jd];lia);refine hQ _ s.toks (λb o e=>?_) ?_
  ·have hlt:=av e;rw[jg _ _ _ _ (bc hlt),Heap.get?_push_ne _ _ _ (bc hlt)];exact e
  ·rw[Heap.size_update,vp];exact vm _
 ·obtain⟨pp,Cm,h1,h2,h3,h4⟩:=PY (H:=H) so λi hi=>(ht.at_ hi).2;have e1:pp.map (λi=>ks.getD i [])=fG cR ks:=F9 Dp h2 (PZ h1 rfl);rw[e1]at h4;have hl:=h4.len;refine⟨.ref D,_,I.laid (t':=tk) k hD (show Bv X.prog X.w _ _ _ (.lst Cm) from⟨?_,out,e,h3,ho⟩),rfl,q D Cm (I.hok.fresh hD) h4⟩;rw[hl,(rZ ks).length_eq,jd];lia
def A3(prog:bp)(w:cm)(l:ah)(o:Obj)(kb:KB):Prop:=∃es ep t,∀h:cu,h.get? l=some o->Ca prog w h l kb o es ep t
structure KbOk(H:Hp)(kb:KB)(ks:wt):Prop where
 tup:∀p∈kb,H p.2=some (.tup (p.1.map Gn))
 frm:∀p∈kb,p.1∈ks
 all:∀k∈ks,k∈kb.map ff
abbrev P0(X:Cx):Ho->Hp->VK->Prop:=λxs H Q=>∃(p:ah)(vs:Ho)(ks:wt),xs=[.ref p]/\H p=some (.lst vs)/\B' H vs ks/\(eF cR ks).length<=76/\∀l o kb,H l=none->A3 X.prog X.w l o kb->KbOk H kb ks->Q (.ref l) (upd H l (.frz o (.own 0)))
def sub_list:isSubtype (.type "list") (.type "set")=pure false/\isSubtype (.type "list") (.type "frozenset")=pure false:=⟨F.sub_list_set,F.sub_list_frozenset⟩
def z1s(rm:Ci k X.A):Bx X (.type "set") (P0 X):=by
 intro pins s σ H xs us Q I rv ⟨p,vs,ks,e,hp,ht,hU,q⟩;subst e;obtain⟨u,rfl,ru⟩:=jB rv;cases ru;let⟨its,rits,pl,hz⟩:=I.list (He hp);have hits:=GI ht rits;have lp:=I.hok.lt hp;have hI:s.heap.IsList p (bX ks.length (fJ vs)).toArray:=by rw[<-hits];exact pl.isList
 have Cv:(bX ks.length (fJ vs)).toArray.size=ks.length:=by rw[ax,lM]
 have hh:X.A.in1.in1.in1.handled=none:=rm.hd;have hne:p≠s.heap.objs.size+1:=bc (km lp);have hb:(s.heap.push (bare X.w)).IsList p (bX ks.length (fJ vs)).toArray:=hI.push _;have hs1:(s.heap.push (bare X.w)).objs.size=s.heap.objs.size+1:=vp _ _;have W:=Bd (prog:=X.prog) (w:=X.w) (A:=X.A.in1.in1.in1) hh (s.heap.objs.size+1) p hne (bX ks.length (fJ vs)).toArray;rw[Cv]at W;refine PV (T:="list") (it:={cls:=.type "list_iterator",data:=.fields #[.ref p,.int 0 0]}) (fJ vs) (λi=>ks.getD i []) (eF cR ks) (by have:=rm.un;lia) hI.typeIs sub_list.1 sub_list.2 (by decide) (λB Q' E' hQ=>?_) W ?_ ?_ ?_ (λi v hv=>?_) hU (λi hi=>?_) (λj hj=>?_) λh' tk kb hS Fu k=>?_
 ·refine uk hb ?_;rw[<-hs1]at hQ;exact hQ
 ·intro m
  rcases az.mp m with z|m
  ·exact qh _ z.symm
  ·exact jw lp (cz.mp m)
 ·intro b hb;rw[cz.mp hb];exact jz _
 ·refine⟨⟨{cls:=.type "list_iterator",data:=.fields #[.ref p,.int 0 0]},?_,rfl,rfl⟩,hb.push _⟩;rw[<-hs1];exact bg _ rfl
 ·have hi:i<ks.length:=by have:=(dy.mp hv).1;rwa [Cv]at this
  have:(bX ks.length (fJ vs))[i]?=some (.ref (fJ vs i)):=by simp[bX,hi]
  rw[Au,this]at hv;exact(cw hv).symm
 ·refine(nL Dp _ _).mpr ?_;show ks.getD i []∈ks;simp[hi]
 ·exact A1 I (ht.at_ hj).2
 ·let⟨o,es,ep,t,P⟩:=hS;refine⟨.ref s.heap.objs.size,_,I.laid (t':=tk) (o:=.frz o (.own 0)) k (aq _) ⟨P.obj,o,P.obj⟩,rfl,q _ o kb (I.hok.fresh (aq _)) ⟨es,ep,t,λh e=>P.at' e⟩ ⟨λz hz=>?_,λz hz=>?_,λz hz=>?_⟩⟩
  ·obtain⟨j,hj,rfl⟩:=Fu.from_ z hz;exact(ht.at_ hj).2
  ·obtain⟨j,hj,rfl⟩:=Fu.from_ z hz;show ks.getD j []∈ks;simp[hj]
  ·obtain⟨j,hj,rfl⟩:=kr hz;have:=Fu.all j hj;simpa[hj]using this
abbrev P4(X:Cx):Ho->Hp->VK->Prop:=λxs H Q=>∃(l:ah)(o:Obj)(kb:KB)(ks:wt),xs=[.ref l]/\H l=some (.frz o (.own 0))/\A3 X.prog X.w l o kb/\KbOk H kb ks/\(∀k∈ks,k≠[])/\(eF cR ks).length<64/\∀D Cm,H D=none->B' H Cm (eF cR ks)->Q (.ref D) (upd H D (.lst Cm))
theorem z1t{α β:Type}{f:α->β}:∀{l:List β}{l':List β},l.Perm l'->∀xs:List α,l'=xs.map f->∃ys:List α,ys.Perm xs/\l=ys.map f:=by
 intro l l' h
 induction h with
 |nil=>intro xs e;exact⟨xs,.refl _,e⟩
 |cons a _ ih=>
  intro xs e
  cases xs with
  |nil=>cases e
  |cons x xs=>simp only[da,Az]at e;obtain⟨ys,p,e'⟩:=ih xs e.2;exact⟨x::ys,p.cons x,by simp[e.1,e']⟩
 |swap a b l=>
  intro xs e
  cases xs with
  |nil=>cases e
  |cons x xs=>
   cases xs with
   |nil=>simp at e
   |cons y xs=>simp only[da,Az]at e;exact⟨y::x::xs,.swap ..,by simp[e.1,e.2.1,e.2.2]⟩
 |trans _ _ ih1 ih2=>intro xs e;obtain⟨ys,p,e'⟩:=ih2 xs e;obtain⟨zs,p',e''⟩:=ih1 ys e';exact⟨zs,p'.trans p,e''⟩
theorem z1u{k:Nat}(rm:Ci k X.A):Bx X (.builtin "sorted") (P4 X):=by
 intro pins s σ H xs us Q I rv ⟨l,o,kb,ks,e,hl,⟨es,ep,t,hP⟩,kO,ne,h64,q⟩;subst e;obtain⟨u,rfl,ru⟩:=jB rv;cases ru;have P:=hP s.heap (I.hok l _ hl).1;have pe:(jR X.w l ep es).toList.Perm (iC X.prog X.w kb):=by rw[<-P.es];exact PJ _ _ _ _
 obtain⟨kc,pk,ek⟩:=z1t pe kb rfl;have mem:∀i,i<kc.length->kc.getD i ([],0)∈kb:=λi hi=>pk.mem_iff.mp (by simp[hi]);have hn:(kb.map ff).length=(eF cR ks).length:=by refine List.Perm.length_eq ((ni P.nd (sC Dp (qM Dp ks))).mpr λz=>?_);rw[nL Dp];refine⟨λh=>?_,λh=>kO.all z h⟩;obtain⟨p,hp,rfl⟩:=cf.mp h;exact kO.frm p hp
 have hlen:kc.length<64:=by rw[pk.length_eq];rw[bo]at hn;lia
 have hes:es.size=kc.length:=by rw[P.size,pk.length_eq]
 have KA:Cy X.prog X.w s.heap kc.length (λi=>(kc.getD i ([],0)).2) (λi=>(kc.getD i ([],0)).1):=λi hi=>⟨A1 I (kO.tup _ (mem i hi)),ne _ (kO.frm _ (mem i hi))⟩
 have er:(jR X.w l ep es).toList.map (·.2)=bX kc.length (λi=>(kc.getD i ([],0)).2):=by
  rw[ek,jf]
  apply List.ext_getElem (by simp[lM])
  intro i h1 h2;have hi:i<kc.length:=by simpa using h1
  simp[bX,hi]
 refine PN hlen KA (λQ' E' hQ=>?_) λh' tk D e out so hD ho k=>?_
 ·refine z1l (show X.A.in1.handled=none from rm.hd) P (by rw[hes,jd];lia) λh' tk kk sz=>?_;rw[er];exact hQ h' tk kk sz
 ·obtain⟨pp,Cm,h1,h2,h3,h4⟩:=PY (H:=H) so λi hi=>kO.tup _ (mem i hi);have pm:(pp.map λi=>(kc.getD i ([],0)).1).Perm (kb.map ff):=by have:=((PZ (d:=(([],0):y'×ah)) h1 rfl).trans pk).map ff;rwa [jf]at this
  have nd:(pp.map λi=>(kc.getD i ([],0)).1).Nodup:=pm.nodup_iff.mpr P.nd;have rs:eW cR (pp.map λi=>(kc.getD i ([],0)).1):=by
   refine(h2.and nd).imp λ{a b}⟨x,y⟩=>?_
   cases q:cR a b with
   |true=>rfl
   |false=>exact absurd (Dp.tot a b q x) y
  have e1:(pp.map λi=>(kc.getD i ([],0)).1)=eF cR ks:=z0h Dp rs λz=>by rw[pm.mem_iff];refine⟨λh=>?_,λh=>kO.all z h⟩;obtain⟨p,hp,rfl⟩:=cf.mp h;exact kO.frm p hp
  rw[e1]at h4;refine⟨.ref D,_,I.laid (t':=tk) k hD (show Bv X.prog X.w _ _ _ (.lst Cm) from⟨?_,out,e,h3,ho⟩),rfl,q D Cm (I.hok.fresh hD) h4⟩;rw[h4.len,jd];lia
end
def nO:Dv->Option y' 
 |.tup xs=>bE fI xs
 |_=>none
def sG(k:y'):Dv:=.tup (k.map Gh)
section
variable{X:Cx}{G:Cfg}{E:XK}{k:Nat}{e a b:bq}{es:List bq}{ma mb:M Dv}{aT:M Bj}{p p2 pos Dm:Pos}
theorem A4{μ:Nat->ah}{n:Nat}{H:Hp}:∀{xs:Bj}{vs:Ho}{ks:wt},RelDL G μ n H xs vs->bE nO xs=some ks->B' H vs ks
 |[],_,ks,r,e=>by cases e;rw[RelDL]at r;subst r;trivial
 |x::xs,_,ks,r,e=>by
  rw[RelDL]at r;obtain⟨v,rr,rfl,r1,r2⟩:=r;unfold bE at e
  cases x with
  |tup ds=>
   dsimp only[nO]at e
   cases q:bE fI ds with
   |none=>rw[q]at e;cases e
   |some zs=>
    rw[q]at e;dsimp only at e
    cases q2:bE nO xs with
    |none=>rw[q2]at e;cases e
    |some ys=>rw[q2]at e;cases e;rw[Bq]at r1;obtain⟨b,us,rfl,h1,h2⟩:=r1;rw[qH h2 q]at h1;exact⟨⟨b,rfl,h1⟩,A4 r2 q2⟩
  |_=>cases e
theorem GJ:∀{vs:Ho}{ks:wt},B' H vs ks->RelDL G μ n H (ks.map sG) vs
 |[],[],_=>Gr
 |[],_::_,h=>h.elim
 |_::_,[],h=>h.elim
 |v::vs,k::ks,h=>by obtain⟨⟨b,rfl,e⟩,h2⟩:=h;refine Gw ?_ (GJ h2);unfold sG;rw[Bq];exact⟨b,_,rfl,e,rK k⟩
def sH(ks:wt):Bool:=ks.all λk=>!k.isEmpty
def P5(h:sH ks=true):∀k∈ks,k≠[]:=λk hk e=>by have:=dv.mp h k hk;rw[e]at this;cases this
def uT(x:Dv)(h:Hs):Rs Dv:=match x with
 |.ref i=>match getL h i with
  |some xs=>match bE nO xs with
   |some ks=>if(sH ks&&decide (ks.length<64))=true then .ok (.ref h.length) (h++[.lst ((fG cR ks).map sG)])else .bad
   |none=>.bad
  |none=>.bad
 |_=>.bad
def P6:kY G (λx H Q=>A2 [x] H Q) uT:=by
 intro E μ h H x vx Q s r o
 cases x with
 |ref i=>
  dsimp only[uT]at o
  cases q:getL h i with
  |none=>rw[q]at o;exact o.elim
  |some xs=>
   rw[q]at o;dsimp only at o
   cases q2:bE nO xs with
   |none=>rw[q2]at o;exact o.elim
   |some ks=>
    rw[q2]at o;dsimp only at o
    split at o
    ·rename_i h0;rw[cq]at h0;let⟨vs,e1,r1⟩:=s.ob i _ (dN q);obtain⟨_,rfl⟩:=r;exact⟨_,vs,ks,rfl,e1,A4 r1 q2,P5 h0.1,by simpa using h0.2,λl Cm hl ht=>mX s (GJ ht) hl o⟩
    ·exact o.elim
 |_=>exact o.elim
def lN(x:Dv)(h:Hs):Rs Dv:=match qK x h with
 |.ok d h1=>.ok d h1
 |_=>uT x h
abbrev P7:Ho->Hp->VK->Prop:=λxs H Q=>∃(p:ah)(ns:y'),xs=[.ref p]/\H p=some (.lst (ns.map Gn))/\ns.length<64/\∀l,H l=none->Q (.ref l) (upd H l (.lst ((gB ns).map Gn)))
def z1v:kY G (λx H Q=>P7 [x] H Q∨A2 [x] H Q) lN:=by
 intro E μ h H x vx Q s r o;unfold lN at o
 cases q:qK x h with
 |ok d h1=>rw[q]at o;let⟨p,ns,e,r1⟩:=z04 E μ h H x vx Q s r (by rw[q];exact o);exact .inl ⟨p,ns,by rw[e],r1⟩
 |ex c h1=>rw[q]at o;exact .inr (P6 E μ h H x vx Q s r o)
 |bad=>rw[q]at o;exact .inr (P6 E μ h H x vx Q s r o)
def z1w:Bx X (.builtin "sorted") (λxs H Q=>P7 xs H Q∨A2 xs H Q):=by
 intro pins s σ H xs us Q I rv h
 rcases h with h|h
 ·exact z03 pins s σ H xs us Q I rv h
 ·exact z1r pins s σ H xs us Q I rv h
def GK(hg:Gl X "sorted")(hm:X.mg "sorted"=none)(ha:eC X G E [e] aT)(he:ay [e] X.env=[(false,eval e X.env)]:=by rfl):aJ X G E (.Call (.Name "sorted" p) [e] [] pos) (aD (f1 lN) aT):=
 tZ (Bx.imp z1w λxs H Q⟨v,h1,h2⟩=>by rw[h1];exact h2) (uB z1v) hg hm F0 ha (by decide) (by decide) he rfl
def P8:dz "set"=some (.type "set"):=by decide+kernel
end
open PySem.SeqAt PySem.MeetsSeq PySem.MeetsSeq2 PySem.MeetsSeq3
section
variable{X:Cx}{G:Cfg}{E:XK}{k:Nat}{e a b o:bq}{es:List bq}{mo me ma mb:M Dv}{aT:M Bj}{p p2 pos Dm apos cpos np:Pos}{y:Str}
def z1x{s:ag}{lo hi:Option Int}{Q:af->ag->Prop}(ht:yh s.heap t items)(hs:s.heap.IsSliceOf sl vl vu .none)(pl:uv vl lo)(pu:uv vu hi)(h0:HT.sIx items.size 0 lo=0)(h1:HT.sIx items.size items.size hi=items.size)(h:Q (.ref t) s):wpAny (model prog w) A (getItem (.ref t) (.ref sl)) Q Ee s:=by
 let⟨os,hos,Ew,hds⟩:=id hs;have hTs:s.TypeIs (.ref sl) "slice":=⟨os,hos,Ew⟩;have tt:=ht.typeIs;let⟨ot,et,ct,_⟩:=id ht;unfold getItem
 try with_reducible refine gy ?_
 first|refine aa (ak ?_)|skip
 refine aa (yk tt (by decide) (aa (gn (name:=mf "__getitem__") tt df (fv df tt xw ?_ (xl _ _)))));refine aa (m:=slotArgs "__getitem__" 1 ⟨[.ref t,.ref sl],[]⟩) (ak (aa (xr ht (aa (oh hTs ?_)))));rw[if_pos (by decide)];refine aa (HT.sliceApplied_gen hs pl pu ?_);rw[h0,h1];show wpAny _ _ (if(((0:Nat):Int)==0&&(1:Int)==1&&(items.size-0)==items.size)=true then _ else _) _ _ s;rw[if_pos (by simp)];unfold Builtin.Tuple.tupleIsExact;refine aa (aa (oh tt (ak ?_)));rw[if_pos (by decide)];refine aa (tq (ak ⟨_,rfl,ak h⟩))
def z1y:SlR X (λx lo hi H Q=>∃a xs,x=.ref a/\Cd X.K H a xs/\HT.sIx xs.length 0 lo=0/\HT.sIx xs.length xs.length hi=xs.length/\Q (.ref a) H):=by
 intro pins s σ H x v vl vu lo hi sl Q I rx hs pl pu ⟨a,xs,ex,hx,h0,h1,q⟩;subst ex;cases rx;let⟨its,r,ht,hz⟩:=I.tuple hx;have hlen:its.toArray.size=xs.length:=by rw[ax];exact r.length.symm
 exact⟨"tuple",_,df.lookup,ht.typeIs,z1x ht hs pl pu (by rw[hlen];exact h0) (by rw[hlen];exact h1) ⟨.ref a,H,I,rfl,q⟩⟩
def sJ(x:Dv)(lo hi:Option Int)(h:Hs):Rs Dv:=match x with
 |.ref j=>match getL h j with
  |some xs=>.ok (.ref h.length) (h++[.lst (lE xs lo hi)])
  |none=>.bad
 |.tup xs=>.ok (.tup (lE xs lo hi)) h
 |_=>.bad
def z1z{xs:Bj}{lo hi:Option Int}(h0:HT.sIx xs.length 0 lo=0)(h1:HT.sIx xs.length xs.length hi=xs.length):lE xs lo hi=xs:=by unfold lE;rw[h0,h1];simp
def hV(m:M Dv)(lo hi:MO):M Dv:=λρ h=>(m ρ h).bind λx h1=>(lo ρ h1).bind λl h2=>(hi ρ h2).bind λu h3=>sJ x l u h3
theorem oY{lo hi:Option bq}{ml mh:MO}(ho:aJ X G E o mo)(hl:xB X G E lo ml)(hh:xB X G E hi mh):aJ X G E (.Subscript o (.Slice lo hi none p2) pos) (hV mo ml mh):=λhK=>
 Gp (XE (SlR.or (SlR.or XR XG) z1y) (ho hK) (hl hK) (hh hK)) λσ H Q⟨μ,ρ,h,rs,s,oo⟩=>eZ rs s oo λμ1 x h1 vx H1 x1 Cc s1 r1 o1=>by
  refine⟨μ1,ρ,h1,Cc,s1,(o1.bind (R1:=λ_ _ _ a b=>b=a)).mono λl' H2⟨μ2,l,h2,x2,s2,el,o2⟩=>?_⟩;subst el;refine⟨μ2,ρ,h2,Cc.mono x2,s2,(o2.bind (R1:=λ_ _ _ a b=>b=a)).mono λu' H3⟨μ3,u,h3,x3,s3,eu,o3⟩=>?_⟩;subst eu;have r3:=Gx (x2.trans x3) _ _ r1
  cases x with
  |ref j=>
   dsimp only[sJ]at o3
   cases q:getL h3 j with
   |none=>rw[q]at o3;exact o3.elim
   |some xs=>rw[q]at o3;obtain⟨vs,ea,ra⟩:=s3.ob j _ (dN q);obtain⟨_,rfl⟩:=r3;exact .inl (.inl ⟨_,vs,rfl,He ea,λp hp=>mX s3 (NN ra _ _) hp o3⟩)
  |tup xs=>
   dsimp only[sJ]at o3;obtain⟨a,vs,rfl,ea,ra⟩:=r3
   by_cases hw:HT.sIx xs.length 0 l'=0/\HT.sIx xs.length xs.length u'=xs.length
   ·refine .inr ⟨a,vs,rfl,Gq ea,by rw[ra.length];exact hw.1,by rw[ra.length];exact hw.2,o3 μ3 _ _ Gs s3 ?_⟩;rw[z1z hw.1 hw.2];exact⟨a,vs,rfl,ea,ra⟩
   ·exact .inl (.inr ⟨a,vs,rfl,Gq ea,by rw[ra.length];exact hw,λp hp=>o3 μ3 _ _ (Gm (cN hp)) (s3.same (cN hp)) ⟨p,_,rfl,cU,Gk (Gm (cN hp)) _ _ (NN ra _ _)⟩⟩)
  |_=>exact o3.elim
def gC(x y:Dv)(h:Hs):Rs Dv:=match x,y with
 |.int i,.int j=>.ok (.bl (decide (i<j))) h
 |.tup xs,.tup ys=>match bE fI xs,bE fI ys with
  |some ns,some ms=>.ok (.bl (HT.lexLt ns ms)) h
  |_,_=>.bad
 |_,_=>.bad
theorem P9:∀x y:y',HT.lexLt x y=cR x y
 |[],[]=>rfl
 |[],_::_=>rfl
 |_::_,[]=>rfl
 |a::x,b::y=>by
  rw[HT.lexLt_cons,cR,P9 x y]
  by_cases h:a=b<;>simp[h]
def QA:gG G (λx y H Q=>(kX λi j=>.bl (decide (i<j))) x y H Q∨KY G.K x y H Q) gC:=by
 intro E μ h H x y vx vy Q s rx ry o;unfold gC at o
 split at o
 ·rename_i i j;exact .inl (tX E μ h H (.int i) (.int j) vx vy Q s rx ry o)
 ·rename_i xs ys
  cases q1:bE fI xs with
  |none=>rw[q1]at o;exact o.elim
  |some ns=>
   cases q2:bE fI ys with
   |none=>rw[q1,q2]at o;exact o.elim
   |some ms=>rw[q1,q2]at o;obtain⟨a,us,rfl,ea,ra⟩:=rx;obtain⟨b,ws,rfl,eb,rb⟩:=ry;exact .inr ⟨a,b,ns,ms,rfl,rfl,Gq (by rw[ea,qH ra q1]),Gq (by rw[eb,qH rb q2]),o.val s rfl⟩
 ·exact o.elim
def GL(g:Good X G E k)(ha:aJ X G E a ma)(hb:aJ X G E b mb):aJ X G E (.Compare a [.Lt] [b] pos) (m2 gC ma mb):=λhK=>zR (Cw.or J6 (KZ (by have:=g.room.un;lia))) (by rw[hK];exact QA) ha hb (pQ _) hK
def QB(g:Good X G E k)(ha:aJ X G E a ma)(hb:aJ X G E b mb):hZ X G E (.Compare a [.Lt] [b] pos) (mB (m2 gC ma mb)):=λhK=>tT (Cw.or J6 (KZ (by have:=g.room.un;lia))) (by rw[hK];exact QA) ha hb (pQ _) hK
def cO(j:Int):y':=(ba j.toNat).map λk:Nat=>(k:Int)
def z20:Bx X (.type "range") (λxs H Q=>∃j:Int,xs=[.int j]/\∀l,H l=none->Q (.ref l) (upd H l (.rng 0 j))):=by intro pins s σ H xs us Q I rv ⟨j,e,q⟩;subst e;obtain⟨u,rfl,ru⟩:=jB rv;obtain⟨t,rfl⟩:=ru;refine call_range_1 ⟨.ref s.heap.objs.size,_,I.laid (t':=s.toks+1+1) (o:=.rng 0 j) (λb ob q=>ao _ q) (aq _) ⟨_,_,_,bg _ rfl⟩,rfl,q _ (I.hok.fresh (aq _))⟩
def z21(rm:Ci k X.A):Bx X (.type "list") (λxs H Q=>∃(l:ah)(j:Int),xs=[.ref l]/\H l=some (.rng 0 j)/\0<=j/\j<=1000/\∀D,H D=none->Q (.ref D) (upd H D (.lst ((cO j).map Gn)))):=by
 intro pins s σ H xs us Q I rv ⟨l,j,e,hl,h0,h1,q⟩;subst e;obtain⟨u,rfl,ru⟩:=jB rv;cases ru;let⟨t,u,v,hr⟩:=I.hok l _ hl;refine call_list_range (n:=j.toNat) (a:=0) (b:=j) (c:=1) rm.hd hr (small_one (by lia) (by lia) (by lia) (by lia)) ?_ (by lia) λh' tk acc c ke ho ia=>?_
 ·rw[rangeSize_one]
  split<;>lia
 ·have hv:Bs ((cO j).map Gn) acc.toList:=by
   have:∀(n:Nat)(as:List af),as.length=n->(∀(i:Nat)(v:af),as[i]?=some v->∃t,v=Value.int (0+(i:Int)*1) t)->Bs (((ba n).map λk:Nat=>(k:Int)).map Gn) as:=λn=>by
    induction n with
    |zero=>intro as hl _;rw[zt.mp hl];exact .nil
    |succ n ih=>
     intro as hl hi;have hne:as≠[]:=λz=>by rw[z]at hl;cases hl
     have e:=List.dropLast_concat_getLast hne;rw[<-e,uy,fh,fh];have hlast:as[n]?=some (as.getLast hne):=by
      rw[List.getLast_eq_getElem,bj (by lia)]
      congr 2;lia
     let⟨t,ht⟩:=hi n _ hlast;refine Bs.append (ih as.dropLast (by simp[hl]) λi v hv=>hi i v ?_) ?_
     ·rw[List.getElem?_dropLast]at hv
      split at hv
      ·exact hv
      ·cases hv
     ·refine .cons ?_ .nil;show RelV (.int (n:Int)) _;rw[ht];exact⟨t,by simp⟩
   refine this j.toNat acc.toList (by simpa using ia.1) λi v hv=>?_;exact ia.2 i v (by simpa using hv)
  refine⟨.ref s.heap.objs.size,_,I.laid (t':=tk) ke (aq _) (show Bv X.prog X.w _ _ _ (.lst ((cO j).map Gn)) from⟨?_,acc.toList,c,hv,?_⟩),rfl,q _ (I.hok.fresh (aq _))⟩
  ·rw[bo,cO,bo,ki,jd];lia
  ·rw[ho]
def nQ:Dv->Hs->Rs Dv
 |.int j,h=>if(decide (0<=j)&&decide (j<=1000))=true then .ok (.ref h.length) (h++[.lst ((cO j).map Gh)])else .bad
 |_,_=>.bad
theorem QC(g:Good X G E k)(hg:Gl X "list")(hm:X.mg "list"=none)(hg2:Gl X "range")(hm2:X.mg "range"=none)(ha:eC X G E [e] aT)(he:ay [e] X.env=[(false,eval e X.env)]:=by rfl)(Eh:ay [Expr.Call (.Name "range" p2) [e] [] Dm] X.env=[(false,eval (.Call (.Name "range" p2) [e] [] Dm) X.env)]:=by rfl):
  aJ X G E (.Call (.Name "list" p) [.Call (.Name "range" p2) [e] [] Dm] [] pos) (aD (f1 nQ) aT):=λhK=>
 Gp (tL (z21 g.room) hg hm zW (hY (tL z20 hg2 hm2 boot_range (ha hK) (by decide) (by decide) he rfl) jI Eh) (by decide) (by decide) Eh rfl) λσ H Q⟨μ,ρ,h,rs,s,o⟩=>by
  refine lY rs s o λμ1 ds h1 vs H1 x1 Cc s1 r1 o1=>?_;unfold f1 at o1
  split at o1
  ·rename_i d;obtain⟨v,rfl,rv⟩:=uA r1
   cases d with
   |int j=>
    dsimp only[nQ]at o1
    split at o1
    ·rename_i h0;rw[cq]at h0;have j0:0<=j:=by simpa using h0.1
     have j1:j<=1000:=by simpa using h0.2
     rw[Bq]at rv;subst rv;refine⟨j,rfl,λl hl=>?_⟩;have sm:=cN (o:=.rng 0 j) hl;refine⟨l,j,rfl,cU,j0,j1,λD hD=>?_⟩;exact mX (E:=E) (s1.same sm) (rK _) hD (λμ' H' v x'=>o1 μ' H' v ((Gm sm).trans x'))
    ·exact o1.elim
   |_=>exact o1.elim
  ·exact o1.elim
end
section
variable{X:Cx}{G:Cfg}{E:XK}{k:Nat}{e a b o:bq}{es:List bq}{mo me ma mb:M Dv}{aT:M Bj}{p p2 pos Dm apos cpos np:Pos}{y:Str}
def sub_tuple:isSubtype (.type "tuple") (.type "set")=pure false/\isSubtype (.type "tuple") (.type "frozenset")=pure false:=by constructor<;>(rw[isSubtype_type];kernel_rfl)
abbrev QD(X:Cx):Ho->Hp->VK->Prop:=λxs H Q=>∃(p:ah)(vs:Ho)(ks:wt),xs=[.ref p]/\H p=some (.tup vs)/\B' H vs ks/\(eF cR ks).length<=76/\∀l o kb,H l=none->A3 X.prog X.w l o kb->KbOk H kb ks->Q (.ref l) (upd H l (.frz o (.own 0)))
def z22(rm:Ci k X.A):Bx X (.type "set") (QD X):=by
 intro pins s σ H xs us Q I rv ⟨p,vs,ks,e,hp,ht,hU,q⟩;subst e;obtain⟨u,rfl,ru⟩:=jB rv;cases ru;let⟨its,rits,pl,hz⟩:=I.tuple (Gq hp);have hits:=GI ht rits;have lp:=I.hok.lt hp;have hI:s.heap.IsTuple p (bX ks.length (fJ vs)).toArray:=by rw[<-hits];exact pl
 have Cv:(bX ks.length (fJ vs)).toArray.size=ks.length:=by rw[ax,lM]
 have hne:p≠s.heap.objs.size+1:=bc (km lp);have hb:(s.heap.push (bare X.w)).IsTuple p (bX ks.length (fJ vs)).toArray:=yr (items:=(bX ks.length (fJ vs)).toArray) hI _;have hs1:(s.heap.push (bare X.w)).objs.size=s.heap.objs.size+1:=vp _ _;have W:=Walks.tuple (prog:=X.prog) (w:=X.w) (A:=X.A.in1.in1.in1) (show X.A.in1.in1.in1.handled=none from rm.hd) (s.heap.objs.size+1) p hne (bX ks.length (fJ vs)).toArray;rw[Cv]at W;refine PV (T:="tuple") (it:={cls:=.type "tuple_iterator",data:=.fields #[.ref p,.int 0 0]}) (fJ vs) (λi=>ks.getD i []) (eF cR ks) (by have:=rm.un;lia) hI.typeIs sub_tuple.1 sub_tuple.2 (by decide) (λB Q' E' hQ=>?_) W (λm=>?_) (λb hb=>?_) ⟨⟨{cls:=.type "tuple_iterator",data:=.fields #[.ref p,.int 0 0]},?_,rfl,rfl⟩,yr (items:=(bX ks.length (fJ vs)).toArray) hb _⟩ (λi v hv=>?_) hU (λi hi=>?_) (λj hj=>A1 I (ht.at_ hj).2) λh' tk kb hS Fu k=>?_
 ·refine pd hb ?_;rw[<-hs1]at hQ;exact hQ
 ·rcases az.mp m with z|m
  ·exact qh _ z.symm
  ·exact jw lp (cz.mp m)
 ·rw[cz.mp hb];exact jz _
 ·rw[<-hs1];exact bg _ rfl
 ·have hi:i<ks.length:=by have:=(dy.mp hv).1;rwa [Cv]at this
  have:(bX ks.length (fJ vs))[i]?=some (.ref (fJ vs i)):=by simp[bX,hi]
  rw[Au,this]at hv;exact(cw hv).symm
 ·refine(nL Dp _ _).mpr ?_;show ks.getD i []∈ks;simp[hi]
 ·let⟨o,es,ep,t,P⟩:=hS;refine⟨.ref s.heap.objs.size,_,I.laid (t':=tk) (o:=.frz o (.own 0)) k (aq _) ⟨P.obj,o,P.obj⟩,rfl,q _ o kb (I.hok.fresh (aq _)) ⟨es,ep,t,λh e=>P.at' e⟩ ⟨λz hz=>?_,λz hz=>?_,λz hz=>?_⟩⟩
  ·obtain⟨j,hj,rfl⟩:=Fu.from_ z hz;exact(ht.at_ hj).2
  ·obtain⟨j,hj,rfl⟩:=Fu.from_ z hz;show ks.getD j []∈ks;simp[hj]
  ·obtain⟨j,hj,rfl⟩:=kr hz;have:=Fu.all j hj;simpa[hj]using this
def z23(rm:Ci k X.A):Bx X (.type "set") (λxs H Q=>P0 X xs H Q∨QD X xs H Q):=by
 intro pins s σ H xs us Q I rv h
 rcases h with h|h
 ·exact z1s rm pins s σ H xs us Q I rv h
 ·exact z22 rm pins s σ H xs us Q I rv h
def sL(x:Dv)(h:Hs):Option wt:=match x with
 |.ref i=>match getL h i with
  |some xs=>bE nO xs
  |none=>none
 |.tup xs=>bE nO xs
 |_=>none
def nS(x:Dv)(h:Hs):Rs Dv:=match sL x h with
 |some ks=>if(sH ks&&decide ((eF cR ks).length<64))=true then .ok (.ref h.length) (h++[.lst ((eF cR ks).map sG)])else .bad
 |none=>.bad
theorem QE(g:Good X G E k)(hg:Gl X "sorted")(hm:X.mg "sorted"=none)(hg2:Gl X "set")(hm2:X.mg "set"=none)(ha:eC X G E [e] aT)(he:ay [e] X.env=[(false,eval e X.env)]:=by rfl)(Eh:ay [Expr.Call (.Name "set" p2) [e] [] Dm] X.env=[(false,eval (.Call (.Name "set" p2) [e] [] Dm) X.env)]:=by rfl):
  aJ X G E (.Call (.Name "sorted" p) [.Call (.Name "set" p2) [e] [] Dm] [] pos) (aD (f1 nS) aT):=λhK=>
 Gp (tK (z1u g.room) hg hm F0 (hY (tL (z23 g.room) hg2 hm2 P8 (ha hK) (by decide) (by decide) he rfl) jI Eh) (by decide) (by decide) Eh rfl) λσ H Q⟨μ,ρ,h,rs,s,o⟩=>by
  refine lY rs s o λμ1 ds h1 vs H1 x1 Cc s1 r1 o1=>?_;unfold f1 at o1
  split at o1
  ·rename_i d;obtain⟨v,rfl,rv⟩:=uA r1;unfold nS at o1
   cases q:sL d h1 with
   |none=>rw[q]at o1;exact o1.elim
   |some ks=>
    rw[q]at o1;dsimp only at o1
    split at o1
    ·rename_i h0;rw[cq]at h0;have h64:(eF cR ks).length<64:=by simpa using h0.2
     have fin:∀(l:ah)(o:Obj)(kb:KB),H1 l=none->A3 X.prog X.w l o kb->KbOk H1 kb ks->P4 X [.ref l] (upd H1 l (.frz o (.own 0))) Q:=λl o kb hl so ko=>by have sm:=cN (o:=.frz o (.own 0)) hl;refine⟨l,o,kb,ks,rfl,cU,so,⟨λp hp=>sm _ _ (ko.tup p hp),ko.frm,ko.all⟩,P5 h0.1,h64,λD Cm hD ht=>?_⟩;exact mX (E:=E) (s1.same sm) (GJ ht) hD (λμ' H' v x'=>o1 μ' H' v ((Gm sm).trans x'))
     cases d with
     |ref i=>
      dsimp only[sL]at q
      cases q1:getL h1 i with
      |none=>rw[q1]at q;cases q
      |some xs=>rw[q1]at q;obtain⟨vs,e1,r2⟩:=s1.ob i _ (dN q1);obtain⟨_,rfl⟩:=rv;exact .inl ⟨_,vs,ks,rfl,e1,A4 r2 q,by lia,fin⟩
     |tup xs=>obtain⟨a,vs,rfl,e1,r2⟩:=rv;exact .inr ⟨_,vs,ks,rfl,e1,A4 r2 q,by lia,fin⟩
     |_=>cases q
    ·exact o1.elim
  ·exact o1.elim
def z24{s:ag}{vs:List af}{Q:List af->ag->Prop}(ht:yh s.heap l vs.toArray)(hz:vs.length<=cg)(q:∀h',sF s.heap h'->s.heap.objs.size<=h'.objs.size->Q vs {s with heap:=h'}):wpAny (model prog w) A (collect (.ref l)) Q Ee s:=by
 have up:sF s.heap (s.heap.push (seqObj "list" #[] 0)):=λb o e=>ao _ e;have hS:(s.heap.push (seqObj "list" #[] 0)).get? s.heap.objs.size=some (seqObj "list" #[] 0):=bg _ rfl;let⟨o,ho,hc,n,hd⟩:=ht;unfold collect;refine aa (wy (nc entry_proto_collect' ?_));rw[kd F.plain_proto_collect _];refine aa (m:=newList []) (vc (ak ⟨wm _ (by decide+kernel),nc entry_list_iadd' ?_⟩));rw[kd F.plain_list_iadd _];show wpAny _ A.in1 (lg (.ref s.heap.objs.size) (.ref l) (.ref s.heap.objs.size)) _ _ {s with heap:=s.heap.push (seqObj "list" #[] 0)};unfold lg;refine aa (oh (T:="tuple") ⟨o,up l o ho,hc⟩ ?_);rw[if_pos (by simp)];refine aa (listItems_at (up l o ho) hd (aa (listItems_at hS rfl ?_)));rw[if_neg (by simp)];refine aa (uz hS rfl (ak ?_) (gv _) (by show(#[]++vs.toArray).size<=cg+1;simp only[Array.size_append,ax,og];lia));have hS2:=nh hS λx=>x++vs.toArray;show wpAny (model prog w) A (load s.heap.objs.size >>=_) Q Ee _;refine aa (wpAny_load hS2 (ak ?_));have e:((#[]:Array af)++vs.toArray).toList=vs:=by simp
 rw[e];refine q _ (λb o e=>?_) ?_
 ·rw[jg _ _ _ _ (bc (av e))];exact up b o e
 ·rw[Heap.size_update,vp];exact vm _
end
theorem GN{α β:Type}{f g:α->Option β}:∀l:List α,(∀x∈l,f x=g x)->l.filterMap f=l.filterMap g
 |[],_=>rfl
 |x::l,h=>by rw[ck,ck,h x (by simp),GN l λy hy=>h y (by simp[hy])]
def z25(xs:Array af):((ba xs.size).filterMap λ(m:Nat)=>xs[((xs.size:Int)-1+(m:Int)*(-1)).toNat]?).toArray=xs.toList.reverse.toArray:=by
 congr 1
 have e:((ba xs.size).filterMap λ(m:Nat)=>xs[((xs.size:Int)-1+(m:Int)*(-1)).toNat]?)=(ba xs.size).filterMap λm=>xs.toList.reverse[m]?:=by
  refine GN _ λm hm=>?_;have Fe:m<xs.size:=bx.mp hm;rw[List.getElem?_reverse (by simpa using Fe),mq]
  congr 1
  simp;lia
 rw[e];have:∀(l:List af)(n:Nat),n<=l.length->(ba n).filterMap (λm=>l[m]?)=l.take n:=λl n=>by
  induction n with
  |zero=>intro _;simp
  |succ n ih=>intro h;rw[uy,List.filterMap_append,ih (by lia),kj (by lia)];simp[show n<l.length by lia]
 rw[this _ _ (by simp),um (by simp)]
def z26{s:ag}{n:Nat}{Q:Int×Int×Nat->ag->Prop}(hs:s.heap.IsSliceOf sl .none .none vs)(pv:uv vs (some (-1)))(h:Q ((n:Int)-1,-1,n) s):wpAny (model prog w) A (ll (.ref sl) (pure (n:Int))) Q Ee s:=by
 let⟨os,hos,Ew,hds⟩:=id hs;have e1:jb none none (-1) (n:Int)=((n:Int)-1,-1):=by simp[jb]
 have e2:gg ((n:Int)-1) (-1) (-1)=n:=by
  unfold gg;rw[if_neg (by decide)]
  split
  ·simp
  ·simp;lia
 unfold ll wk;refine aa (aa (fg hos hds (x:=.none) rfl (aa (fg hos hds (x:=.none) rfl (aa (fg hos hds (x:=vs) rfl (ak ?_)))))));refine aa (HT.slicePart_ pv ?_);show wpAny _ _ (if((-1:Int)==0)=true then _ else _) _ _ s;rw[if_neg (by decide)];refine aa (HT.slicePart_ .none (aa (HT.slicePart_ .none (aa (ak ?_)))));show wpAny _ _ (match jb none none (-1) (n:Int)with|(lo,hi)=>pure (lo,(-1:Int),gg lo hi (-1))) _ _ s;rw[e1];show wpAny _ _ (pure ((n:Int)-1,(-1:Int),gg ((n:Int)-1) (-1) (-1))) _ _ s;rw[e2];exact ak h
def z27{s:ag}{Q:af->ag->Prop}(ht:yh s.heap t items)(hs:s.heap.IsSliceOf sl .none .none vs)(pv:uv vs (some (-1)))(hz:items.size<=cg)(h:Q (.ref s.heap.objs.size) {s with heap:=s.heap.push {cls:=.type "tuple",data:=.seq items.toList.reverse.toArray} }):wpAny (model prog w) A (getItem (.ref t) (.ref sl)) Q Ee s:=by
 let⟨os,hos,Ew,hds⟩:=id hs;have hTs:s.TypeIs (.ref sl) "slice":=⟨os,hos,Ew⟩;have tt:=ht.typeIs;have szo:sizeOk (.seq items.toList.reverse.toArray):=by show items.toList.reverse.toArray.size<=cg;simpa using hz
 unfold getItem
 try with_reducible refine gy ?_
 first|refine aa (ak ?_)|skip
 refine aa (yk tt (by decide) (aa (gn (name:=mf "__getitem__") tt df (fv df tt xw ?_ (xl _ _)))));refine aa (m:=slotArgs "__getitem__" 1 ⟨[.ref t,.ref sl],[]⟩) (ak (aa (xr ht (aa (oh hTs ?_)))));rw[if_pos (by decide)];refine aa (z26 hs pv ?_);show wpAny _ _ (if(((items.size:Int)-1)==0&&(-1:Int)==1&&items.size==items.size)=true then _ else _) _ _ s;rw[if_neg (by simp),z25]
 first
  |exact aa (m:=gp _) (dw (ak ⟨_,rfl,ak h⟩) szo)
  |exact aa (m:=gp _) (dw (aa (ak (ak ⟨_,rfl,ak h⟩))) szo)
  |exact aa (aa (m:=gp _) (dw (ak (ak ⟨_,rfl,ak h⟩)) szo))
  |exact aa (aa (m:=gp _) (dw (ak ⟨_,rfl,ak h⟩) szo))
section
variable{X:Cx}{G:Cfg}{E:XK}{o:bq}{mo:M Dv}{ms:MO}{se:bq}{p2 pos:Pos}
def z28(K:ar)(te:TE)(ts:TO):TE:=λσ H Q=>te σ H λx H1=>ts σ H1 λl H2=>l=some (-1)/\∃a xs,x=.ref a/\Cd K H2 a xs/\∀p,H2 p=none->Q (.ref p) (upd H2 p (.tup xs.reverse))
theorem z29{te:TE}{ts:TO}(he:PE X o te)(hs:PO X (some se) ts):PE X (.Subscript o (.Slice none none (some se) p2) pos) (z28 X.K te ts):=by
 intro pins s σ H Q I h;refine Subscript_ (aY (he pins s σ H _ I h) λv s1⟨x,H1,I1,r1,q1⟩=>?_);refine wpAny_Slice ?_;rw[Bc];refine ak (ak (aY (hs pins s1 σ H1 _ I1 q1) λvs s3⟨l,H3,I3,pl,el,a,xs,ex,hx,q⟩=>?_));subst el;subst ex;cases r1;have I4:Inv X pins σ H3 {s3 with heap:=s3.heap.push {cls:=.type "slice",data:=.fields #[.none,.none,vs]} }:=I3.kept (t':=s3.toks) λb ob q=>ao _ q;obtain⟨its,r,ht,hz⟩:=I4.tuple hx;have hg:=z27 (prog:=X.prog) (w:=X.w) (A:=X.A) (Ee:=X.xe) (Q:=EP X pins σ Q) ht (yg ..) pl (by rw[ax,<-r.length];exact hz) ⟨.ref _,_,I4.laid (t':=s3.toks) (o:=.tup xs.reverse) (λb ob q=>ao _ q) (aq _) ⟨by rw[List.length_reverse];exact hz,its.reverse,?_,Ck.new _ _⟩,rfl,q _ (I4.hok.fresh (aq _))⟩
 ·show wpAny (model X.prog X.w) X.A (subscriptTail o (.Slice none none (some se) p2) (.ref a) (.ref s3.heap.objs.size)) (EP X pins σ Q) X.xe {s3 with heap:=s3.heap.push {cls:=.type "slice",data:=.fields #[.none,.none,vs]} };exact tail_any (ops:=[.ref a,.ref s3.heap.objs.size]) ht.typeIs df.lookup hg (by with_unfolding_all rfl)
 ·have:∀{xs:Ho}{us:List af},Bs xs us->Bs xs.reverse us.reverse:=λ{xs us}h=>by
   induction h with
   |nil=>exact .nil
   |cons h1 _ ih=>rw[sy,sy];exact Bs.append ih (.cons h1 .nil)
  exact this r
def GO(x:Dv)(l:Option Int)(h:Hs):Rs Dv:=match x,l with
 |.tup xs,some (-1)=>.ok (.tup xs.reverse) h
 |_,_=>.bad
theorem RelDL.rev:∀{ds:Bj}{vs:Ho},RelDL G μ n H ds vs->RelDL G μ n H ds.reverse vs.reverse
 |[],_,h=>by rw[RelDL]at h;subst h;exact Gr
 |d::ds,_,h=>by rw[RelDL]at h;obtain⟨v,r,rfl,h1,h2⟩:=h;rw[sy,sy];exact(RelDL.rev h2).append (Gw h1 Gr)
def A5(m:M Dv)(st:MO):M Dv:=λρ h=>(m ρ h).bind λx h1=>(st ρ h1).bind λl h2=>GO x l h2
theorem z2a(ho:aJ X G E o mo)(hs:xB X G E (some se) ms):aJ X G E (.Subscript o (.Slice none none (some se) p2) pos) (A5 mo ms):=λhK=>
 Gp (z29 (ho hK) (hs hK)) λσ H Q⟨μ,ρ,h,rs,s,oo⟩=>eZ rs s oo λμ1 x h1 vx H1 x1 Cc s1 r1 o1=>by
  refine⟨μ1,ρ,h1,Cc,s1,(o1.bind (R1:=λ_ _ _ a b=>b=a)).mono λl' H2⟨μ2,l,h2,x2,s2,el,o2⟩=>?_⟩;subst el;unfold GO at o2
  split at o2
  ·rename_i xs;obtain⟨a,vs,rfl,ea,ra⟩:=Gx x2 _ _ r1;exact⟨rfl,a,vs,rfl,Gq ea,λp hp=>o2 μ2 _ _ (Gm (cN hp)) (s2.same (cN hp)) ⟨p,_,rfl,cU,Gk (Gm (cN hp)) _ _ (RelDL.rev ra)⟩⟩
  ·exact o2.elim
end
end L2.Mr
namespace L2.Mr.Com
def GP:MS:=(aO (fH (m1 (bI rX) (aB 0)) (m1 pT (m1 (bI nG) (aB 0)))))
def uU:Bi:=bA 1 1 (GP)
def A6:MS:=(aO (fH (aD uU (aA (aB 0) aC)) (tU uK uK (aB 1) (aB 0) (aB 2))))
def qO:Bi:=bA 3 3 (A6)
def QF:MS:=(aO (mL kB (bO (aT qA (aA (aB 0) (aA (hV (aB 0) (fZ (mC (.int 1))) gY) aC))) [none,none] (cC 2 (aV (aF 0) (aV (aF 1) cE))) cH (bB (m2 gC (aB 0) (aB 1))))))
def A7:Bi:=bA 1 1 (QF)
def GQ:MS:=(aO (aD qO (aA (aB 1) (aA (mC (.int 0)) (aA (m2 oU (aB 0) (mC (.int 1))) aC)))))
def qP:Bi:=bA 2 2 (GQ)
def A8:MS:=(aO (fH (m1 (bI gH) (aB 1)) (mL kB (bO (bP dH (aB 1)) [none,some 0] (aF 0) cH (bB (aD qP (aA (aB 1) (aA (aB 0) aC))))))))
def mI:Bi:=bA 2 2 (A8)
def uV:MS:=(aO (fH (aD mI (aA (aB 0) (aA (aB 1) aC))) (m2 bR (aD (f1 cQ) (aA (aB 1) aC)) (mC (.int 2)))))
def mJ:Bi:=bA 2 2 (uV)
def GR:MS:=(aO (mL kB (bO (bP dH (aB 1)) [none,some 0] (aF 0) cH (bB (aD mJ (aA (aB 1) (aA (aB 0) aC)))))))
def uW:Bi:=bA 2 2 (GR)
def QG:MS:=(aO (mL wR (bO (bP dH (aB 0)) [none,none] (cC 2 (aV (aF 0) (aV (aF 1) cE))) cH (bB (m2 bR (aB 0) (aB 1))))))
def A9:Bi:=bA 1 1 (QG)
def QH:MS:=(aO (mL kB (bO (bP dH (aB 0)) [none,none,none,none,some 0] (cC 2 (aV (aF 0) (aV (aF 1) cE))) cH (lC (bP dH (aB 4)) (cC 2 (aV (aF 2) (aV (aF 3) cE))) (mB (m2 bR (aB 1) (aB 2))) (bB (m2 (kP false) (aL (aA (aB 0) (aA (aB 3) aC))) (aB 4)))))))
def BA:Bi:=bA 1 1 (QH)
def sM:MS:=(aI (bK (eR (cJ (bJ (m1 (bI gH) (aB 0)))) (mB (m2 bZ (aD (f1 cQ) (aA (aB 0) aC)) (mC (.int 2))))) (aO (mC (.bl false))) bW) (aI (aM (aB 0) (cC 2 (aV (aF 1) (aV (aF 2) cE)))) (aI (bK (eR (cJ (bJ (aD qO (aA (aB 1) (aA (mC (.int 1)) (aA (mC (.int 6)) aC)))))) (cJ (bJ (m1 (bI gH) (aB 2))))) (aO (mC (.bl false))) bW) (aI (bK (eR (cJ (bJ (aD uW (aA (aB 1) (aA (aB 2) aC))))) (cJ (bJ (aD A7 (aA (aB 2) aC))))) (aO (mC (.bl false))) bW) (aO (fH (m1 pT (aD A9 (aA (aB 2) aC))) (aD BA (aA (aB 2) aC))))))))
def kQ:Bi:=bA 1 3 (sM)
def BB(scr:y'):MS:=(aI (bK (mB (m2 gC (aB 1) (aD (f1 (jK scr)) (aA (aB 0) aC)))) (aO (m2 (gS scr) (aB 0) (aB 1))) bW) (aO (mC (.int 0))))
def xP(scr:y'):Bi:=bA 2 2 (BB scr)
def BC(scr:y'):MS:=(aI (aM (aD (xP scr) (aA (aB 0) (aA (aB 1) aC))) (aF 2)) (aI (bK (mB (m2 AL (aB 2) (m2 qG (mC (.int 10)) (mC (.int 18))))) (aO (aQ (aA (m2 oU (aB 2) (m2 qG (mC (.int 10)) (mC (.int 18)))) (aA (mC (.bl true)) aC)))) bW) (aO (aQ (aA (m2 nF (aB 2) (mC (.int 2147483647))) (aA (mC (.bl false)) aC))))))
def sN(scr:y'):Bi:=bA 2 3 (BC scr)
def GS:MS:=(aI (bK (bJ (m2 aN (aB 0) (mC (.int 1)))) (aI (aM (m2 nF (m2 aN (aB 0) (mC (.int 0))) (aB 1)) (aF 2)) (aI (wV (aB 0) (mC (.int 0)) (m2 xH (m2 aN (aB 0) (mC (.int 0))) (aB 1))) (aO (aB 2)))) bW) (aI (wV (aB 0) (mC (.int 0)) (m2 nF (m2 aU (m2 rV (m2 aN (aB 0) (mC (.int 0))) (mC (.int 48271))) (mC (.int 29))) (mC (.int 2147483647)))) (aI (aM (m2 nF (m2 aU (m2 aU (m2 rV (m2 aN (aB 0) (mC (.int 0))) (m2 aN (aB 0) (mC (.int 0)))) (m2 rV (mC (.int 39373)) (m2 aN (aB 0) (mC (.int 0))))) (mC (.int 7))) (mC (.int 2147483629))) (aF 3)) (aI (aM (m2 nF (m2 aU (m2 rV (aB 3) (aB 3)) (m2 rV (mC (.int 16807)) (aB 3))) (mC (.int 2147483587))) (aF 3)) (aO (m2 nF (m2 xH (aB 3) (mC (.int 8))) (aB 1)))))))
def cA:Bi:=bA 2 4 (GS)
def GU:MS:=(aI (aM (aD (f1 eV) (aA (aB 1) aC)) (aF 2)) (aI (aM (aQ aC) (aF 3)) (aI (jP (mB (m2 bZ (aB 2) (aQ aC))) (bN (iQ (aB 3) (xA (aB 2) (aD cA (aA (aB 0) (aA (aD (f1 cQ) (aA (aB 2) aC)) aC)))))) 40) (aO (aB 3)))))
def BD:Bi:=bA 2 4 (GU)
def kG:MS:=(aI (aM (aD (f1 nS) (aA (aB 0) aC)) (aF 1)) (jP (bJ (mC (.bl true))) (aI (aM (aD (f1 eV) (aA (aB 1) aC)) (aF 2)) (aI (gX (bP dX (aB 1)) (cC 2 (aV (aF 3) (aV (aF 4) cE))) (bN (lD (aB 2) (bO (bP dX (aB 1)) [none,none,some 3,some 4] (cC 2 (aV (aF 0) (aV (aF 1) cE))) (mB (m2 bR (aB 3) (aB 0))) (bB (aL (aA (aB 2) (aA (aB 1) aC)))))))) (aI (aM (aD (f1 nS) (aA (aB 2) aC)) (aF 2)) (aI (bK (mB (m2 bR (aB 2) (aB 1))) (aO (aB 1)) bW) (aM (aB 2) (aF 1)))))) 40))
def gD:Bi:=bA 1 5 (kG)
def kH:MS:=(aI (aM (m2 oU (aB 1) (m2 aN (aQ (aA (mC (.int 0)) (aA (mC (.int 0)) (aA (mC (.int 1)) (aA (mC (.int 2)) (aA (mC (.int 0)) (aA (mC (.int 3)) (aA (mC (.int 1)) (aA (mC (.int 4)) aC))))))))) (aD cA (aA (aB 0) (aA (mC (.int 8)) aC))))) (aF 2)) (aI (aM (aD oP (aA (mC (.int 1)) (aA (aB 2) aC))) (aF 2)) (aI (aM (aD BD (aA (aB 0) (aA (aD (f1 nQ) (aA (aB 2) aC)) aC))) (aF 3)) (aI (aM (aD cA (aA (aB 0) (aA (mC (.int 5)) aC))) (aF 4)) (aI (aM (aQ aC) (aF 5)) (aI (aM (bQ (bO (bP dX (aB 3)) [none,some 0] (aF 0) cH (bB (aD cA (aA (aB 1) (aA (mC (.int 3)) aC)))))) (aF 6)) (aI (gX (aT dI (aA (aB 2) aC)) (aF 7) (gX (aT lB (aA (m2 aU (aB 7) (mC (.int 1))) (aA (aB 2) aC))) (aF 8) (aI (aM (aQ (aA (m2 bR (aD cA (aA (aB 0) (aA (mC (.int 6)) aC))) (mC (.int 0))) (aA (m2 bR (aD cA (aA (aB 0) (aA (mC (.int 2)) aC))) (mC (.int 0))) (aA (m2 hJ (aD cA (aA (aB 0) (aA (mC (.int 4)) aC))) (mC (.int 0))) aC)))) (aF 9)) (aI (aM (m2 aU (aB 9) (aQ (aA (m2 gC (m2 aN (aB 6) (aB 7)) (m2 aN (aB 6) (aB 8))) (aA (m2 bR (m2 aN (aB 6) (aB 7)) (m2 aN (aB 6) (aB 8))) aC)))) (aF 9)) (bK (bJ (m2 aN (aB 9) (aB 4))) (bN (iQ (aB 5) (aL (aA (m2 aN (aB 3) (aB 7)) (aA (m2 aN (aB 3) (aB 8)) aC))))) bW))))) (aI (bK (mB (m2 bR (aB 4) (mC (.int 3)))) (aI (aM (aQ aC) (aF 5)) (gX (aT dI (aA (aB 2) aC)) (aF 7) (aM (m2 aU (aB 5) (bQ (bO (aT dI (aA (aB 2) aC)) [none,some 7,some 6] (aF 0) (mB (m2 gC (m2 aN (aB 2) (aB 1)) (m2 aN (aB 2) (aB 0)))) (bB (aL (aA (aB 1) (aA (aB 0) aC))))))) (aF 5)))) bW) (aO (aL (aA (aB 2) (aA (aD (f1 dS) (aA (aD gD (aA (aB 5) aC)) aC)) aC))))))))))))
def gE:Bi:=bA 2 10 (kH)
def kJ:MS:=(aI (aM (aQ (aA (mC .non) (aA (mC (.int 0)) (aA (aL aC) (aA (aL (aA (mC (.int 0)) (aA (aL aC) aC))) (aA (aL (aA (mC (.int 7)) (aA (aL aC) aC))) (aA (aL (aA (mC (.bl true)) (aA (aL aC) aC))) (aA (aL (aA (mC (.int 2)) (aA (aQ aC) aC))) (aA (aQ (aA (mC (.int 2)) (aA (aL aC) aC))) (aA (aL (aA (mC (.int 2)) (aA (aL (aA (aL (aA (mC (.int 0)) (aA (mC (.int 1)) aC))) (aA (aL (aA (mC (.int 0)) (aA (mC (.int 1)) aC))) aC))) aC))) (aA (aL (aA (mC (.int 2)) (aA (aL (aA (aL (aA (mC (.int 1)) (aA (mC (.int 0)) aC))) (aA (aL (aA (mC (.int 0)) (aA (mC (.int 1)) aC))) aC))) aC))) aC))))))))))) (aF 1)) (aI (aM (m2 aU (aB 1) (aQ (aA (aL (aA (mC (.int 3)) (aA (aL (aA (aL (aA (mC (.int 0)) (aA (mC (.int 1)) aC))) (aA (aL (aA (mC (.int 1)) (aA (mC (.int 2)) aC))) aC))) aC))) (aA (aL (aA (mC (.int 2)) (aA (aL (aA (aL (aA (mC (.int 0)) (aA (mC (.int 0)) aC))) aC)) aC))) (aA (aL (aA (mC (.int 2)) (aA (aL (aA (aL (aA (mC (.int 0)) (aA (mC (.int 2)) aC))) aC)) aC))) (aA (aL (aA (mC (.int 2)) (aA (aL (aA (aL (aA (mC (.int 0)) (aA (mC (.bl true)) aC))) aC)) aC))) (aA (aL (aA (mC (.int 2)) (aA (aL (aA (aL (aA (mC (.int 0)) (aA (mC (.int 1)) (aA (mC (.int 1)) aC)))) aC)) aC))) (aA (mC .edc) aC)))))))) (aF 1)) (aI (aM (m2 aU (aB 1) (aQ (aA (mC (.str "2:")) (aA (aL (aA (mC (.int 2)) (aA (aL (aA (mC (.int 0)) (aA (mC (.int 1)) aC))) aC))) (aA (aL (aA (mC (.int 3)) (aA (aL (aA (aL (aA (mC (.int 0)) (aA (mC (.int 2)) aC))) (aA (aL (aA (mC (.int 0)) (aA (mC (.int 1)) aC))) aC))) aC))) (aA (aL (aA (mC (.int 2)) (aA (mC .non) aC))) (aA (aL (aA (mC (.int 2)) (aA (aL aC) (aA (aL aC) aC)))) (aA (aL (aA (mC (.int 2)) aC)) (aA (aL (aA (mC (.int 2)) (aA (aL (aA (aQ (aA (mC (.int 0)) (aA (mC (.int 1)) aC))) aC)) aC))) (aA (aL (aA (mC (.int 2)) (aA (aL (aA (mC .non) aC)) aC))) aC)))))))))) (aF 1)) (aO (m2 aN (aB 1) (aD cA (aA (aB 0) (aA (mC (.int 24)) aC))))))))
def iY:Bi:=bA 1 2 (kJ)
def iZ(Fs:Bi):MS:=(aI (bK (bJ (m1 (bI xF) (aB 1))) (aI (bK (eR (mB (m2 bZ (m1 (bI gH) (aB 0)) (m1 (bI gH) (aB 1)))) (mB (m2 bZ (m1 (bI xE) (aB 0)) (m1 (bI xE) (aB 1))))) (aO (mC (.bl false))) bW) (aI (bK (mB (m2 bZ (aD (f1 cQ) (aA (aB 0) aC)) (aD (f1 cQ) (aA (aB 1) aC)))) (aO (mC (.bl false))) bW) (aO (mL kB (bO (aT qA (aA (aB 0) (aA (aB 1) aC))) [none,none] (cC 2 (aV (aF 0) (aV (aF 1) cE))) cH (bB (aD Fs (aA (aB 0) (aA (aB 1) aC))))))))) bW) (aO (fH (m2 bR (aB 0) (aB 1)) (m2 bR (m1 (bI nG) (aB 0)) (m1 (bI nG) (aB 1))))))
def dM:Nat->Bi
 |0=>λ_ _=>.bad
 |n+1=>bA 2 2 (iZ (dM n))
end L2.Mr.Com
namespace L2.Mr
def xQ(i j:Nat)(ma:M Bj ):MS:=λρ h=>(ma ρ h).thenS λds h1=>match ds with
 |[a,b]=>.nx ((ρ.set i (some a)).set j (some b)) h1
 |_=>.bad
section
variable{X:Cx}{G:Cfg}{E:XK}{pos:Pos}
theorem z2b{i j:Nat}{x y:Str}{a b:bq}{ma:M Bj}{px py pt:Pos}{kt k2 pt2}(hc:X.calm=true)(hN:X.N.Nodup)(hi:X.N[i]?=some x)(hj:X.N[j]?=some y)(Dg:i≠j)(hx:X.env.scope.names.lookup x=some .local)(hy:X.env.scope.names.lookup y=some .local)(ha:eC X G E [a,b] ma)(hw:swappedStores [.Tuple [.Name x px,.Name y py] kt pt] (.Tuple [a,b] k2 pt2) X.env=pure (some [x,y]):=by rfl)(hs:swapsWithSole [.Tuple [.Name x px,.Name y py] kt pt] (.Tuple [a,b] k2 pt2) pos.line X.env=pure false:=by rfl):
  iK X G E (.Assign [.Tuple [.Name x px,.Name y py] kt pt] (.Tuple [a,b] k2 pt2) pos) (xQ i j ma):=λhK=>PS.imp (VQ hc hN hi hj Dg hx hy (ha hK) hw hs) λD σ H⟨μ,ρ,h,rs,s,o⟩=>
 ⟨μ,ρ,h,rs,s,(o.thenS (R:=RelDL G)).mono λvs H1⟨μ1,ds,h1,x1,s1,r1,o1⟩=>by
  match ds,r1,o1 with
  |[d1,d2],r1,o1=>obtain⟨v1,vs1,rfl,p,q⟩:=r1;obtain⟨v2,Fq,rfl,p',q'⟩:=q;rw[RelDL]at q';subst q';exact⟨_,_,rfl,o1 μ1 H1 _ Gs s1 (((rs.mono x1).set i p).set j p')⟩
  |[],_,o1=>exact o1.elim
  |[_],_,o1=>exact o1.elim
  |_::_::_::_,_,o1=>exact o1.elim⟩
end
def qQ:M Dv:=λ_ _=>.bad
def BE(f:bq->M Dv):List bq->M Bj 
 |[]=>aC
 |e::es=>aA (f e) (BE f es)
def oZ(lk:Str->Option Nat):Nat->bq->M Dv
 |0,_=>qQ
 |n+1,e=>match e with
  |.Constant c _ _=>match c with
   |.int i=>mC (.int i)
   |.bool b=>mC (.bl b)
   |.none=>mC .non
   |.str x=>mC (.str x)
   |_=>qQ
  |.Tuple es _ _=>aL (BE (oZ lk n) es)
  |.List es _=>aQ (BE (oZ lk n) es)
  |.Dict [] [] _=>mC .edc
  |.Name x _=>match lk x with
   |some i=>aB i
   |none=>qQ
  |.UnaryOp .USub a _=>m1 oS (oZ lk n a)
  |_=>qQ
def QI(e:bq):Prop:=∀es env,ay (e::es) env=(false,eval e env)::ay es env
section
variable{X:Cx}{G:Cfg}{E:XK}{lk:Str->Option Nat}
def BF:aJ X G E e qQ:=λ_ pins s σ H Q _⟨_,_,_,_,_,o⟩=>o.elim
def z2c:eC X G E (e::es) (aA qQ ms):=λ_ pos pins s σ H Q _⟨_,_,_,_,_,o⟩=>o.elim
theorem GV{f:bq->M Dv}(hf:∀e,aJ X G E e (f e)/\(QI e∨f e=qQ)):∀es,eC X G E es (BE f es)
 |[]=>aK
 |e::es=>by
  obtain⟨a,b|b⟩:=hf e
  ·exact aE a (GV hf es) (b es X.env)
  ·show eC X G E (e::es) (aA (f e) _);rw[b];exact z2c
theorem BG(hv:∀x i pos,lk x=some i->aJ X G E (.Name x pos) (aB i)):∀n e,aJ X G E e (oZ lk n e)/\(QI e∨oZ lk n e=qQ)
 |0,_=>⟨BF,.inr rfl⟩
 |n+1,e=>by
  unfold oZ
  split
  ·split
   ·exact⟨aS,.inl λ_ _=>rfl⟩
   ·exact⟨fV,.inl λ_ _=>rfl⟩
   ·exact⟨tS,.inl λ_ _=>rfl⟩
   ·exact⟨wK,.inl λ_ _=>rfl⟩
   ·exact⟨BF,.inr rfl⟩
  ·exact⟨eQ (GV (BG hv n) _),.inl λ_ _=>rfl⟩
  ·exact⟨fW (GV (BG hv n) _),.inl λ_ _=>rfl⟩
  ·exact⟨NO,.inl λ_ _=>rfl⟩
  ·rename_i x pos
   split
   ·rename_i i q;exact⟨hv x i pos q,.inl λ_ _=>rfl⟩
   ·exact⟨BF,.inr rfl⟩
  ·exact⟨FW (BG hv n _).1,.inl λ_ _=>rfl⟩
  ·exact⟨BF,.inr rfl⟩
def qR(n:Nat)(h:oZ (λ_=>none) n e=m:=by rfl):aJ X G E e m:=h▸(BG (λ_ _ _ h=>by cases h) n e).1
end
structure SW(X:Cx)(G:Cfg)(E:XK)(st:gw)(m:MS):Prop where
 ok:iK X G E st m
structure SWs(X:Cx)(G:Cfg)(E:XK)(st:List gw)(m:MS):Prop where
 ok:kL X G E st m
section
variable{X:Cx}{G:Cfg}{E:XK}{st:gw}{rest:List gw}{m u:MS}{pos:Pos}
def GW(a:SW X G E st m)(b:SWs X G E rest u):SWs X G E (st::rest) (aI m u):=⟨aW a.ok b.ok⟩
def z2d(a:SW X G E st m):SWs X G E [st] m:=⟨bH a.ok⟩
def z2e(n:Nat)(hN:X.N.Nodup)(hi:X.N[i]?=some x)(hx:mV X.env.scope x)(h:oZ (λ_=>none) n e=me:=by rfl)(hs:swapsWith e (some (.Name x pos')) pos.line X.env=pure false:=by rfl)(hf:X.fn x=true∨X.env.scope.names.lookup x=some .local:=by first|exact .inl rfl|exact .inr rfl|assumption):
  SW X G E (.Assign [.Name x pos'] e pos) (aM me (aF i)):=⟨E7 hN hi hx (qR n h) hs hf⟩
def QJ(n:Nat)(hN:X.N.Nodup)(hi:X.N[i]?=some x)(hx:mV X.env.scope x)(hv:aJ X G E (.Name x p2) (aB i))(h:oZ (λ_=>none) n e=me:=by rfl)(hs:swapsWith (.BinOp (.Name x p2) .Add e p3) (some (.Name x pos')) pos.line X.env=pure false:=by rfl)(hf:X.fn x=true∨X.env.scope.names.lookup x=some .local:=by first|exact .inl rfl|exact .inr rfl|assumption):
  SW X G E (.Assign [.Name x pos'] (.BinOp (.Name x p2) .Add e p3) pos) (aM (m2 aU (aB i) me) (aF i)):=⟨E7 hN hi hx (cS hv (qR n h)) hs hf⟩
end
section
variable{P:bp}{w:cm}{K:ar}{mg:Str->Option af}{base:cu}{G:Cfg}{N:Bh}{f:ah}{k:Nat}
def z2f{st:gw}(Fn:Fun K x qual st f fd)(S:Br N ps (aR st))(hK:K=G.K)(Cp:∀(cdv:af)(A:cb)(outer:List Env)(s:ag)(H:Hp)(E₀ E:XK),Good (fU (aZ P w base) P w K mg base N qual (aR st) f cdv A outer s H E₀) G E k->SWs (fU (aZ P w base) P w K mg base N qual (aR st) f cdv A outer s H E₀) G E (gR st) mb):
  Bu P w K mg base (aZ P w base) (k+1) f fd ps (cK G (bA ps.length N.length mb)):=dP Fn S hK λcdv A outer s H E₀ E g=>(Cp cdv A outer s H E₀ E g).ok
end
open SR
def nU(ns:y'):Nat:=(firstMet (λi=>ns.getD i 0) ns.length).length
section
variable{prog:bp}{w:cm}{A:cb}{E:af->ag->Prop}{s:ag}
def z2g{P:Nat->af->Prop}{St:Nat->cu->Prop}(ky:Nat->Int){Q:af->ag->Prop}(hT:s.TypeIs (.ref l) T)(n1:isSubtype (.type T) (.type "set")=pure false)(n2:isSubtype (.type T) (.type "frozenset")=pure false)(n3:(vz T==vz "dict")=false)(hi:∀(B:cb)(Q':af->ag->Prop)(E':af->ag->Prop),Q' (.ref (s.heap.objs.size+1)) {s with heap:=(s.heap.push (bare w)).push it}->wpAny (model prog w) B (pyIter (.ref l)) Q' E' {s with heap:=s.heap.push (bare w)})(W:Walks prog w A.in1.in1.in1 (s.heap.objs.size+1) fp wr n P St)(hfp:s.heap.objs.size∉fp)(hwr:∀b∈wr,s.heap.objs.size<b)(h0:St 0 ((s.heap.push (bare w)).push it))(hval:∀i v,P i v->∃t,v=.int (ky i) t)(hn:n+1<scanBound)(q:∀(h':cu)(tk:Nat),h'.SetOf (intKind prog w) s.heap.objs.size (λk=>(firstMet ky n).any (·==k)) (firstMet ky n).length->(∀b o,s.heap.get? b=some o->h'.get? b=some o)->Q (.ref s.heap.objs.size) {s with heap:=h',toks:=tk}):
  wpAny (model prog w) A (call (.type "set") [.ref l]) Q E s:=by
 refine PR (N:=λx s1=>x=.ref s.heap.objs.size/\s1={s with heap:=s.heap.push (bare w)}) (PQ _ ⟨rfl,rfl⟩) ?_
 rintro x s1 ⟨rfl,rfl⟩
 have up:∀b o,s.heap.get? b=some o->(s.heap.push (bare w)).get? b=some o:=λb o e=>ao _ e;have hb:(s.heap.push (bare w)).get? s.heap.objs.size=some (bare w):=bg _ rfl;have hS:pj {s with heap:=s.heap.push (bare w)} (.ref s.heap.objs.size) "set":=⟨_,hb,rfl⟩;refine⟨hS,rh F.called_set.init.plain F.entry_set_init (check_set_init_1 hS ?_)⟩;let⟨ol,el,cl⟩:=hT;have hl1:pj {s with heap:=s.heap.push (bare w)} (.ref l) T:=⟨ol,up l ol el,cl⟩
 have Fb:((s.heap.push (bare w)).push it).get? s.heap.objs.size=some (bare w):=ao _ hb;have run:∀(R:yb->ag->Prop),(∀h' tk,h'.SetOf (intKind prog w) s.heap.objs.size (λk=>(firstMet ky n).any (·==k)) (firstMet ky n).length->(∀b o,s.heap.get? b=some o->h'.get? b=some o)->R (.ok (.ret .none)) {s with heap:=h',toks:=tk})->
   codeAny (model prog w) A.in1.in1 (.builtin "set.update.loop" ⟨[.ref s.heap.objs.size,.ref (s.heap.objs.size+1)],[]⟩) R {s with heap:=(s.heap.push (bare w)).push it}:=λR hR=>by
  refine codeAny_set_update_loopS W.toS s.heap.objs.size hfp ky hval hn n 0 _ rfl (gv _) h0 (SetOf_congr ((setObjOf_fresh (knd:=intKind prog w) _).setOf Fb (by unfold scanBound;lia)) (λ_=>rfl) rfl) λs' hm hS'=>?_;rw[Moved.eq_with hm];refine hR s'.heap s'.toks hS' λb o e=>?_;have hlt:=av e;exact hm.heap b o (λm=>(az.mp m).elim (bc hlt) λm=>Aq hlt (hwr b m)) (ao _ (up b o e))
 unfold mr.«set.__init__» noKeywords ve;generalize hPI:pyIter=PI;unfold bare at hb
 wp_walk
 subst hPI;refine hi _ _ _ ?_;refine aa (wy (run _ λh' tk S keep=>?_));exact ak (ak ⟨rfl,q h' tk S keep⟩)
end
section
variable{X:Cx}{G:Cfg}{E:XK}{k:Nat}{e:bq}{aT:M Bj}{p p2 pos Dm:Pos}
abbrev z2h:Ho->Hp->VK->Prop:=λxs H Q=>∃(p:ah)(ns:y'),xs=[.ref p]/\H p=some (.tup (ns.map Gn))/\ns.length<1000/\∀l S,H l=none->Q (.ref l) (upd H l (.set S (nU ns)))
def z2i(hc:X.calm=true):Bx X (.type "set") z2h:=by
 intro pins s σ H xs us Q I rv ⟨p,ns,e,hp,hz,q⟩;subst e;obtain⟨u,rfl,ru⟩:=jB rv;cases ru;let⟨its,rits,pl,_⟩:=I.tuple (Gq hp);have lp:=I.hok.lt hp;have hn:its.toArray.size=ns.length:=by have:=rits.length;simp at this⊢;lia
 have hI:s.heap.IsTuple p its.toArray:=pl;have hne:p≠s.heap.objs.size+1:=bc (km lp);have hb:(s.heap.push (bare X.w)).IsTuple p its.toArray:=yr (items:=its.toArray) hI _;have hs1:(s.heap.push (bare X.w)).objs.size=s.heap.objs.size+1:=vp _ _;have W:=Walks.tuple (prog:=X.prog) (w:=X.w) (A:=X.A.in1.in1.in1) (show X.A.in1.in1.in1.handled=none from I.ok.hd hc) (s.heap.objs.size+1) p hne its.toArray;rw[hn]at W;refine z2g (T:="tuple") (it:={cls:=.type "tuple_iterator",data:=.fields #[.ref p,.int 0 0]}) (λi=>ns.getD i 0) hI.typeIs sub_tuple.1 sub_tuple.2 (by decide) (λB Q' E' hQ=>?_) W (λm=>?_) (λb hb=>?_) ⟨⟨{cls:=.type "tuple_iterator",data:=.fields #[.ref p,.int 0 0]},?_,rfl,rfl⟩,yr (items:=its.toArray) hb _⟩ (λi v hv=>z01 rits hv) (by unfold scanBound;lia) λh' tk hS kk=>?_
 ·refine pd hb ?_;rw[<-hs1]at hQ;exact hQ
 ·rcases az.mp m with z|m
  ·exact qh _ z.symm
  ·exact jw lp (cz.mp m)
 ·rw[cz.mp hb];exact jz _
 ·rw[<-hs1];exact bg _ rfl
 ·exact⟨.ref s.heap.objs.size,_,I.laid (t':=tk) (o:=.set _ (nU ns)) kk (aq _) hS,rfl,q _ _ (I.hok.fresh (aq _))⟩
abbrev z2j:Ho->Hp->VK->Prop:=λxs H Q=>∃(l:ah)(S:Int->Bool)(n:Nat),xs=[.ref l]/\H l=some (.set S n)/\Q (.int n) H
def z2k:Bx X (.builtin "len") z2j:=by intro pins s σ H xs us Q I rv ⟨l,S,n,e,hl,q⟩;subst e;obtain⟨u,rfl,ru⟩:=jB rv;cases ru;obtain⟨o,es,ep,t,ho,hex,hd,_,_,Cv,hf,en⟩:s.heap.SetOf (intKind X.prog X.w) l S n:=I.hok l _ hl;refine call_len_set ho hex hd hf (by unfold scanBound at Cv;lia) ?_;rw[en];exact⟨.int n,H,I.tok _,⟨_,rfl⟩,q⟩
def pA:Dv->Hs->Rs Dv
 |.tup xs,h=>match bE fI xs with
  |some ns=>if ns.length<1000 then .ok (.int (nU ns)) h else .bad
  |none=>.bad
 |_,_=>.bad
theorem z2l(hc:X.calm=true)(hg:Gl X "len")(hm:X.mg "len"=none)(hg2:Gl X "set")(hm2:X.mg "set"=none)(ha:eC X G E [e] aT)(he:ay [e] X.env=[(false,eval e X.env)]:=by rfl)(Eh:ay [Expr.Call (.Name "set" p2) [e] [] Dm] X.env=[(false,eval (.Call (.Name "set" p2) [e] [] Dm) X.env)]:=by rfl):
  aJ X G E (.Call (.Name "len" p) [.Call (.Name "set" p2) [e] [] Dm] [] pos) (aD (f1 pA) aT):=λhK=>
 Gp (tK z2k hg hm yn (hY (tL (z2i hc) hg2 hm2 P8 (ha hK) (by decide) (by decide) he rfl) jI Eh) (by decide) (by decide) Eh rfl) λσ H Q⟨μ,ρ,h,rs,s,o⟩=>by
  refine lY rs s o λμ1 ds h1 vs H1 x1 Cc s1 r1 o1=>?_;unfold f1 at o1
  split at o1
  ·rename_i d;obtain⟨v,rfl,rv⟩:=uA r1
   cases d with
   |tup xs=>
    dsimp only[pA]at o1
    cases q:bE fI xs with
    |none=>rw[q]at o1;exact o1.elim
    |some ns=>
     rw[q]at o1;dsimp only at o1
     split at o1
     ·rename_i h0;obtain⟨a,vs,rfl,e1,r2⟩:=rv;refine⟨a,ns,rfl,by rw[e1,qH r2 q],h0,λl S hl=>⟨l,S,_,rfl,cU,?_⟩⟩;exact o1 μ1 _ _ (Gm (cN hl)) (s1.same (cN hl)) rfl
     ·exact o1.elim
   |_=>exact o1.elim
  ·exact o1.elim
end
theorem QK(ns:y'):∀i,i<=ns.length->∀k,k∈firstMet (λi=>ns.getD i 0) i↔k∈ns.take i
 |0,_,k=>by simp[firstMet_zero]
 |i+1,h,k=>by
  have ih:=QK ns i (by lia);have hi:i<ns.length:=by lia
  rw[firstMet_succ];unfold step_dedup;rw[kj hi]
  by_cases c:(firstMet (λi=>ns.getD i 0) i).any (·==ns.getD i 0)=true
  ·rw[if_pos c];simp only[pz,beq_iff_eq,exists_eq_right]at c;rw[ih,cj];refine⟨.inl,λz=>z.elim id λz=>?_⟩;have:k=ns[i]:=by simpa using z
   rw[this];have:=(ih _).mp c;simpa[hi]using this
  ·rw[if_neg c,cj,cj,ih];simp[hi]
def z2m(ns:y'):nU ns=ns.length↔ns.Nodup:=by
 have key:∀i,i<=ns.length->((firstMet (λi=>ns.getD i 0) i).length=i↔(ns.take i).Nodup):=by
  intro i
  induction i with
  |zero=>intro _;simp[firstMet_zero]
  |succ i ih=>
   intro h;have hi:i<ns.length:=by lia
   have ih:=ih (by lia);have le:=firstMet_length_le (λi=>ns.getD i 0) i;rw[firstMet_succ,step_length,kj hi,xh];have hm:((firstMet (λi=>ns.getD i 0) i).any (·==ns.getD i 0)=true)↔ns[i]∈ns.take i:=by rw[<-QK ns i (by lia)];simp[hi]
   by_cases c:(firstMet (λi=>ns.getD i 0) i).any (·==ns.getD i 0)=true
   ·rw[if_pos c];refine⟨λz=>by lia,λz=>?_⟩;exact absurd rfl (z.2.2 _ (hm.mp c) _ (cz.mpr rfl))
   ·rw[if_neg c];refine⟨λz=>⟨ih.mp (by lia),by simp,λa ha b hb e=>?_⟩,λz=>by rw[ih.mpr z.1]⟩;have:b=ns[i]:=by simpa using hb
    subst this;subst e;exact c (hm.mpr ha)
 have:=key ns.length (aq _);rw[List.take_length]at this;exact this
open PySem.SeqAt PySem.MeetsSeq PySem.MeetsSeq2 PySem.MeetsSeq3
def BH(me mo mi mo' mi':M Dv):MS:=λρ h=>(me ρ h).thenS λd h1=>match d with
 |.tup [a,b]=>(mo ρ h1).thenS λo h2=>(mi ρ h2).thenS λi h3=>match kD o i a h3 with
  |some h4=>(mo' ρ h4).thenS λo' h5=>(mi' ρ h5).thenS λi' h6=>match kD o' i' b h6 with
   |some h7=>.nx ρ h7
   |none=>.bad
  |none=>.bad
 |_=>.bad
section
variable{X:Cx}{G:Cfg}{E:XK}{o i o' i' e:bq}{me mo mi mo' mi':M Dv}{pos spos Ct tpos:Pos}{kt:Nat}
def QL{H:Hp}{ob ix d:Dv}{vo vi v:V}{Q:Hp->Prop}(s:Bz G μ h H)(r2:Bq G μ h.length H ob vo)(r3:Bq G μ h.length H ix vi)(r1:Bq G μ h.length H d v)(q0:kD ob ix d h=some h4)(k:∀H4,Ext μ h.length H μ h4.length H4->Bz G μ h4 H4->Q H4):∃a vs j n,vo=.ref a/\vi=.int j/\H a=some (.lst vs)/\eO vs.length j=some n/\Q (upd H a (.lst (vs.set n v))):=by
 cases ob with
 |ref j=>
  cases ix with
  |int k'=>
   dsimp only[kD]at q0
   cases q:getL h j with
   |none=>rw[q]at q0;cases q0
   |some xs=>
    rw[q]at q0;dsimp only at q0
    cases q2:eO xs.length k' with
    |none=>rw[q2]at q0;cases q0
    |some n=>rw[q2]at q0;cases q0;let⟨vs,ea,ra⟩:=s.ob j _ (dN q);obtain⟨_,rfl⟩:=r2;rw[Bq]at r3;subst r3;let⟨x4,s4⟩:=s.write (dN q) (RelDL.set r1 n ra);exact⟨_,vs,k',n,rfl,rfl,ea,by rw[ra.length];exact q2,k _ x4 s4⟩
  |_=>cases q0
 |_=>cases ix<;>cases q0
def z2n(hc:X.calm=true)(ho:aJ X G E o mo)(hi:aJ X G E i mi)(Ey:aJ X G E o' mo')(hi':aJ X G E i' mi')(he:aJ X G E e me)(ha:∀v,assign (.Subscript o i spos) X.env v=(do
   let ov <-holding [v] (eval o X.env)
   let iv <-holding [v,ov] (eval i X.env)
   standAt spos
   holding [v,ov,iv] (setItem ov iv v)
   release [v,ov,iv] []):=by intro _;rfl)(ha':∀v,assign (.Subscript o' i' Ct) X.env v=(do
   let ov <-holding [v] (eval o' X.env)
   let iv <-holding [v,ov] (eval i' X.env)
   standAt Ct
   holding [v,ov,iv] (setItem ov iv v)
   release [v,ov,iv] []):=by intro _;rfl)(hs:swapsWithSole [.Tuple [.Subscript o i spos,.Subscript o' i' Ct] kt tpos] e pos.line X.env=pure false:=by rfl)(hw:swappedStores [.Tuple [.Subscript o i spos,.Subscript o' i' Ct] kt tpos] e X.env=pure none:=by rfl)(h1:(assignEach [.Tuple [.Subscript o i spos,.Subscript o' i' Ct] kt tpos] X.env).map (·.2)=[assign (.Tuple [.Subscript o i spos,.Subscript o' i' Ct] kt tpos) X.env]:=by rfl)(h2:(assignEach [.Subscript o i spos,.Subscript o' i' Ct] X.env).map (·.2)=assign (.Subscript o i spos) X.env::(assignEach [.Subscript o' i' Ct] X.env).map (·.2):=by rfl)(h3:(assignEach [.Subscript o' i' Ct] X.env).map (·.2)=assign (.Subscript o' i' Ct) X.env::(assignEach [] X.env).map (·.2):=by rfl)(h4:(assignEach [.Subscript o i spos,.Subscript o' i' Ct] X.env).length=2:=by rfl)(h5:(assignEach [.Subscript o i spos,.Subscript o' i' Ct] X.env).findIdx? (·.1)=none:=by rfl):
  iK X G E (.Assign [.Tuple [.Subscript o i spos,.Subscript o' i' Ct] kt tpos] e pos) (BH me mo mi mo' mi'):=λhK=>
 PS.imp (DW (he hK) (J1 hc (DU (DV (ho hK) (hi hK) EL ha) (DU (DV (Ey hK) (hi' hK) EL ha') J0 h3) h2) h4 h5) hs hw h1) λD σ H⟨μ,ρ,h,rs,s,oo⟩=>jY rs s oo λμ1 d h1 v H1 x1 Cc s1 r1 o1=>by
  match d,r1,o1 with
  |.tup [a,b],r1,o1=>
   obtain⟨p,vs,rfl,ep,rp⟩:=r1;obtain⟨va,vb,rfl,ra,rb⟩:=zX rp;refine⟨p,_,rfl,Gq ep,rfl,va,[vb],rfl,jY Cc s1 o1 λμ2 ob h2 vo H2 x2 Dn s2 r2 o2=>jY Dn s2 o2 λμ3 ix h3 vi H3 x3 Ft s3 r3 o3=>?_⟩
   cases q:kD ob ix a h3 with
   |none=>rw[q]at o3;exact o3.elim
   |some h4=>
    rw[q]at o3;refine QL s3 (Gx x3 _ _ r2) r3 (Gx (x2.trans x3) _ _ ra) q λH4 x4 s4=>⟨vb,[],rfl,jY (Ft.mono x4) s4 (o3.ext x4) λμ5 ob' h5 vo' H5 x5 rs5 s5 r5 o5=>jY rs5 s5 o5 λμ6 ix' h6 vi' H6 x6 rs6 s6 r6 o6=>?_⟩
    cases q':kD ob' ix' b h6 with
    |none=>rw[q']at o6;exact o6.elim
    |some h7=>rw[q']at o6;exact QL s6 (Gx x6 _ _ r5) r6 (Gx ((((x2.trans x3).trans x4).trans x5).trans x6) _ _ rb) q' λH7 x7 s7=>⟨rfl,o6 μ6 H7 σ x7 s7 (rs6.mono x7)⟩
  |.non,_,o1=>exact o1.elim
  |.bl _,_,o1=>exact o1.elim
  |.int _,_,o1=>exact o1.elim
  |.str _,_,o1=>exact o1.elim
  |.ref _,_,o1=>exact o1.elim
  |.edc,_,o1=>exact o1.elim
  |.exc _,_,o1=>exact o1.elim
  |.scr,_,o1=>exact o1.elim
  |.tup [],_,o1=>exact o1.elim
  |.tup [_],_,o1=>exact o1.elim
  |.tup (_::_::_::_),_,o1=>exact o1.elim
end
def z2o{h:cu}{vs:List af}(ho:h.get? a=some (seqObj "list" vs.toArray n)):∃ep,(sortedHeap h a vs out).get? a=some (seqObj "list" out ep):=by have e1:=nh ho λ_=>#[];have e2:=ao (seqObj "list" #[] 0) (ao (seqObj "tuple" vs.toArray 0) e1);exact⟨_,nh e2 λ_=>out⟩
def z2p{h:cu}(hb:b≠a)(e:h.get? b=some o):(sortedHeap h a vs out).get? b=some o:=by unfold sortedHeap;rw[jg _ _ _ _ hb];refine ao _ (ao _ ?_);rw[jg _ _ _ _ hb];exact e
section
variable{X:Cx}{G:Cfg}{E:XK}{e:bq}{aT:M Bj}{p pos:Pos}
abbrev QM:Ho->Hp->VK->Prop:=λxs H Q=>∃(p:ah)(ns:y'),xs=[.ref p]/\H p=some (.tup (ns.map Gn))/\ns.length<64/\∀l,H l=none->Q (.ref l) (upd H l (.lst ((gB ns).map Gn)))
def z2q:Bx X (.builtin "sorted") QM:=by
 intro pins s σ H xs us Q I rv ⟨p,ns,e,hp,h0,q⟩;subst e;obtain⟨u,rfl,ru⟩:=jB rv;cases ru;let⟨its,rits,pt,hz⟩:=I.tuple (Gq hp);have hl:=rits.length;rw[bo]at hl;refine Calls.call_function_entry kind_sorted plain_sorted entry_sorted (args_sorted1 _) ?_;unfold mr.«sorted»;refine aa (m:=checkCount "sorted" 1 1 _) (ak (aa (z24 pt (by rw[jd];lia) λh1 k1 sz=>aa (vc ?_ (by rw[jd];lia)))));have g:(h1.push (seqObj "list" its.toArray 0)).get? h1.objs.size=some (seqObj "list" its.toArray 0):=bg _ rfl;have k2:sF s.heap (h1.push (seqObj "list" its.toArray 0)):=λb o e=>ao _ (k1 b o e);refine aa (gy (fv slot_list_sort ⟨_,g,rfl⟩ entry_list_sort (list_sort_tree (s:={s with heap:=h1.push (seqObj "list" its.toArray 0)}) g (AO rits) (by lia) λout ns' a1 a2 a3=>⟨_,rfl,ak ⟨_,rfl,?_⟩⟩) (args_list_sort _)));let⟨ep,he⟩:=z2o (out:=out) g;have hu:=FZ a2 a3;subst hu;refine⟨.ref h1.objs.size,_,I.laid (t':=s.toks) (λb o e=>z2p (bc (aw (av e) sz)) (k2 b o e)) sz (show Bv X.prog X.w _ _ _ (.lst ((gB ns).map Gn)) from⟨?_,out.toList,ep,tN a1,?_⟩),rfl,q _ (I.hok.fresh sz)⟩
 ·rw[bo,NY];exact cp (gr h0) (by decide)
 ·rw[he]
def sO(x:Dv)(h:Hs):Rs Dv:=match x with
 |.tup xs=>match bE fI xs with
  |some ns=>if ns.length<64 then .ok (.ref h.length) (h++[.lst ((gB ns).map Gh)])else .bad
  |none=>.bad
 |_=>.bad
def z2r:kY G (λx H Q=>QM [x] H Q) sO:=by
 intro E μ h H x vx Q s r o
 cases x with
 |tup xs=>
  dsimp only[sO]at o
  cases q2:bE fI xs with
  |none=>rw[q2]at o;exact o.elim
  |some ns=>
   rw[q2]at o;dsimp only at o
   split at o
   ·rename_i h0;obtain⟨a,vs,rfl,e1,r1⟩:=r;exact⟨_,ns,rfl,by rw[e1,qH r1 q2],h0,λl hl=>mX s (rK _) hl o⟩
   ·exact o.elim
 |_=>exact o.elim
def z2s(hg:Gl X "sorted")(hm:X.mg "sorted"=none)(ha:eC X G E [e] aT)(he:ay [e] X.env=[(false,eval e X.env)]:=by rfl):aJ X G E (.Call (.Name "sorted" p) [e] [] pos) (aD (f1 sO) aT):=
 tZ (Bx.imp z2q λxs H Q⟨v,h1,h2⟩=>by rw[h1];exact h2) (uB z2r) hg hm F0 ha (by decide) (by decide) he rfl
end
end L2.Mr
namespace L2.Mr.K05
open L2.Mr.Com
def mK:MS:=(bK (cJ (bJ (aD kQ (aA (aB 0) aC)))) (rQ 0 (aA (mC (.str "this is no order")) aC)) bW)
def dY:Bi:=bA 1 1 (mK)
def nV:MS:=(aI (bN (aD dY (aA (aB 0) aC))) (aI (aM (aB 0) (cC 2 (aV (aF 2) (aV (aF 3) cE)))) (aI (bK (eR (cJ (bJ (aD mI (aA (aB 2) (aA (aB 1) aC))))) (eR (mB (m2 bZ (aD (f1 cQ) (aA (aB 1) aC)) (aB 2))) (mB (m2 bZ (aD (f1 pA) (aA (aB 1) aC)) (aB 2))))) (aO (mC (.bl false))) bW) (aO (mL kB (bO (bP dH (aB 3)) [none,none,some 1] (cC 2 (aV (aF 0) (aV (aF 1) cE))) cH (bB (m2 gC (iV (aB 2) (aB 0)) (iV (aB 2) (aB 1))))))))))
def lO:Bi:=bA 2 4 (nV)
def pE:MS:=(bK (cJ (bJ (aD lO (aA (aB 0) (aA (aB 1) aC))))) (rQ 5 (aA (mC (.str "this is no row of the order")) aC)) bW)
def fS:Bi:=bA 2 2 (pE)
def qS:MS:=(aO (fH (m1 (bI rX) (aB 0)) (m1 pT (m1 (bI nG) (aB 0)))))
def mM:Bi:=bA 1 1 (qS)
def lQ:MS:=(aI (bK (eR (cJ (bJ (m1 (bI gH) (aB 1)))) (mB (m2 bZ (bQ (bO (bP dH (aB 1)) [none] (aF 0) (cJ (bJ (aD mM (aA (aB 0) aC)))) (bB (aB 0)))) (aQ aC)))) (aO (mC (.bl false))) bW) (aI (bK (mB (m2 bZ (aD (f1 sO) (aA (aB 1) aC)) (aD (f1 nQ) (aA (m2 aN (aB 0) (mC (.int 0))) aC)))) (aO (mC (.bl false))) bW) (aO (m2 bR (bQ (bO (bP dH (m2 aN (aB 0) (mC (.int 1)))) [none,none,some 1] (cC 2 (aV (aF 0) (aV (aF 1) cE))) (mB (m2 hJ (iV (aB 2) (aB 0)) (iV (aB 2) (aB 1)))) (bB (mC (.int 1))))) (aQ aC)))))
def kR:Bi:=bA 2 2 (lQ)
def pF:MS:=(aI (aM (aL aC) (aF 2)) (aI (gX (aT dI (aA (m2 aN (aB 1) (mC (.int 0))) aC)) (aF 3) (aI (aM (bQ (bO (aT dI (aA (m2 aN (aB 1) (mC (.int 0))) aC)) [none,some 2] (aF 0) (mB (m2 (kP true) (aB 0) (aB 1))) (bB (aB 0)))) (aF 4)) (aI (aM (bQ (bO (bP dX (aB 4)) [none,some 1,some 2] (aF 0) (mB (m2 bR (bQ (bO (bP dH (m2 aN (aB 1) (mC (.int 1)))) [none,none,some 0,some 2] (cC 2 (aV (aF 0) (aV (aF 1) cE))) (jX (mB (m2 bR (aB 1) (aB 2))) (mB (m2 (kP true) (aB 0) (aB 3)))) (bB (aB 0)))) (aQ aC))) (bB (aB 0)))) (aF 5)) (aM (m2 aU (aB 2) (aL (aA (m2 aN (aB 5) (aD cA (aA (aB 0) (aA (aD (f1 cQ) (aA (aB 5) aC)) aC)))) aC))) (aF 2))))) (aO (aB 2))))
def jS:Bi:=bA 2 6 (pF)
def pG:MS:=(aI (xQ 2 3 (aA (aD cA (aA (aB 0) (aA (aD (f1 cQ) (aA (aB 1) aC)) aC))) (aA (aD cA (aA (aB 0) (aA (aD (f1 cQ) (aA (aB 1) aC)) aC))) aC))) (aI (aM (m2 aN (aQ (aA (m2 aN (aB 1) (aB 3)) (aA (aD (f1 cQ) (aA (aB 1) aC)) (aA (m1 oS (mC (.int 1))) (aA (mC (.bl true)) (aA (mC .non) (aA (mC (.str "0")) (aA (aL (aA (mC (.int 0)) aC)) (aA (m2 qG (mC (.int 10)) (mC (.int 29))) (aA (mC (.bl false)) aC)))))))))) (aD cA (aA (aB 0) (aA (mC (.int 9)) aC)))) (aF 4)) (aI (aM (aQ (aA (m2 aU (m2 aU (hV (aB 1) gY (fZ (aB 2))) (aL (aA (aB 4) aC))) (hV (aB 1) (fZ (m2 aU (aB 2) (mC (.int 1)))) gY)) (aA (m2 aU (hV (aB 1) gY (fZ (aB 2))) (hV (aB 1) (fZ (m2 aU (aB 2) (mC (.int 1)))) gY)) (aA (m2 aU (m2 aU (hV (aB 1) gY (fZ (aB 2))) (aL (aA (aB 4) aC))) (hV (aB 1) (fZ (aB 2)) gY)) (aA (aD (f1 eV) (aA (aB 1) aC)) (aA (mC .non) aC)))))) (aF 5)) (aI (aM (aD (f1 eV) (aA (aB 1) aC)) (aF 6)) (aI (BH (aL (aA (m2 aN (aB 1) (aB 3)) (aA (m2 aN (aB 1) (aB 2)) aC))) (aB 6) (aB 2) (aB 6) (aB 3)) (aI (aM (m2 aU (aB 5) (aQ (aA (aD (f1 dS) (aA (aB 6) aC)) (aA (aD (f1 dS) (aA (aB 6) aC)) (aA (aD (f1 dS) (aA (aB 6) aC)) (aA (A5 (aB 1) (fZ (m1 oS (mC (.int 1))))) (aA (m2 aU (hV (aB 1) (fZ (aB 2)) gY) (hV (aB 1) gY (fZ (aB 2)))) (aA (mC .edc) (aA (mC (.int 0)) (aA (aL (aA (aB 1) aC)) (aA (aB 1) aC))))))))))) (aF 5)) (aO (m2 aN (aB 5) (aD cA (aA (aB 0) (aA (mC (.int 14)) aC)))))))))))
def jT:Bi:=bA 2 7 (pG)
end L2.Mr.K05
namespace L2.Mr
end L2.Mr
namespace L2.Mr.K82
open L2.Mr.Com
def sP:MS:=(aI (aM (m2 aN (aB 0) (mC (.int 0))) (aF 2)) (aO (m2 aU (aD (f1 eV) (aA (m2 aN (aB 0) (mC (.int 1))) aC)) (bQ (bO (bP dH (m2 aN (aB 1) (mC (.int 1)))) [none,none,some 2] (cC 2 (aV (aF 0) (aV (aF 1) cE))) cH (bB (aL (aA (m2 aU (aB 2) (aB 0)) (aA (m2 aU (aB 2) (aB 1)) aC)))))))))
def jA:Bi:=bA 2 3 (sP)
end L2.Mr.K82
namespace L2.Mr
structure Lm where
 Nl:Bh
 par:jl
 bod:bq
 scp:fi
 caps:A'
 me:M Dv
def Eg(G:Cf0)(env:Env)(L:Lm)(H:Hp)(a:ah):Prop:=∃c' pm ctv oc,H a=some (.frz (jn "<lambda>" G.lq L.par L.bod L.scp (cW env L.scp.names []) pm c' ctv) (.own 0))/\H c'=some (.frz oc (.own 0))/\tR G.lq oc
def Eg.keep{H H':Hp}{a:ah}(h:Eg G env L H a)(k:∀a o,zQ o->H a=some o->H' a=some o):Eg G env L H' a:=by let⟨c',pm,ctv,oc,h1,h2,h3⟩:=h;exact⟨c',pm,ctv,oc,k _ _ trivial h1,k _ _ trivial h2,h3⟩
def gL(k t:Nat):M Dv:=λ_ h=>if t<=h.length then .ok (.ref h.length) (h++[.clo k t])else .bad
section
variable{X:Cx}{G:Cfg}{E:XK}{c P:ah}{lpos:Pos}{k t:Nat}
theorem z2t(L:Lm)(Eu:defaultsOf L.par X.env=([],[]))(hq:X.env.qual++"<lambda>"=G.lq)(hP:G.tabs P=some G.lq)(Ds:X.env.code=.ref c)(hC:jc X.base c P)(hB:kF X.mg X.base)(LS:Cf L.Nl L.scp)(C':∀y∈L.Nl,X.env.scope.names.lookup y=some .cell)(hG:∀μ n H a,Eg G X.env L H a->G.clo μ n H k t a):
  aJ X G E (.Lambda L.par L.bod L.scp lpos) (gL k t):=λhK=>by
 have hfree:∀y,(y,bz)∈L.scp.names->X.env.kindOf y=some .cell∨X.env.kindOf y=some .free:=λy hy=>.inl (C' y (LS.all _ hy rfl));refine Gp (NH (G:=G) (lpos:=lpos) (body:=L.bod) Eu hq hP Ds hC hB hfree) λσ H Q⟨μ,ρ,h,rs,sm,o⟩=>⟨sm.tab,λf c' pm ctv oc H1 hf st tb e1 e2 e3=>?_⟩
 unfold gL at o
 split at o
 ·rename_i ht;have hl:(h++[Hg k t]).length=h.length+1:=by simp
  have hne:=sm.not hf;have x:Ext μ h.length H (λi=>if i=h.length then f else μ i) (h++[Hg k t]).length H1:=⟨by lia,λi hi=>if_neg (bc hi),λa u im z=>st a u (λps w=>by subst w;exact im) z⟩
  refine o _ H1 (.ref f) x ⟨λi j hi hj e=>?_,λi ob q=>?_,tb⟩ ⟨by lia,by show Hk f=Hk (if h.length=h.length then f else μ h.length);rw[if_pos rfl]⟩
  ·rw[hl]at hi hj
   by_cases h1:i=h.length<;>by_cases h2:j=h.length
   ·lia
   ·rw[if_pos h1,if_neg h2]at e;exact absurd e.symm (hne j (by lia))
   ·rw[if_neg h1,if_pos h2]at e;exact absurd e (hne i (by lia))
   ·rw[if_neg h1,if_neg h2]at e;exact sm.inj i j (by lia) (by lia) e
  ·by_cases h1:i<h.length
   ·rw[ey h1]at q;have r1:=sm.ob i ob q;rw[if_neg (bc h1)]
    cases ob with
    |lst xs=>obtain⟨ws,z1,z2⟩:=r1;exact⟨ws,st _ _ (λ_ w=>by cases w) z1,Gk x _ _ z2⟩
    |clo k t=>exact r1.clo x
    |dct ks=>exact st _ _ (λ_ w=>by cases w) r1
   ·rw[gh (by lia)]at q;have h2:i=h.length:=by have:=(bf.mp q).1;simp at this;lia
    subst h2;simp at q;subst q;rw[if_pos rfl];exact⟨by lia,⟨_,_,e1⟩,hG _ _ _ _ ⟨c',pm,ctv,oc,e1,e2,e3⟩⟩
 ·exact o.elim
end
def Cfg.wf(G:Cfg)(env:Env)(t0:Nat)(ls:Nat->Option Lm):Cfg:=
 {G with
  clo:=λμ n H k t a=>G.clo μ n H k t a/\∀L,ls k=some L->t=t0->Eg G env L H a
  cloM:=λx⟨h1,h2⟩=>⟨G.cloM x h1,λL e1 e2=>(h2 L e1 e2).keep x.im⟩}
section
variable{G:Cfg}{env:Env}{t0:Nat}{ls:Nat->Option Lm}{μ:Nat->ah}{h:Hs}{H:Hp}
def Bz.wf(s:Bz G μ h H):Bz (G.wf env h.length ls) μ h H:=⟨s.inj,λi o q=>by
 have r:=s.ob i o q
 cases o with
 |lst xs=>exact r
 |clo k t=>let⟨h1,h2,h3⟩:=r;exact⟨h1,h2,h3,λL _ e=>absurd e (bc h1)⟩
 |dct ks=>exact r,s.tab⟩
def Bz.unwf(s:Bz (G.wf env t0 ls) μ h H):Bz G μ h H:=⟨s.inj,λi o q=>by
 have r:=s.ob i o q
 cases o with
 |lst xs=>exact r
 |clo k t=>let⟨h1,h2,h3,_⟩:=r;exact⟨h1,h2,h3⟩
 |dct ks=>exact r,s.tab⟩
end
def uX(p n:Nat)(mb:Nat->MS):Bi:=λds h=>if ds.length=p then bF (mb h.length (bY n ds) h)else .bad
section
variable{P:bp}{w:cm}{K:ar}{mg:Str->Option af}{base:cu}{N:Bh}{f:ah}{G:Cfg}{k:Nat}{ls:Nat->Option Lm}
def QN{st:gw}{mb:Nat->MS}(Fn:Fun K x qual st f fd)(S:Br N ps (aR st))(hK:K=G.K)(Cp:∀(cdv:af)(A:cb)(outer:List Env)(s:ag)(H:Hp)(E₀ E:XK)(t:Nat),fd.code=cdv->Good (fU (aZ P w base) P w K mg base N qual (aR st) f cdv A outer s H E₀) (G.wf (fU (aZ P w base) P w K mg base N qual (aR st) f cdv A outer s H E₀).env t ls) E k->
   kL (fU (aZ P w base) P w K mg base N qual (aR st) f cdv A outer s H E₀) (G.wf (fU (aZ P w base) P w K mg base N qual (aR st) f cdv A outer s H E₀).env t ls) E (gR st) (mb t)):
  Bu P w K mg base (aZ P w base) (k+1) f fd ps (cK G (uX ps.length N.length mb)):=by
 obtain⟨oc,od,kV,doc,pm,an,cdv,ct,osl,rfl,lk,hcd⟩:=Fn.ex;have hlen:∀vs H Q E,cK G (uX ps.length N.length mb) vs H Q E->vs.length=ps.length:=λvs H Q E⟨μ,h,ds,r,sm,o⟩=>by
  rw[r.length];unfold uX at o
  by_cases hd:ds.length=ps.length
  ·exact hd
  ·rw[if_neg hd]at o;exact o.elim
 refine EF lk hcd S hlen λA outer s H vs Q E hr hsp=>?_;have hl:=hlen _ _ _ _ hsp;let⟨μ,h,ds,r,sm,o⟩:=hsp;have o':Out G E μ h.length H (bF (mb h.length (bY N.length ds) h)) (Bq G) Q:=by unfold uX at o;rw[if_pos (by rw[<-r.length];exact hl)]at o;exact o
 generalize hX:(fU (aZ P w base) P w K mg base N qual (aR st) f cdv A outer s H E).env=env;have hb:=Cp cdv A outer s H E (EB (G.wf env h.length ls) μ h.length H (mb h.length (bY N.length ds) h)) h.length rfl;rw[hX]at hb;refine⟨_,hb (FF hr hK (λu H'⟨c,h',μ',er,x,s',fl⟩=>?_) FH) hK,?_⟩
 ·rw[er]at o';exact o' μ' H' u x s'.unwf fl
 ·refine⟨μ,bY N.length ds,h,⟨(FG (G:=G) r N).len,(FG (G:=G) r N).at_⟩,sm.wf,?_⟩
  cases q:mb h.length (bY N.length ds) h with
  |bad=>rw[q]at o';exact o'.elim
  |bk ρ h'=>rw[q]at o';exact o'.elim
  |ct ρ h'=>rw[q]at o';exact o'.elim
  |rt d h'=>rw[q]at o';exact λμ' H' v x' s' r'=>o' μ' H' v x' s'.unwf r'
  |nx ρ h'=>rw[q]at o';exact λμ' H' σ' x' s' rs'=>o' μ' H' .non x' s'.unwf rfl
  |ex c h'=>exact λμ' H' u x' s' fl=>⟨c,h',μ',rfl,x',s',fl⟩
end
def gM(h:Hs)(j:Nat):Option (Nat×Nat):=match h[j]? with
 |some (.clo k t)=>some (k,t)
 |_=>none
def mP(lc:Nat->Option (A'×M Dv))(t n ncl:Nat)(mb:MS)(ρ:Ev):M Dv:=λρb h=>match (ρb[0]?:Option Bk )with
 |some (some (Gu j))=>(match gM h j with
  |some (k,t')=>if t'=t then(match lc k with
   |some (caps,me)=>(match jO caps ρ with
    |some ds=>qD n ncl mb (me (ds.map some) h)
    |none=>.bad)
   |none=>.bad)else .bad
  |none=>.bad)
 |_=>.bad
def pH(mi:M Src)(lc:Nat->Option (A'×M Dv))(t n ncl:Nat)(mb:MS):M Bj:=λρ h=>bO mi [none] (aF 0) cH (bB (mP lc t n ncl mb ρ)) ρ h
def GX(G:Cfg)(ρ:Ev)(σ:St)(me:M Dv):TE:=λσb H Q=>∃μ ρb h,Bw G μ h.length H ρ σ/\Bw G μ h.length H ρb σb/\Bz G μ h H/\Out G L2.E0 μ h.length H (me ρb h) (Bq G) Q
section
variable{G:Cfg}
def z2u{st:dG}{ti:TC}{h1:Hs}{σb:St}{K:St->Hp->Ho->Prop}(hti:∀σb H vs K,zM (GX G ρ σ me) σb H vs K->ti σb H vs K)(ok:Dj G μ1 h1.length H1 src J)(ro:Bw G μ1 h1.length H1 ρ σ)(rs:Bw G μ1 h1.length H1 ρb σb)(s1:Bz G μ1 h1 H1)(r:RelDL G μ1 h1.length H1 xs vs)(e:eS src st cH (bB me) src.n 0 ρb h1 xs=.ok (ρ',xs') h')(k:∀μ' H' σ' Cm,Ext μ1 h1.length H1 μ' h'.length H'->Bz G μ' h' H'->Bw G μ' h'.length H' ρ' σ'->RelDL G μ' h'.length H' xs' Cm->K σ' H' Cm):
  tP J (uD G st) LM ti K σb H1 vs:=by
 refine⟨λi m σ H vs=>∃μ2 ρ2 h2 xs2,Ext μ1 h1.length H1 μ2 h2.length H/\Bw G μ2 h2.length H ρ2 σ/\Bz G μ2 h2 H/\RelDL G μ2 h2.length H xs2 vs/\i+m=src.n/\eS src st cH (bB me) m i ρ2 h2 xs2=.ok (ρ',xs') h',⟨src.n,μ1,ρb,h1,xs,Gs,rs,s1,r,Am _,e⟩,?_⟩
 rintro i m σ2 H2 Fq ⟨μ2,ρ2,h2,xs2,x2,Dn,s2,r2,him,e2⟩
 cases m with
 |zero=>
  unfold eS at e2
  split at e2
  ·rename_i hf;cases e2;exact .inl ⟨(ok i μ2 _ H2 x2 s2).2 (by lia) hf,k μ2 H2 σ2 Fq x2 s2 Dn r2⟩
  ·cases e2
 |succ m=>
  unfold eS at e2
  cases q:src.get i h2 with
  |none=>rw[q]at e2;cases e2
  |some d=>
   rw[q]at e2;dsimp only at e2
   cases q2:st d ρ2 with
   |none=>rw[q2]at e2;cases e2
   |some ρ3=>
    rw[q2]at e2;dsimp only[cH]at e2;let⟨go,yl⟩:=(ok i μ2 h2 H2 x2 s2).1 (by lia) d q;refine .inr ⟨go,λσ' H' Cm=>∃μ3 ρ4 h4 xs4,Ext μ1 h1.length H1 μ3 h4.length H'/\Bw G μ3 h4.length H' ρ4 σ'/\Bz G μ3 h4 H'/\RelDL G μ3 h4.length H' xs4 Cm/\(i+1)+m=src.n/\eS src st cH (bB me) m (i+1) ρ4 h4 xs4=.ok (ρ',xs') h',
     λσ' H' Cm z=>⟨m,jz m,z⟩,λx H' hy=>?_⟩
    let⟨sm,rx⟩:=yl x H' hy;have xsm:Ext μ2 h2.length H2 μ2 h2.length H':=Gm sm;refine⟨μ2,ρ2,h2.length,d,ρ3,Dn.mono xsm,rx,q2,λσ3 Ft=>?_⟩;show ti σ3 H' Fq _;refine hti _ _ _ _ ⟨μ2,ρ3,h2,ro.mono (x2.trans xsm),Ft,s2.same sm,?_⟩;unfold bB at e2
    cases q4:me ρ3 h2 with
    |bad=>rw[q4]at e2;cases e2
    |ex c h5=>rw[q4]at e2;cases e2
    |ok d' h5=>
     rw[q4]at e2;dsimp only at e2
     by_cases hl:xs2.length<1000000
     ·rw[if_pos hl]at e2;intro μ6 H6 v x6 s6 r6;refine⟨by rw[r2.length];exact aw hl (by decide),μ6,ρ3,h5,xs2++[d'],(x2.trans xsm).trans x6,Ft.mono x6,s6,(Gk (xsm.trans x6) _ _ r2).append (Gw r6 Gr),by lia,e2⟩
     ·rw[if_neg hl]at e2;cases e2
end
open PySem.Calls
def noE:bq:=.Constant .none 0 ⟨0,0,0,0⟩
def stE:gw->bq
 |.Assign _ v _=>v
 |.Expr v _=>v
 |.If t _ _ _=>t
 |.Return (some v) _=>v
 |_=>noE
def uY:gw->List gw
 |.For _ _ b _ _=>b
 |.If _ b _ _=>b
 |.While _ b _ _=>b
 |_=>[]
def uZ(st:gw):bq:=match stE st with
 |.List (l::_) _=>l
 |.Call _ (l::_) _ _=>l
 |e=>e
def vA:bq->jl
 |.Lambda p _ _ _=>p
 |_=>⟨[],[],none,[],[],none,[]⟩
def vB:bq->bq
 |.Lambda _ b _ _=>b
 |e=>e
def vC(d:fi):bq->fi
 |.Lambda _ _ s _=>s
 |_=>d
structure El(os:fi)(oN:Bh)(L:Lm):Prop where
 ls:Cf L.Nl L.scp
 kind:∀z∈L.Nl,os.names.lookup z=some .cell
 len:L.caps.length=L.Nl.length
 cap:∀z∈L.caps.zip L.Nl,oN[z.1]?=some z.2
section
variable{X:Cx}{G:Cfg}{E:XK}{c P:ah}{lpos:Pos}{k t:Nat}{ls:Nat->Option Lm}{os:fi}{oN:Bh}
theorem vD(L:Lm)(hls:ls k=some L)(hT:∀μ n H t a,G.clo μ n H k t a)(hq:X.env.qual++"<lambda>"=G.lq)(hP:G.tabs P=some G.lq)(Ds:X.env.code=.ref c)(hC:jc X.base c P)(hB:kF X.mg X.base)(O:El os oN L)(hs:X.env.scope.names=os.names:=by rfl)(Eu:defaultsOf L.par X.env=([],[]):=by rfl):aJ X (G.wf X.env t ls) E (.Lambda L.par L.bod L.scp lpos) (gL k t):=
 z2t (G:=G.wf X.env t ls) L Eu hq hP Ds hC hB O.ls (λy hy=>by rw[hs];exact O.kind y hy) λμ n H a h=>⟨hT μ n H t a,λL' e _=>by rw[hls]at e;cases e;exact h⟩
end
def z2v{env:Env}:∀(l:List (Str×md))(acc:List (Str×ah)),(∀y cc,(y,cc)∈acc->env.cells.lookup y=some cc)->(∀y,(y,bz)∈l->∃c,env.cells.lookup y=some c)->∀y cc,(y,cc)∈cW env l acc->env.cells.lookup y=some cc:=by
 intro l
 induction l with
 |nil=>exact λacc h1 _=>h1
 |cons a l ih=>
  let⟨y0,k0⟩:=a;intro acc h1 h2;rw[cW];refine ih _ (λy cc hm2=>?_) λy hy=>h2 y (au _ hy)
  cases hk0:k0==bz with
  |true=>
   rw[hk0,if_pos rfl]at hm2
   rcases az.mp hm2 with z|z
   ·cases z;have ek:k0=.free:=by cases k0<;>first|rfl|cases hk0
    subst ek;let⟨c3,h3⟩:=h2 y0 (bh ..);rw[h3];rfl
   ·exact h1 _ _ z
  |false=>rw[hk0,if_neg (by simp)]at hm2;exact h1 _ _ hm2
section
variable{X:Cx}{G:Cfg}{k:Nat}{p:Str}{params:jl}{body:bq}{scope:fi}{Nl:Bh}{me:M Dv}{caps:A'}{pins:List (ah×Obj)}{σ:St}{H:Hp}{s:ag}
def QO{A:cb}(hfn:∀y,X.fn y=true)(hA:A.frames=some X.stack)(I:Inv X pins σ H s)(memc:∀b∈cs,∃y,X.env.cells.lookup y=some b):Gg X.prog X.w X.K X.mg (iU X.base s.heap cs) A X.stack s H:=by
 have kb:∀b u,X.base.get? b=some u->(iU X.base s.heap cs).get? b=some u:=λb u e=>wY (I.bk _ _ e) (.inl ⟨u,e⟩);have M0:=I.ok.mod;have nsk:∀{a:ah}{m:Str->Option af},X.base.Ns a m->(iU X.base s.heap cs).Ns a m:=λhn=>hn.keeps kb;have hM:Mod X.K X.mg (iU X.base s.heap cs):=⟨M0.kin.keeps kb,nsk M0.glob,(let ⟨mb,a,b⟩:=M0.blt;⟨mb,nsk a,b⟩),M0.nolimit.keeps kb⟩
 have hbs:∀b u,(iU X.base s.heap cs).get? b=some u->s.heap.get? b=some u/\H b=none:=λb u e=>by
  let⟨g1,g2⟩:=FP e;refine⟨g1,?_⟩
  rcases g2 with⟨u',g2⟩|g2
  ·exact(I.bs _ _ g2).2
  ·let⟨y,hy⟩:=memc b g2;exact I.freeC y b hy
 have nbf:∀b∈dR X.stack,(iU X.base s.heap cs).get? b=none:=λb hb=>by
  cases qq:(iU X.base s.heap cs).get? b with
  |none=>rfl
  |some u=>
   exfalso
   let⟨g1,g2⟩:=FP qq
   rcases g2 with⟨u',g2⟩|g2
   ·have:=(I.stack.mem hb).1;rw[this]at g2;cases g2
   ·let⟨y,hy⟩:=memc b g2
    rcases az.mp (I.stkSub b hb)with z|z
    ·exact I.cne y b hy z
    ·have fm:∀z∈X.fs,z<X.s₀.heap.objs.size:=λz hz=>by let⟨_,o2,h2,_⟩:=I.ok.funs.mem hz;exact av h2
     exact absurd (aw (fm b z) (I.ok.cab y b (hfn y) hy)) (ig _)
 have hfun:s.heap.FunFrames (iU X.base s.heap cs) X.stack:=by
  have all:∀(l:List Env),(∀b∈dR l,b∈dR X.stack)->s.heap.FunFrames X.base l->s.heap.FunFrames (iU X.base s.heap cs) l:=by
   intro l
   induction l with
   |nil=>intro _ _;trivial
   |cons env r ih=>
    intro hs hl;let⟨Ei,⟨L,o',hf',hn',Ey,Ej⟩,hr'⟩:=hl;have hL:L∈dR (env::r):=by unfold dR;rw[ck,hf'];exact bh
    exact⟨Ei,⟨L,o',hf',nbf L (hs L hL),Ey,Ej⟩,ih (λb hb=>hs b (by unfold dR;rw[ck,hf'];exact au _ hb)) hr'⟩
  exact all X.stack (λ_ hb=>hb) I.stack
 exact⟨hA,hM,hbs,rf (zm _ _),hfun,I.stkFree,I.hok,I.bare⟩
def QP(hfr:∀y∈Nl,scope.names.lookup y=some .free)(hal:∀x∈scope.names,x.2=.free->x.1∈Nl)(C':∀y∈Nl,X.env.scope.names.lookup y=some .cell)(hlen:caps.length=Nl.length)(hcap:∀z∈caps.zip Nl,X.N[z.1]?=some z.2)(I:Inv X pins σ H0 s)(rs:Bw G μ n H ρ σ)(hcd:jO caps ρ=some ds)(Ew:cW X.env scope.names []=cl)(e1:H f=some (.frz (jn "<lambda>" G.lq params body scope cl pm c' ctv) (.own 0)))(e2:H c'=some (.frz oc (.own 0)))(e3:tR G.lq oc):
  (∀b∈cl.map (·.2),∃y,X.env.cells.lookup y=some b)/\Fp G (iU X.base s.heap (cl.map (·.2))) H μ n Nl params body scope f c' cl ds/\∀y cc,cl.lookup y=some cc->y∈Nl:=by
 let⟨hdl,hdg⟩:=NI hcd;have hfree:∀y,(y,bz)∈scope.names->X.env.kindOf y=some .cell∨X.env.kindOf y=some .free:=λy hy=>.inl (C' y (hal _ hy rfl));have hfc:∀y,(y,bz)∈scope.names->∃c,X.env.cells.lookup y=some c:=λy hy=>I.ok.has y (hfree y hy);have look:∀y cc,cl.lookup y=some cc->(y,bz)∈scope.names/\X.env.cells.lookup y=some cc:=λy cc e=>j7 hfc (by rw[Ew];exact e);have memL:∀y cc,cl.lookup y=some cc->cc∈cl.map (·.2):=λy cc e=>cf.mpr ⟨(y,cc),fz e,rfl⟩;refine⟨λb hb=>?_,⟨⟨pm,ctv,e1⟩,⟨oc,e2,e3⟩,λy z cc a b=>I.ok.inj y z cc (look y cc a).2 (look z cc b).2,hdl.trans hlen,λi y hy=>?_,λy cc e=>?_,λi y cc d hy hd e=>?_⟩,λy cc e=>hal _ (look y cc e).1 rfl⟩
 ·obtain⟨⟨y,cc⟩,hm1,rfl⟩:=cf.mp hb;exact⟨y,z2v scope.names [] (λ_ _ z=>by cases z) hfc y cc (by rw[Ew];exact hm1)⟩
 ·have hf1:=hfr y (cx hy);have:=wD (env:=X.env) (x:=y) scope.names [] (.inl (fz hf1));rw[Ew]at this;exact⟨_,this⟩
 ·let⟨v0,ob,ho1,hd1⟩:=I.cell y cc (look y cc e).2;exact⟨ob,v0,wY ho1 (.inr (memL y cc e)),hd1⟩
 ·let⟨jj,hjj,hρ⟩:=hdg i d hd;let⟨v,hv,rd⟩:=rs.at_ jj d hρ;have hNj:X.N[jj]?=some y:=hcap (jj,y) (cx (i:=i) (si.mpr ⟨hjj,hy⟩));have hyk:=C' y (cx hy);let⟨m,hn,hl⟩:=I.loc;let⟨u,ru,lk⟩:=hl jj y v hNj hv (.inr (.inl hyk))
  rcases lk with⟨kl,_⟩|⟨_,c4,ec4,ob,ho1,hd1⟩
  ·have kl':X.env.scope.names.lookup y=some .local:=kl;rw[hyk]at kl';cases kl'
  ·rw[(look y cc e).2]at ec4;cases ec4;exact⟨ob,u,v,wY ho1 (.inr (memL y cc e)),hd1,ru,rd⟩
end
section
variable{X:Cx}{G:Cfg}{E:XK}{k:Nat}{q x:Str}{p pos lpos:Pos}{params:jl}{body:bq}{scope:fi}{c P fr:ah}{fdr:br}{Nl:Bh}{me:M Dv}{n ncl j:Nat}{mb:MS}{caps:A'}{os:fi}{oN:Bh}
theorem QQ(g:Good X G E k)(hj:j<=k)(hfn:∀y,X.fn y=true)(F:∀base,(∀b o,X.base.get? b=some o->base.get? b=some o)->Bu X.prog X.w X.K X.mg base (aZ X.prog X.w base) j fr fdr [x] (kE G base Nl params body scope me n ncl mb))(hg:Gl X q)(hm:X.mg q=some (.ref fr))(hk:kq X.K (.ref fr)=true)(hb:Binds X.K fdr [x] [])(Eu:defaultsOf params X.env=([],[]))(hq:X.env.qual++"<lambda>"=G.lq)(hP:G.tabs P=some G.lq)(Ds:X.env.code=.ref c)(hC:jc X.base c P)(hB:kF X.mg X.base)(LS:Cf Nl scope)(hs:X.env.scope.names=os.names)(hN:X.N=oN)(C':∀y∈Nl,os.names.lookup y=some .cell)(Fv:caps.length=Nl.length)(hcap:∀z∈caps.zip Nl,oN[z.1]?=some z.2)(Dw:(q==Hn)=false:=by decide)(he:ay [.Lambda params body scope lpos] X.env=[(false,eval (.Lambda params body scope lpos) X.env)]:=by rfl):
  aJ X G E (.Call (.Name q p) [.Lambda params body scope lpos] [] pos) (qE caps n ncl mb me):=by
 intro hK pins s σ H Q I ⟨μ,ρ,h,rs,sm,o⟩;rw[<-hs]at C';rw[<-hN]at hcap;unfold qE at o
 cases hcd:jO caps ρ with
 |none=>rw[hcd]at o;exact o.elim
 |some ds=>
 rw[hcd]at o;have hfree:∀y,(y,bz)∈scope.names->X.env.kindOf y=some .cell∨X.env.kindOf y=some .free:=λy hy=>.inl (C' y (LS.all _ hy rfl));refine pf (vY I hg hm ?_ Dw);refine Ag (h₀:=X.base) I.ok.mod.kin hk (aY (hY (NH (G:=G) (lpos:=lpos) (body:=body) Eu hq hP Ds hC hB hfree) jI he pos pins s σ H
  (λvs H1=>∃f c' pm ctv oc,vs=[.ref f]/\NG H H1/\Ec G H1/\H1 f=some (.frz (jn "<lambda>" G.lq params body scope (cW X.env scope.names []) pm c' ctv) (.own 0))/\H1 c'=some (.frz oc (.own 0))/\tR G.lq oc) I
  ⟨sm.tab,λf c' pm ctv oc H1 _ st tb e1 e2 e3=>⟨f,c',pm,ctv,oc,rfl,st,tb,e1,e2,e3⟩⟩) λus s1⟨vs,H1,I1,r,f,c',pm,ctv,oc,ev,st,tb,e1,e2,e3⟩=>⟨I1.kIn,?_⟩) he rfl
 subst ev;generalize Ew:cW X.env scope.names []=cl at *;have xt:Ext μ h.length H μ h.length H1:=⟨aq _,λ_ _=>rfl,λa u im z=>st a u (λps w=>by subst w;exact im) z⟩
 have sm1:Bz G μ h H1:=⟨sm.inj,λi ob z=>by
  have r0:=sm.ob i ob z
  cases ob with
  |lst xs=>obtain⟨vs,z1,z2⟩:=r0;exact⟨vs,st _ _ (λ_ w=>by cases w) z1,Gk xt _ _ z2⟩
  |clo k t=>exact r0.clo xt
  |dct ks=>exact st _ _ (λ_ w=>by cases w) r0,tb⟩
 obtain⟨memc,L,hall⟩:=QP LS.fr LS.all C' Fv hcap I1 (rs.mono xt) hcd Ew e1 e2 e3;have e0:=QO hfn I1.ok.frames I1 memc;have kb:∀b u,X.base.get? b=some u->(iU X.base s1.heap (cl.map (·.2))).get? b=some u:=λb u e=>wY (I1.bk _ _ e) (.inl ⟨u,e⟩);have hlen:(us++([]:List af)).length=[x].length:=by rw[nv,<-r.length];rfl
 have hbt:=hb s1 us I1.kIn hlen;rw[nv]at hbt;refine Af (qd ((F _ kb).run X.A X.stack s1 H1 ⟨us,[]⟩ us [.ref f] Q E (g.room.mono hj) e0 hbt r ⟨f,c',cl,ds,μ,h,rfl,L,hall,sm1,o.ext xt⟩) λrr s' hq'=>?_)
 cases rr with
 |ok fl=>
  cases fl with
  |ret u=>exact I1.after hq'
  |next=>exact ik hq'
  |brk=>exact ik hq'
  |cont=>exact ik hq'
 |error ev=>
  obtain⟨e,C,H',eu,os,bare,un,hok,fl,hE⟩:=hq';refine g.pas pins σ H1 s1 ev s' I1 ⟨e,C,H',eu,os,bare,un,hok,?_,hE⟩;obtain⟨T,a0,w1,w2,w3,w4⟩:=fl;refine⟨T,a0,w1,w2,?_,w4⟩
  cases qq:X.base.get? e with
  |none=>rfl
  |some u=>have:=kb e u qq;rw[w3]at this;cases this
end
def QR{base Fj:cu}(h:jc base c P)(k:∀b o,base.get? b=some o->Fj.get? b=some o):jc Fj c P:=by let⟨o,Cm,file,tf,flags,tg,inF,text,tt,e1,r⟩:=h;exact⟨o,Cm,file,tf,flags,tg,inF,text,tt,k _ _ e1,r⟩
def z2w{base Fj:cu}(h:kF mg base)(k:∀b o,base.get? b=some o->Fj.get? b=some o):kF mg Fj:=by let⟨bm,ob,b1,b2,b3,b4⟩:=h;exact⟨bm,ob,b1,b2,k _ _ b3,b4⟩
section
variable{X:Cx}{G:Cfg}{E:XK}{k:Nat}{q x y:Str}{p p2 py pos ps:Pos}{fr:ah}{fdr:br}{n ncl j t:Nat}{mb:MS}{ls:Nat->Option Lm}{lc:Nat->Option (A'×M Dv)}{sc:fi}{iter:bq}{mi:M Src}
theorem z2x{pins0:List (ah×Obj)}{s0:ag}{σ:St}{H0:Hp}{ex:List ah}{ρ:Ev}(g:Good X G E k)(hj:j<=k)(hfn:∀y,X.fn y=true)(F:∀k L,ls k=some L->∀base,(∀b o,X.base.get? b=some o->base.get? b=some o)->Bu X.prog X.w X.K X.mg base (aZ X.prog X.w base) j fr fdr [x] (kE G base L.Nl L.par L.bod L.scp L.me n ncl mb))(hg:Gl (bU X sc [y] s0 H0 ex) q)(hv:mU (bU X sc [y] s0 H0 ex).env.scope y)(hm:X.mg q=some (.ref fr))(hk:kq X.K (.ref fr)=true)(hb:Binds X.K fdr [x] [])(hL:∀k L,ls k=some L->Cf L.Nl L.scp/\(∀z∈L.Nl,X.env.scope.names.lookup z=some .cell)/\L.caps.length=L.Nl.length/\∀z∈L.caps.zip L.Nl,X.N[z.1]?=some z.2)(hG:∀μ n H k L a,ls k=some L->G.clo μ n H k t a->Eg G X.env L H a)(hlc:∀k c m,lc k=some (c,m)->∃L,ls k=some L/\L.caps=c/\L.me=m)(hd1:(y==Hn)=false)(hd2:(y==("__classdict__":Str))=false)(Dw:(q==Hn)=false)(I0:Inv X pins0 σ H0 s0)(hex:∀b∈ex,dC X pins0 H0 b/\b<s0.heap.objs.size):
  PE (bU X sc [y] s0 H0 ex) (.Call (.Name q p) [.Name y p2] [] pos) (GX G ρ σ (mP lc t n ncl mb ρ)):=by
 intro pins s σb H Q I ⟨μ,ρb,h,ro,rs,sm,o⟩;unfold mP at o
 split at o
 rotate_left
 ·exact o.elim
 rename_i i hρ
 split at o
 rotate_left
 ·exact o.elim
 rename_i kk t' hca
 split at o
 rotate_left
 ·exact o.elim
 rename_i ht;subst ht
 split at o
 rotate_left
 ·exact o.elim
 rename_i caps me hlk;obtain⟨L,hls,rfl,rfl⟩:=hlc _ _ _ hlk
 split at o
 rotate_left
 ·exact o.elim
 rename_i ds hcd;obtain⟨LS,C',Fv,hcap⟩:=hL kk L hls;have hob:h[i]?=some (.clo kk t'):=by
  unfold gM at hca
  split at hca
  ·rename_i k2 t2 e;cases hca;exact e
  ·cases hca
 obtain⟨v0,hv0,hi,hv0'⟩:=rs.at_ 0 (.ref i) hρ;subst hv0';obtain⟨_,_,hclo⟩:=sm.ob i _ hob;obtain⟨c',pm,ctv,oc,e1,e2,e3⟩:=hG _ _ _ kk L _ hls hclo;generalize Ew:cW X.env L.scp.names []=cl at *;obtain⟨memc,LA,hall⟩:=QP (params:=L.par) (body:=L.bod) LS.fr LS.all C' Fv hcap I0 ro hcd Ew e1 e2 e3;have e0:=QO hfn I0.ok.frames I0 memc;have ok:=I.ok;have ok':({bU X sc [y] s0 H0 ex with base:=iU X.base s0.heap (cl.map (·.2))}:Cx).Ok:=
  ⟨e0.mod,ok.kind,ok.glob,ok.blt,ok.above,ok.inj,ok.has,ok.cab,ok.hd,ok.frames,ok.stk,ok.exf,e0.bs,e0.bsz,λb u e hb=>by
   obtain⟨g1,g2⟩:=FP e
   rcases g2 with⟨u',g2⟩|g2
   ·exact ok.noex b u' g2 hb
   ·obtain⟨y,hy⟩:=memc b g2;exact(hex b hb).1.2.2.2.2.1 y b hy rfl,ok.exfs,e0.funs,ok.frf⟩
 have I':Inv {bU X sc [y] s0 H0 ex with base:=iU X.base s0.heap (cl.map (·.2))} pins σb H s:=⟨ok',I.os,I.bare,I.base,I.loc,I.cell,I.free,I.freeC,I.pin,I.hok,I.len⟩
 refine kv (KJ (X:={bU X sc [y] s0 H0 ex with base:=iU X.base s0.heap (cl.map (·.2))}) (E:=L2.E0) (F kk L hls _ λb u e=>wY (I0.bk _ _ e) (.inl ⟨u,e⟩)) (g.room.mono hj) hg hm hk hb .nil (λ_ _ _ _ _ _ _⟨_,_,_,_,_,_,_,_,_,z⟩=>z)
  (hY (zA (i:=0) (pos:=p2) rfl hv hd1 hd2) jI rfl) Dw rfl rfl pins s σb H Q I' ⟨.ref (μ i),hv0,?_⟩) (λu s'⟨v,H',J,rv,qq⟩=>⟨v,H',⟨ok,J.os,J.bare,J.base,J.loc,J.cell,J.free,J.freeC,J.pin,J.hok,J.len⟩,rv,qq⟩) λ_ _ z=>z
 exact⟨μ i,c',cl,ds,μ,h,rfl,LA,hall,sm,o⟩
theorem z2y(g:Good X G E k)(hj:j<=k)(hfn:∀y,X.fn y=true)(C:Cj X sc [y] [none])(hi:kA X G E (.Name y py) iter mi)(hgt:∀s H ex,jZ (bU X sc [y] s H ex) G (.Name y py) (aF 0))(F:∀k L,ls k=some L->∀base,(∀b o,X.base.get? b=some o->base.get? b=some o)->Bu X.prog X.w X.K X.mg base (aZ X.prog X.w base) j fr fdr [x] (kE G base L.Nl L.par L.bod L.scp L.me n ncl mb))(hg:∀s H ex,Gl (bU X sc [y] s H ex) q)(hv:∀s H ex,mU (bU X sc [y] s H ex).env.scope y)(hm:X.mg q=some (.ref fr))(hk:kq X.K (.ref fr)=true)(hb:Binds X.K fdr [x] [])(hL:∀k L,ls k=some L->Cf L.Nl L.scp/\(∀z∈L.Nl,X.env.scope.names.lookup z=some .cell)/\L.caps.length=L.Nl.length/\∀z∈L.caps.zip L.Nl,X.N[z.1]?=some z.2)(hG:∀μ n H k L a,ls k=some L->G.clo μ n H k t a->Eg G X.env L H a)(hlc:∀k c m,lc k=some (c,m)->∃L,ls k=some L/\L.caps=c/\L.me=m)(hd1:(y==Hn)=false:=by decide)(hd2:(y==("__classdict__":Str))=false:=by decide)(Dw:(q==Hn)=false:=by decide)(hs:∀x,foldedSetIterable iter X.env x=pure x:=by intro _;rfl):
  mD X G E (.ListComp (.Call (.Name q p) [.Name y p2] [] pos) [⟨.Name y py,iter,[],0⟩] sc ps) (pH mi lc t n ncl mb):=λhK=>
 Gp (YC (ti:=λσ σb H vs K=>∃ρ,zM (GX G ρ σ (mP lc t n ncl mb ρ)) σb H vs K) g.calm C rfl (λit D env=>ES _ _ iter [] sc ps (.ref it) D env) (hi hK) (λs H ex=>hgt s H ex hK) (λs H ex=>LN)
  (λpins s σ H ex D I hex=>λpins' s' σ' H' xs K I' a f⟨ρ,h⟩=>wG (z2x (ρ:=ρ) g hj hfn F (hg s H ex) (hv s H ex) hm hk hb hL hG hlc hd1 hd2 Dw I hex) pins' s' σ' H' xs K I' a f h) hs) λσ H Q⟨μ,ρ,h,rs,s,o⟩=>by
  unfold pH bO at o;refine⟨μ,ρ,h,rs,s,(o.bind (R1:=Dj G)).mono λJ H1⟨μ1,src,h1,x1,s1,ok,o1⟩=>?_⟩
  cases q:eS src (aF 0) cH (bB (mP lc t n ncl mb ρ)) src.n 0 (iP [none] ρ) h1 []with
  |bad=>rw[q]at o1;exact o1.elim
  |ex c h2=>rw[q]at o1;exact o1.elim
  |ok r h2=>rw[q]at o1;obtain⟨ρ',xs'⟩:=r;refine z2u (λ_ _ _ _ z=>⟨ρ,z⟩) ok (rs.mono x1) (MM (rs.mono x1) [none]) s1 Gr q λμ2 H2 σ2 Fq x2 s2 Dn r2 p hp=>?_;exact o1 μ2 _ _ (x2.trans (Gm (cN hp))) (s2.same (cN hp)) ⟨p,Fq,rfl,cU,s2.not hp,Gk (Gm (cN hp)) _ _ r2⟩
end
section
variable{X:Cx}{G:Cfg}{E:XK}{c P:ah}{lpos:Pos}{k t:Nat}{ls:Nat->Option Lm}{os:fi}{oN:Bh}
variable{q x y:Str}{p p2 py pos ps:Pos}{fr:ah}{fdr:br}{n ncl j:Nat}{mb:MS}{lc:Nat->Option (A'×M Dv)}{sc:fi}{iter:bq}{mi:M Src}
theorem QS(g:Good X (G.wf X.env t ls) E k)(hj:j<=k)(hfn:∀y,X.fn y=true)(C:Cj X sc [y] [none])(hi:kA X (G.wf X.env t ls) E (.Name y py) iter mi)(hgt:∀s H ex,jZ (bU X sc [y] s H ex) (G.wf X.env t ls) (.Name y py) (aF 0))(F:∀k L,ls k=some L->∀base,(∀b o,X.base.get? b=some o->base.get? b=some o)->Bu X.prog X.w X.K X.mg base (aZ X.prog X.w base) j fr fdr [x] (kE (G.wf X.env t ls) base L.Nl L.par L.bod L.scp L.me n ncl mb))(hm:X.mg q=some (.ref fr))(hk:kq X.K (.ref fr)=true)(hb:Binds X.K fdr [x] [])(O:∀k L,ls k=some L->El os oN L)(hlc:∀k c m,lc k=some (c,m)->∃L,ls k=some L/\L.caps=c/\L.me=m)(hs:X.env.scope.names=os.names:=by rfl)(hN:X.N=oN:=by rfl)(hg:∀s H ex,Gl (bU X sc [y] s H ex) q:=by intro _ _ _;rfl)(hv:∀s H ex,mU (bU X sc [y] s H ex).env.scope y:=by intro _ _ _;exact Or.inl rfl)(hd1:(y==Hn)=false:=by decide)(hd2:(y==("__classdict__":Str))=false:=by decide)(Dw:(q==Hn)=false:=by decide)(hf:∀x,foldedSetIterable iter X.env x=pure x:=by intro _;rfl):
  mD X (G.wf X.env t ls) E (.ListComp (.Call (.Name q p) [.Name y p2] [] pos) [⟨.Name y py,iter,[],0⟩] sc ps) (pH mi lc t n ncl mb):=
 z2y (ls:=ls) g hj hfn C hi hgt F hg hv hm hk hb (λk L e=>⟨(O k L e).ls,λz hz=>by rw[hs];exact(O k L e).kind z hz,(O k L e).len,by rw[hN];exact(O k L e).cap⟩) (λ_ _ _ _ L _ e h=>h.2 L e rfl) hlc hd1 hd2 Dw hf
end
end L2.Mr
namespace L2.Mr.K80
open L2.Mr.Com
open L2.Mr.K05 (dY mK lO nV fS pE jS pF jT pG mM qS kR lQ)
open L2.Mr.K82 (jA sP)
def tblV:List (Nat×Bool):=[(0,true),(5,true),(6,true)]
def tbl0:List (Nat×Bool):=[(0,true),(5,false),(6,false)]
def tbl1:List (Nat×Bool):=[(0,false),(5,false),(6,false)]
def tbl2:List (Nat×Bool):=[(0,false),(5,false),(6,false)]
def tbl3:List (Nat×Bool):=[(0,false),(5,false),(6,false)]
def tbl4:List (Nat×Bool):=[(0,false),(5,false),(6,false)]
def tbl5:List (Nat×Bool):=[(0,false),(5,true),(6,false)]
def tbl6:List (Nat×Bool):=[(0,false),(5,false),(6,true)]
def tbl7:List (Nat×Bool):=[(0,false),(5,false),(6,false)]
def tbl8:List (Nat×Bool):=[(0,false),(5,false),(6,false)]
def tbl9:List (Nat×Bool):=[(0,false),(5,false),(6,false)]
def tbl10:List (Nat×Bool):=[(0,false),(5,false),(6,false)]
def GY:MS:=(bK (mB (m2 hJ (aB 0) (mC (.int 6)))) (rQ 6 (aA (mC (.str "an order has at most 6 things")) aC)) bW)
def pI:Bi:=bA 1 1 (GY)
def z2z:MS:=(aI (bN (aD dY (aA (aB 0) aC))) (aI (bN (aD dY (aA (aB 1) aC))) (bN (aD pI (aA (m2 aU (m2 aN (aB 0) (mC (.int 0))) (m2 aN (aB 1) (mC (.int 0)))) aC)))))
def dZ:Bi:=bA 2 2 (z2z)
def z30:MS:=(aI (bN (aD dZ (aA (aB 0) (aA (aB 1) aC)))) (aI (aM (m2 aU (m2 aN (aB 0) (mC (.int 0))) (m2 aN (aB 1) (mC (.int 0)))) (aF 2)) (aI (aM (bQ (bO (aT dI (aA (m2 aN (aB 0) (mC (.int 0))) aC)) [none,none,some 2,some 0] (aF 0) cH (lC (aT lB (aA (m2 aN (aB 3) (mC (.int 0))) (aA (aB 2) aC))) (aF 1) cH (bB (aL (aA (aB 0) (aA (aB 1) aC))))))) (aF 3)) (aO (aL (aA (aB 2) (aA (aD (f1 dS) (aA (aD (f1 lN) (aA (m2 aU (aD jA (aA (aB 0) (aA (aB 1) aC))) (aB 3)) aC)) aC)) aC)))))))
def nW:Bi:=bA 2 4 (z30)
def z31:MS:=(aI (bN (aD dZ (aA (aB 0) (aA (aB 1) aC)))) (aO (aL (aA (m2 aU (m2 aN (aB 0) (mC (.int 0))) (m2 aN (aB 1) (mC (.int 0)))) (aA (aD (f1 dS) (aA (aD jA (aA (aB 0) (aA (aB 1) aC))) aC)) aC)))))
def nX:Bi:=bA 2 2 (z31)
def z32:MS:=(aI (bN (aD dZ (aA (aB 0) (aA (aB 1) aC)))) (aI (bN (aD fS (aA (aB 0) (aA (aB 2) aC)))) (aI (bN (aD fS (aA (aB 1) (aA (aB 3) aC)))) (aO (m2 aU (aB 2) (mL pY (bO (bP dH (aB 3)) [none,some 0] (aF 0) cH (bB (m2 aU (m2 aN (aB 1) (mC (.int 0))) (aB 0))))))))))
def jF:Bi:=bA 4 4 (z32)
def gI:MS:=(aI (aM (aQ (aA (m1 (bI (eU none tbl0)) (aB 1)) (aA (m1 (bI (eU none tbl1)) (aB 1)) (aA (m1 (bI (eU none tbl2)) (aB 1)) aC)))) (aF 3)) (aI (aM (m2 aU (aB 3) (aQ (aA (m1 (bI (eU none tbl3)) (aB 1)) (aA (m1 (bI (eU none tbl4)) (aB 1)) (aA (m1 (bI (eU none tbl5)) (aB 1)) aC))))) (aF 3)) (aI (aM (m2 aU (aB 3) (aQ (aA (m1 (bI (eU none tbl6)) (aB 1)) (aA (m1 (bI (eU none tbl7)) (aB 1)) (aA (m1 (bI (eU none tbl8)) (aB 1)) aC))))) (aF 3)) (aI (aM (m2 aU (aB 3) (aQ (aA (m1 (bI (eU none tbl9)) (aB 1)) (aA (m1 (bI (eU none tbl10)) (aB 1)) aC)))) (aF 3)) (aI (bK (cJ (bJ (m1 (bI (eU none tblV)) (aB 1)))) (aO (mC .non)) bW) (aO (bQ (bO (aT dI (aA (mC (.int 11)) aC)) [none,some 3] (aF 0) (bJ (m2 aN (aB 1) (aB 0))) (bB (aB 0))))))))))
def QT:M Dv:=(aD nW (aA (aB 0) (aA (aB 1) aC)))
def QU:M Dv:=(aD nX (aA (aB 0) (aA (aB 1) aC)))
def QV:M Dv:=(aD jF (aA (aB 0) (aA (aB 1) (aA (mC .non) (aA (mC .non) aC)))))
def BI:Nat->Option (A'×M Dv)
 |0=>some ([4,5],QT)
 |1=>some ([4,5],QU)
 |2=>some ([4,5],QV)
 |_=>none
def QW(tt:Nat):MS:=(aI (aM (aD iY (aA (aB 0) aC)) (aF 3)) (aI (aM (m2 aN (aQ (aA (aL (aA (aB 3) (aA (aB 1) aC))) (aA (aL (aA (aB 1) (aA (aB 3) aC))) aC))) (aD cA (aA (aB 0) (aA (mC (.int 2)) aC)))) (cC 2 (aV (aF 4) (aV (aF 5) cE)))) (aI (aM (aQ (aA (gL 0 tt) aC)) (aF 6)) (aI (bN (iQ (aB 6) (gL 1 tt))) (aI (bN (iQ (aB 6) (gL 2 tt))) (aO (m2 bR (bQ (pH (bP dX (aB 6)) BI tt 4 11 gI)) (m2 qI (aQ (aA (aQ (aA (mC (.int 0)) aC)) aC)) (mC (.int 3))))))))))
def vE:Bi:=uX 3 7 QW
def BJ:M Dv:=(aD jF (aA (aB 0) (aA (aB 1) (aA (aB 2) (aA (aB 3) aC)))))
def BK:M Dv:=(aD jF (aA (aB 0) (aA (aB 1) (aA (aB 2) (aA (aB 3) aC)))))
def QX:M Dv:=(aD nW (aA (aB 0) (aA (aB 1) aC)))
def QY:M Dv:=(aD nX (aA (aB 0) (aA (aB 1) aC)))
def QZ:M Dv:=(aD jF (aA (aB 0) (aA (aB 1) (aA (aB 2) (aA (aB 3) aC)))))
def BL:Nat->Option (A'×M Dv)
 |3=>some ([3,4],QX)
 |4=>some ([3,4],QY)
 |5=>some ([3,4,7,8],QZ)
 |_=>none
def BM(scr:y')(tt:Nat):MS:=(aI (aM (aD (sN scr) (aA (aB 0) (aA (aB 1) aC))) (aF 2)) (aI (aM (aL (aA (aD gE (aA (aB 2) (aA (mC (.int 5)) aC))) (aA (aD gE (aA (aB 2) (aA (mC (.int 5)) aC))) aC))) (cC 2 (aV (aF 3) (aV (aF 4) cE)))) (aI (bK (mB (m2 bR (aD cA (aA (aB 2) (aA (mC (.int 2)) aC))) (mC (.int 0)))) (aM (aL (aA (aD gE (aA (aB 2) (aA (mC (.int 3)) aC))) (aA (aD gE (aA (aB 2) (aA (mC (.int 3)) aC))) aC))) (cC 2 (aV (aF 3) (aV (aF 4) cE)))) bW) (aI (aM (aL (aA (aD jS (aA (aB 2) (aA (aB 3) aC))) (aA (aD jS (aA (aB 2) (aA (aB 4) aC))) aC))) (cC 2 (aV (aF 5) (aV (aF 6) cE)))) (aI (aM (aL (aA (aD jT (aA (aB 2) (aA (aB 5) aC))) (aA (aD jT (aA (aB 2) (aA (aB 6) aC))) aC))) (cC 2 (aV (aF 7) (aV (aF 8) cE)))) (aI (bK (mB (m2 hJ (m2 aU (m2 aN (aB 3) (mC (.int 0))) (m2 aN (aB 4) (mC (.int 0)))) (mC (.int 6)))) (aI (aM (aQ (aA (gL 3 tt) aC)) (aF 9)) (aI (bN (iQ (aB 9) (gL 4 tt))) (aI (bN (iQ (aB 9) (gL 5 tt))) (bK (mB (m2 bZ (bQ (pH (bP dX (aB 9)) BL tt 4 11 gI)) (m2 qI (aQ (aA (aQ (aA (mC (.int 6)) aC)) aC)) (mC (.int 3))))) (aO (mC (.bl false))) bW)))) (aI (aM (m2 aU (aD (f1 eV) (aA (m2 aN (aB 3) (mC (.int 1))) aC)) (bQ (bO (bP dH (m2 aN (aB 4) (mC (.int 1)))) [none,none,some 3] (cC 2 (aV (aF 0) (aV (aF 1) cE))) cH (bB (aL (aA (m2 aU (aB 0) (m2 aN (aB 2) (mC (.int 0)))) (aA (m2 aU (aB 1) (m2 aN (aB 2) (mC (.int 0)))) aC))))))) (aF 10)) (aI (bK (cJ (bJ (aD (dM 6) (aA (aD nX (aA (aB 3) (aA (aB 4) aC))) (aA (aL (aA (m2 aU (m2 aN (aB 3) (mC (.int 0))) (m2 aN (aB 4) (mC (.int 0)))) (aA (aD (f1 dS) (aA (aD (f1 lN) (aA (aB 10) aC)) aC)) aC))) aC))))) (aO (mC (.bl false))) bW) (aI (gX (aT dI (aA (m2 aN (aB 3) (mC (.int 0))) aC)) (aF 11) (bN (lD (aB 10) (bO (aT dI (aA (m2 aN (aB 4) (mC (.int 0))) aC)) [none,some 11,some 3] (aF 0) cH (bB (aL (aA (aB 1) (aA (m2 aU (aB 0) (m2 aN (aB 2) (mC (.int 0)))) aC)))))))) (aI (bK (cJ (bJ (aD (dM 6) (aA (aD nW (aA (aB 3) (aA (aB 4) aC))) (aA (aL (aA (m2 aU (m2 aN (aB 3) (mC (.int 0))) (m2 aN (aB 4) (mC (.int 0)))) (aA (aD (f1 dS) (aA (aD (f1 lN) (aA (aB 10) aC)) aC)) aC))) aC))))) (aO (mC (.bl false))) bW) (aI (bK (cJ (bJ (aD (dM 6) (aA (aD jF (aA (aB 3) (aA (aB 4) (aA (aB 5) (aA (aB 6) aC))))) (aA (m2 aU (aB 5) (mL pY (bO (bP dH (aB 6)) [none,some 3] (aF 0) cH (bB (m2 aU (aB 0) (m2 aN (aB 1) (mC (.int 0)))))))) aC))))) (aO (mC (.bl false))) bW) (aI (bK (jX (cJ (bJ (aD kR (aA (aB 3) (aA (aB 7) aC))))) (mB (m2 bZ (qE [3,4,7,8] 4 11 gI BJ) (aQ (aA (mC (.int 5)) aC))))) (aO (mC (.bl false))) bW) (bK (jX (cJ (bJ (aD kR (aA (aB 4) (aA (aB 8) aC))))) (mB (m2 bZ (qE [3,4,5,8] 4 11 gI BK) (aQ (aA (mC (.int 5)) aC))))) (aO (mC (.bl false))) bW)))))))) (bK (cJ (bJ (aD vE (aA (aB 2) (aA (aB 3) (aA (aB 4) aC)))))) (aO (mC (.bl false))) bW)))))))
def Q0(scr:y')(tt:Nat):MS:=(gX (aT dI (aA (aD oP (aA (mC (.int 1)) (aA (aD uC (aA (aD (f1 (jK scr)) (aA (aB 0) aC)) (aA (mC (.int 8)) aC))) aC))) aC)) (aF 1) (BM scr tt))
def ml1:MS:=(aO (mC (.bl true)))
def BN(scr:y')(tt:Nat):MS:=(aI (Q0 scr tt) (ml1))
def BO(scr:y'):Bi:=uX 1 12 (BN scr)
end L2.Mr.K80
namespace L2.Mr
section
variable{X:Cx}{G:Cfg}{E:XK}{e:bq}{me:M Dv}{pos pos':Pos}{i:Nat}{x:Str}
def bS(hN:X.N.Nodup)(hi:X.N[i]?=some x:=by rfl)(hx:mV X.env.scope x:=by first|exact .inl rfl|exact .inr rfl)(hf:X.fn x=true∨X.env.scope.names.lookup x=some .local:=by first|exact .inl rfl|exact .inr rfl|assumption):jZ X G (.Name x pos) (aF i):=Y4 hN hi hx hf
def cY(hN:X.N.Nodup)(he:aJ X G E e me)(hi:X.N[i]?=some x:=by rfl)(hx:mV X.env.scope x:=by first|exact .inl rfl|exact .inr rfl)(hs:swapsWith e (some (.Name x pos')) pos.line X.env=pure false:=by rfl)(hf:X.fn x=true∨X.env.scope.names.lookup x=some .local:=by first|exact .inl rfl|exact .inr rfl|assumption):iK X G E (.Assign [.Name x pos'] e pos) (aM me (aF i)):=E7 hN hi hx he hs hf
def fK{sc os:fi}{oN N:Bh}{cap:List (Option Nat)}(hs:X.env.scope.names=os.names:=by rfl)(hN:X.N=oN:=by rfl)(h1:sc.kind=.function:=by rfl)(h2:∀p∈sc.names,p.2=.local->sc.names.lookup p.1=some .local:=by decide+kernel)(h3:cap.length=N.length:=by rfl)(h4:∀p∈sc.names,p.2=.free->os.names.lookup p.1=some .cell∨os.names.lookup p.1=some .free:=by decide+kernel)(h5:∀p∈sc.names,p.2=.free->(p.1,ed)∉sc.names:=by decide+kernel)(h6:∀q∈cap.zip N,∀j∈q.1,oN[j]?=some q.2/\sc.names.lookup q.2=some .free:=by decide+kernel):Cj X sc N cap:=o7 hs hN h1 h2 h3 h4 h5 h6
end
def dD{N P:Bh}{sc:fi}(h1:sc.kind=.function:=by rfl)(h2:sc.isCoroutine=false:=by rfl)(h3:sc.isGenerator=false:=by rfl)(h4:N.Nodup:=by decide+kernel)(h5:N.take P.length=P:=by rfl)(h6:∀x∈P,sc.names.lookup x=some .local∨sc.names.lookup x=some .cell:=by decide+kernel)(h7:∀y∈sc.names,y.2≠.free:=by decide+kernel):Br N P sc:=⟨h1,h2,h3,h4,h5,h6,h7⟩
open PySem.W in
theorem dE{F:List (Frag->Bool)}{K:Frag}{l m:List (Option br)}(hf:l=m)(hc:F.all (λf=>f K)=true)(f:ah)(st:gw)(n:Str)(c:ah)(ps:Bh)(i j k:Nat)(hb:∀(kV doc pm:af)(an:Option ah)(cdv ct:af)(us:List af),us.length=ps.length->bindArgs (fnOf n n (pS st) (gR st) (aR st) .none kV doc pm an cdv ct) ⟨us,[]⟩=pure (ps.zip us))(h1:l[i]?=some (cT K f):=by rfl)(h2:m[i]?=some (some (fnOf n n (pS st) (gR st) (aR st) .none .none .none .none none (.ref c) .none)):=by rfl)(h3:F[j]?=some (codeIn · (.ref c) n):=by rfl)(h4:F[k]?=some (keepIn · (.ref f)):=by rfl):
  ∃fd:br,Fun K n n st f fd/\Binds K fd ps []/\fd.code=.ref c/\∀us:List af,us.length=ps.length->bindArgs fd ⟨us,[]⟩=pure (ps.zip us):=m9 (T1 hf i h1 h2) (mT hc j h3) (mT hc k h4) hb
structure Fd(K:ar)(mg:Str->Option af)(x:Str)(ps:Bh)(st:gw)(f:ah)(fd:br):Prop where
 F:Fun K x x st f fd
 B:Binds K fd ps []
 m:mg x=some (.ref f)
def bL{F:Bi}{st:gw}(g:Good X G E k)(Fn:Bu X.prog X.w X.K X.mg X.base (aZ X.prog X.w X.base) j f fd ps (cK G F))(D:Fd X.K X.mg x ps st f fd)(ha:eC X G E (e::es) ms)(hj:j<=k:=by decide)(hg:Gl X x:=by exact rfl)(Dw:(x==Hn)=false:=by decide)(he:ay (e::es) X.env=(false,eval e X.env)::ay es X.env:=by rfl)(Df:(backTo pos (ay es X.env)).any (·.1)=false:=by rfl):
  aJ X G E (.Call (.Name x p) (e::es) [] pos) (aD F ms):=FI g Fn hj hg D.m D.F.kp D.B ha Dw he Df
def sV{X:Cx}(hi:X.N[i]?=some x:=by rfl)(hv:mU X.env.scope x:=by first|exact .inl rfl|exact .inr (.inl rfl)|exact .inr (.inr rfl))(hd1:(x==Hn)=false:=by decide)(hd2:(x==("__classdict__":Str))=false:=by decide):aJ X G E (.Name x pos) (aB i):=bM i hi hv hd1 hd2
end L2.Mr
namespace L2.Mr.K80
open L2.Mr.Com
open L2.Mr.K05 (dY mK lO nV fS pE jS pF jT pG mM qS kR lQ)
open L2.Mr.K82 (jA sP)
def dF(i:Nat):gw:=ae.main.body.getD i (.Pass ⟨0,0,0,0⟩)
abbrev GZ:gw:=dF 14
abbrev G1:gw:=dF 15
abbrev BP:gw:=dF 16
abbrev G2:gw:=dF 19
abbrev BQ:gw:=dF 20
abbrev G3:gw:=dF 21
abbrev BR:gw:=dF 22
abbrev BS:gw:=dF 23
abbrev BU:gw:=dF 24
abbrev G4:gw:=dF 25
abbrev G5:gw:=dF 26
abbrev G6:gw:=dF 27
abbrev BV:gw:=dF 29
abbrev G7:gw:=dF 30
abbrev G8:gw:=dF 32
abbrev BW:gw:=dF 33
abbrev BX:gw:=dF 34
abbrev G9:gw:=dF 35
abbrev BY:gw:=dF 36
abbrev HC:gw:=dF 38
abbrev HD:gw:=dF 39
abbrev HE:gw:=dF 40
abbrev HF:gw:=dF 41
abbrev BZ:gw:=dF 42
abbrev xR:gw:=dF 43
abbrev xS:gw:=dF 44
abbrev HG:gw:=dF 45
abbrev HH:gw:=dF 46
abbrev xT:gw:=dF 47
abbrev HI:gw:=dF 48
abbrev CA:gw:=dF 49
abbrev sQ:gw:=dF 50
abbrev iE:gw:=dF 51
abbrev fT:gw:=dF 52
set_option genInjectivity false in
structure Ad where
 f_q0:ah
 fd_q0:br
 f_qq:ah
 fd_qq:br
 f_qw:ah
 fd_qw:br
 f_qz:ah
 fd_qz:br
 f_qp:ah
 fd_qp:br
 f_q3:ah
 fd_q3:br
 f_qu:ah
 fd_qu:br
 f_qv:ah
 fd_qv:br
 f_ql:ah
 fd_ql:br
 f_qy:ah
 fd_qy:br
 f_qr:ah
 fd_qr:br
 f_q1:ah
 fd_q1:br
 f_q6:ah
 fd_q6:br
 f_q2:ah
 fd_q2:br
 f_qx:ah
 fd_qx:br
 f_qf:ah
 fd_qf:br
 f_q5:ah
 fd_q5:br
 f_q4:ah
 fd_q4:br
 f_qi:ah
 fd_qi:br
 f_qg:ah
 fd_qg:br
 f_qn:ah
 fd_qn:br
 f_qt:ah
 fd_qt:br
 f_qc:ah
 fd_qc:br
 f_qj:ah
 fd_qj:br
 f_qm:ah
 fd_qm:br
 f_qe:ah
 fd_qe:br
 f_qd:ah
 fd_qd:br
 f_qo:ah
 fd_qo:br
 f_qk:ah
 fd_qk:br
 f_qb:ah
 fd_qb:br
 f_qs:ah
 fd_qs:br
 f_qh:ah
 fd_qh:br
 f_qa:ah
 fd_qa:br
 f_q7:ah
 fd_q7:br
 c_NoOrder:ah
 c_NoNumber:ah
 c_NoPairs:ah
 c_Round:ah
 c_NoThing:ah
 c_NoRow:ah
 c_TooMany:ah
 c_TooFew:ah
 c_NoText:ah
 c_NoLine:ah
 c_NoDeed:ah
 t_MOST_THINGS:Tok
 NE:ah
 cc__law_refusals_right:ah
 P__law_refusals_right:ah
 cc_law:ah
 P_law:ah
structure Tx(K:ar)(mg:Str->Option af)(G:Cf0)(A:Ad):Prop where
 hK:K=G.K
 d_is_whole:Fd K mg "is_whole" ["thing"] GZ A.f_q0 A.fd_q0
 d_is_between:Fd K mg "is_between" ["thing","low","high"] G1 A.f_qq A.fd_qq
 d_is_rising:Fd K mg "is_rising" ["parts"] BP A.f_qw A.fd_qw
 d_is_thing:Fd K mg "is_thing" ["many","thing"] G2 A.f_qz A.fd_qz
 d_are_things:Fd K mg "are_things" ["many","thing"] BQ A.f_qp A.fd_qp
 d_is_pair:Fd K mg "is_pair" ["many","thing"] G3 A.f_q3 A.fd_q3
 d_are_pairs:Fd K mg "are_pairs" ["many","things"] BR A.f_qu A.fd_qu
 d_has_alike:Fd K mg "has_alike" ["pairs"] BS A.f_qv A.fd_qv
 d_is_complete:Fd K mg "is_complete" ["pairs"] BU A.f_ql A.fd_ql
 d_is_order:Fd K mg "is_order" ["thing"] G4 A.f_qy A.fd_qy
 d_need_order:Fd K mg "need_order" ["order"] G5 A.f_qr A.fd_qr
 d_need_few:Fd K mg "need_few" ["many"] G6 A.f_q1 A.fd_q1
 d_is_row:Fd K mg "is_row" ["order","thing"] BV A.f_q6 A.fd_q6
 d_need_row:Fd K mg "need_row" ["order","row"] G7 A.f_q2 A.fd_q2
 d_need_both:Fd K mg "need_both" ["one","other"] G8 A.f_qx A.fd_qx
 d_pairs_of_both:Fd K mg "pairs_of_both" ["one","other"] BW A.f_qf A.fd_qf
 d_stacked:Fd K mg "stacked" ["one","other"] BX A.f_q5 A.fd_q5
 d_side_by:Fd K mg "side_by" ["one","other"] G9 A.f_q4 A.fd_q4
 d_rows_stacked:Fd K mg "rows_stacked" ["one","other","row","more"] BY A.f_qi A.fd_qi
 d__law_cell_at:Fd K mg "_law_cell_at" ["_law_script","_law_k"] HC A.f_qg A.fd_qg
 d__law_state:Fd K mg "_law_state" ["_law_script","_law_k"] HD A.f_qn A.fd_qn
 d__law_take:Fd K mg "_law_take" ["_law_state_here","_law_many"] HE A.f_qt A.fd_qt
 d__law_mixed_row:Fd K mg "_law_mixed_row" ["_law_state_here","_law_things"] HF A.f_qc A.fd_qc
 d__law_closed:Fd K mg "_law_closed" ["_law_pairs"] BZ A.f_qj A.fd_qj
 d__law_order:Fd K mg "_law_order" ["_law_state_here","_law_most"] xR A.f_qm A.fd_qm
 d__law_some_row:Fd K mg "_law_some_row" ["_law_state_here","_law_order_here"] xS A.f_qe A.fd_qe
 d__law_bent_row:Fd K mg "_law_bent_row" ["_law_state_here","_law_row"] HG A.f_qd A.fd_qd
 d__law_whole:Fd K mg "_law_whole" ["_law_thing"] HH A.f_qo A.fd_qo
 d__law_is_row:Fd K mg "_law_is_row" ["_law_order_here","_law_thing"] xT A.f_qk A.fd_qk
 d__law_bad_order:Fd K mg "_law_bad_order" ["_law_state_here"] HI A.f_qb A.fd_qb
 d__law_same:Fd K mg "_law_same" ["_law_found","_law_due"] CA A.f_qs A.fd_qs
 d__law_refused:Fd K mg "_law_refused" ["_law_call"] sQ A.f_qh A.fd_qh
 d__law_refusals_right:Fd K mg "_law_refusals_right" ["_law_state_here","_law_one","_law_other"] iE A.f_qa A.fd_qa
 d_law:Fd K mg "law" ["_law_script"] fT A.f_q7 A.fd_q7
 z_ValueError:mg "ValueError"=none
 z_all:mg "all"=none
 z_any:mg "any"=none
 z_bool:mg "bool"=none
 z_int:mg "int"=none
 z_isinstance:mg "isinstance"=none
 z_len:mg "len"=none
 z_list:mg "list"=none
 z_max:mg "max"=none
 z_min:mg "min"=none
 z_range:mg "range"=none
 z_set:mg "set"=none
 z_sorted:mg "sorted"=none
 z_tuple:mg "tuple"=none
 z_zip:mg "zip"=none
 c_MOST_THINGS:mg "MOST_THINGS"=some (.int 6 A.t_MOST_THINGS)
 n_NoOrder:mg "NoOrder"=some (.ref A.c_NoOrder)
 n_NoNumber:mg "NoNumber"=some (.ref A.c_NoNumber)
 n_NoPairs:mg "NoPairs"=some (.ref A.c_NoPairs)
 n_Round:mg "Round"=some (.ref A.c_Round)
 n_NoThing:mg "NoThing"=some (.ref A.c_NoThing)
 n_NoRow:mg "NoRow"=some (.ref A.c_NoRow)
 n_TooMany:mg "TooMany"=some (.ref A.c_TooMany)
 n_TooFew:mg "TooFew"=some (.ref A.c_TooFew)
 n_NoText:mg "NoText"=some (.ref A.c_NoText)
 n_NoLine:mg "NoLine"=some (.ref A.c_NoLine)
 n_NoDeed:mg "NoDeed"=some (.ref A.c_NoDeed)
 ns_NoOrder:tw K dg "NoOrder"=some (some (.ref A.c_NoOrder))
 x_NoOrder:sf K A.c_NoOrder wQ "ValueError.__new__"=true
 ce_NoOrder:A.c_NoOrder=G.cl 0
 ns_NoRow:tw K dg "NoRow"=some (some (.ref A.c_NoRow))
 x_NoRow:sf K A.c_NoRow wQ "ValueError.__new__"=true
 ce_NoRow:A.c_NoRow=G.cl 5
 ns_TooMany:tw K dg "TooMany"=some (some (.ref A.c_TooMany))
 x_TooMany:sf K A.c_TooMany wQ "ValueError.__new__"=true
 ce_TooMany:A.c_TooMany=G.cl 6
 ktV:∀c b,tblV.lookup c=some b->dm G.K (.ref (G.cl c)) (.type "ValueError")=some b/\Du G.K (G.cl c)
 kt0:∀c b,tbl0.lookup c=some b->dm G.K (.ref (G.cl c)) (.ref A.c_NoOrder)=some b/\Du G.K (G.cl c)
 kt1:∀c b,tbl1.lookup c=some b->dm G.K (.ref (G.cl c)) (.ref A.c_NoNumber)=some b/\Du G.K (G.cl c)
 kt2:∀c b,tbl2.lookup c=some b->dm G.K (.ref (G.cl c)) (.ref A.c_NoPairs)=some b/\Du G.K (G.cl c)
 kt3:∀c b,tbl3.lookup c=some b->dm G.K (.ref (G.cl c)) (.ref A.c_Round)=some b/\Du G.K (G.cl c)
 kt4:∀c b,tbl4.lookup c=some b->dm G.K (.ref (G.cl c)) (.ref A.c_NoThing)=some b/\Du G.K (G.cl c)
 kt5:∀c b,tbl5.lookup c=some b->dm G.K (.ref (G.cl c)) (.ref A.c_NoRow)=some b/\Du G.K (G.cl c)
 kt6:∀c b,tbl6.lookup c=some b->dm G.K (.ref (G.cl c)) (.ref A.c_TooMany)=some b/\Du G.K (G.cl c)
 kt7:∀c b,tbl7.lookup c=some b->dm G.K (.ref (G.cl c)) (.ref A.c_TooFew)=some b/\Du G.K (G.cl c)
 kt8:∀c b,tbl8.lookup c=some b->dm G.K (.ref (G.cl c)) (.ref A.c_NoText)=some b/\Du G.K (G.cl c)
 kt9:∀c b,tbl9.lookup c=some b->dm G.K (.ref (G.cl c)) (.ref A.c_NoLine)=some b/\Du G.K (G.cl c)
 kt10:∀c b,tbl10.lookup c=some b->dm G.K (.ref (G.cl c)) (.ref A.c_NoDeed)=some b/\Du G.K (G.cl c)
 n_NearError:mg "NearError"=some (.ref A.NE)
 e1:kg K (.ref A.NE) (.type "BaseException")=some true
 e2:kg K (.type "type") (.type "tuple")=some false
 e3:ye K (.ref A.NE) (.ref A.NE)=some true
 e4:∀c,c<11->kg K (.ref (G.cl c)) (.ref A.NE)=some true
 code__law_refusals_right:A.fd_qa.code=.ref A.cc__law_refusals_right
 code_law:A.fd_q7.code=.ref A.cc_law
structure Tz(base:cu)(mg:Str->Option af)(tabs:ah->Option Str)(A:Ad):Prop where
 P__law_refusals_right:tabs A.P__law_refusals_right=some ((("_law_refusals_right":Str)++".<locals>.")++"<lambda>")
 C__law_refusals_right:jc base A.cc__law_refusals_right A.P__law_refusals_right
 P_law:tabs A.P_law=some ((("law":Str)++".<locals>.")++"<lambda>")
 C_law:jc base A.cc_law A.P_law
 B:kF mg base
def Tz.up{base base2:cu}(Z:Tz base mg tabs A)(k:∀b o,base.get? b=some o->base2.get? b=some o):Tz base2 mg tabs A:=⟨Z.P__law_refusals_right,QR Z.C__law_refusals_right k,Z.P_law,QR Z.C_law k,z2w Z.B k⟩
def Q2:(["one","other"]:Bh).Nodup:=by decide+kernel
def nd5:(["part","many"]:Bh).Nodup:=by decide+kernel
def nd7:(["thing","many"]:Bh).Nodup:=by decide+kernel
def Q3:(["a","b"]:Bh).Nodup:=by decide+kernel
def CB:(["a","b","middle","c","pairs"]:Bh).Nodup:=by decide+kernel
def Q4:(["thing","many","pairs"]:Bh).Nodup:=by decide+kernel
def Q5:(["order","thing","many","pairs"]:Bh).Nodup:=by decide+kernel
def Q6:(["a","b","thing"]:Bh).Nodup:=by decide+kernel
def z33:(["one","other","first"]:Bh).Nodup:=by decide+kernel
def Q7:(["a","b","first"]:Bh).Nodup:=by decide+kernel
def Q8:(["one","other","many","between"]:Bh).Nodup:=by decide+kernel
def Q9:(["a","b","many","one"]:Bh).Nodup:=by decide+kernel
def z34:(["thing","one"]:Bh).Nodup:=by decide+kernel
def z35:(["_law_script","_law_k","_law_cell"]:Bh).Nodup:=by decide+kernel
def HJ:(["_law_state_here","_law_many","_law_found","_law_stirred"]:Bh).Nodup:=by decide+kernel
def RA:(["_law_state_here","_law_things","_law_left","_law_found"]:Bh).Nodup:=by decide+kernel
abbrev Bp:List PySem.Str:=["_law_pairs","_law_found","_law_later","_law_a","_law_b"]
def vF:(Bp:Bh).Nodup:=by decide+kernel
def RC:(["_law_c","_law_d","_law_a","_law_b"]:Bh).Nodup:=by decide+kernel
abbrev Bn:List PySem.Str:=["_law_state_here","_law_most","_law_many","_law_row","_law_way","_law_pairs","_law_marks","_law_i","_law_j","_law_near"]
def kS:(Bn:Bh).Nodup:=by decide+kernel
def z36:(["_law_thing","_law_state_here"]:Bh).Nodup:=by decide+kernel
def z37:(["_law_j","_law_i","_law_marks"]:Bh).Nodup:=by decide+kernel
abbrev Bo:List PySem.Str:=["_law_state_here","_law_order_here","_law_found","_law_turn","_law_left","_law_some"]
def xU:(Bo:Bh).Nodup:=by decide+kernel
def z38:(["_law_thing","_law_found"]:Bh).Nodup:=by decide+kernel
def z39:(["_law_thing","_law_order_here","_law_found"]:Bh).Nodup:=by decide+kernel
def RD:(["_law_a","_law_b","_law_thing","_law_found"]:Bh).Nodup:=by decide+kernel
def xV:(["_law_state_here","_law_row","_law_at","_law_to","_law_odd","_law_some","_law_other"]:Bh).Nodup:=by decide+kernel
def z3a:(["_law_one"]:Bh).Nodup:=by decide+kernel
def RE:(["_law_a","_law_b","_law_thing"]:Bh).Nodup:=by decide+kernel
def HK:(["_law_state_here","_law_some"]:Bh).Nodup:=by decide+kernel
def RF:(["_law_one","_law_other"]:Bh).Nodup:=by decide+kernel
def CC:(["_law_call","_law_error","e","_law_marks"]:Bh).Nodup:=by decide+kernel
def z3b:(["_law_k","_law_marks"]:Bh).Nodup:=by decide+kernel
abbrev Bm:List PySem.Str:=["_law_state_here","_law_one","_law_other","_law_bad","_law_first","_law_then","_law_calls"]
def CD:(Bm:Bh).Nodup:=by decide+kernel
def RG:(["_law_call"]:Bh).Nodup:=by decide+kernel
abbrev Bl:List PySem.Str:=["_law_script","_law_k","_law_state_here","_law_one","_law_other","_law_row","_law_more","_law_bent","_law_odd","_law_calls","_law_pairs","_law_a"]
def kT:(Bl:Bh).Nodup:=by decide+kernel
def RH:(["_law_a","_law_b","_law_one"]:Bh).Nodup:=by decide+kernel
def z3c:(["_law_b","_law_a","_law_one"]:Bh).Nodup:=by decide+kernel
def z3d:(["_law_b","_law_one"]:Bh).Nodup:=by decide+kernel
section
variable{P:bp}{w:cm}{K:ar}{mg:Str->Option af}{base:cu}{G:Cfg}{A:Ad}
theorem Tx.at{q:Str}(T:Tx K mg G A):Tx K mg (G.at q).toCf0 A:={T with}
def z3e:Br ["thing"] ["thing"] (aR GZ):=dD
def z3f(T:Tx K mg G A):Bu P w K mg base (aZ P w base) 1 A.f_q0 A.fd_q0 ["thing"] (cK G uU):=dP (k:=0) T.d_is_whole.F z3e T.hK λ_ _ _ _ _ _ _ g=>(bH (cB (rJ (NS rfl T.z_isinstance rfl T.z_int sV) (rH (E3 (AM rfl T.z_isinstance rfl T.z_bool sV))))))
def z3g:Br ["thing","low","high"] ["thing","low","high"] (aR G1):=dD
def RI(T:Tx K mg G A):Bu P w K mg base (aZ P w base) 2 A.f_qq A.fd_qq ["thing","low","high"] (cK G qO):=dP (k:=1) T.d_is_between.F z3g T.hK λ_ _ _ _ _ _ _ g=>(bH (cB (rJ (bL g (z3f T) T.d_is_whole (aE sV aK)) (rH (p7 sV sV sV)))))
def z3h:Br ["parts"] ["parts"] (aR BP):=dD
def z3i(T:Tx K mg G A):Bu P w K mg base (aZ P w base) 1 A.f_qw A.fd_qw ["parts"] (cK G A7):=dP (k:=0) T.d_is_rising.F z3h T.hK λ_ _ _ _ _ _ _ g=>(bH (cB (uG g.calm rfl T.z_all (iB g.calm (fK (N:=["one","other"]) (os:=(aR BP)) (oN:=["parts"])) (NA rfl T.z_zip (aE sV (aE (oY sV (nE aS) oR) aK))) (λ_ _ _=>(gW (dO g).calm (cV (bS Q2) (cV (bS Q2) gU)))) (λ_ _ _=>jM) (λ_ _ _=>(GL (dO g) sV sV))))))
def z3j:Br ["many","thing"] ["many","thing"] (aR G2):=dD
def z3k(T:Tx K mg G A):Bu P w K mg base (aZ P w base) 3 A.f_qz A.fd_qz ["many","thing"] (cK G qP):=dP (k:=2) T.d_is_thing.F z3j T.hK λ_ _ _ _ _ _ _ g=>(bH (cB (bL g (RI T) T.d_is_between (aE sV (aE aS (aE (FU sV aS) aK))))))
def z3l:Br ["many","thing"] ["many","thing"] (aR BQ):=dD
def RJ(T:Tx K mg G A):Bu P w K mg base (aZ P w base) 4 A.f_qp A.fd_qp ["many","thing"] (cK G mI):=dP (k:=3) T.d_are_things.F z3l T.hK λ_ _ _ _ _ _ _ g=>(bH (cB (rJ (uM rfl T.z_isinstance rfl T.z_tuple sV) (rH (uG g.calm rfl T.z_all (iB g.calm (fK (N:=["part","many"]) (os:=(aR BQ)) (oN:=["many","thing"])) (kM sV) (λ_ _ _=>(bS nd5)) (λ_ _ _=>jM) (λ_ _ _=>(bL (dO g) (z3k T) T.d_is_thing (aE sV (aE sV aK))))))))))
def z3m:Br ["many","thing"] ["many","thing"] (aR G3):=dD
def z3n(T:Tx K mg G A):Bu P w K mg base (aZ P w base) 5 A.f_q3 A.fd_q3 ["many","thing"] (cK G mJ):=dP (k:=4) T.d_is_pair.F z3m T.hK λ_ _ _ _ _ _ _ g=>(bH (cB (rJ (bL g (RJ T) T.d_are_things (aE sV (aE sV aK))) (rH (oV g (nI rfl T.z_len (aE sV aK)) aS)))))
def z3o:Br ["many","things"] ["many","things"] (aR BR):=dD
def z3p(T:Tx K mg G A):Bu P w K mg base (aZ P w base) 6 A.f_qu A.fd_qu ["many","things"] (cK G uW):=dP (k:=5) T.d_are_pairs.F z3o T.hK λ_ _ _ _ _ _ _ g=>(bH (cB (uG g.calm rfl T.z_all (iB g.calm (fK (N:=["thing","many"]) (os:=(aR BR)) (oN:=["many","things"])) (kM sV) (λ_ _ _=>(bS nd7)) (λ_ _ _=>jM) (λ_ _ _=>(bL (dO g) (z3n T) T.d_is_pair (aE sV (aE sV aK))))))))
def z3q:Br ["pairs"] ["pairs"] (aR BS):=dD
def z3r(T:Tx K mg G A):Bu P w K mg base (aZ P w base) 1 A.f_qv A.fd_qv ["pairs"] (cK G A9):=dP (k:=0) T.d_has_alike.F z3q T.hK λ_ _ _ _ _ _ _ g=>(bH (cB (Z0 g.calm rfl T.z_any (iB g.calm (fK (N:=["a","b"]) (os:=(aR BS)) (oN:=["pairs"])) (kM sV) (λ_ _ _=>(gW (dO g).calm (cV (bS Q3) (cV (bS Q3) gU)))) (λ_ _ _=>jM) (λ_ _ _=>(oV (dO g) sV sV))))))
def z3s:Br ["pairs"] ["pairs"] (aR BU):=dD
def z3t(T:Tx K mg G A):Bu P w K mg base (aZ P w base) 1 A.f_ql A.fd_ql ["pairs"] (cK G BA):=dP (k:=0) T.d_is_complete.F z3s T.hK λ_ _ _ _ _ _ _ g=>(bH (cB (uG g.calm rfl T.z_all (Y7 g.calm (fK (N:=["a","b","middle","c","pairs"]) (os:=(aR BU)) (oN:=["pairs"])) (kM sV) (λ_ _ _=>(gW (dO g).calm (cV (bS CB) (cV (bS CB) gU)))) (λ_ _ _=>jM) (λ_ _ _=>(kM sV)) (λ_ _ _=>(gW (dO g).calm (cV (bS CB) (cV (bS CB) gU)))) (λ_ _ _=>(oQ (rW (dO g) sV sV))) (λ_ _ _=>(z0c (dO g) (eQ (aE sV (aE sV aK))) sV))))))
def z3u:Br ["thing","many","pairs"] ["thing"] (aR G4):=dD
def z3v(T:Tx K mg G A):Bu P w K mg base (aZ P w base) 7 A.f_qy A.fd_qy ["thing"] (cK G kQ):=dP (k:=6) T.d_is_order.F z3u T.hK λ_ _ _ _ _ _ _ g=>(aW (eE (Hm (rG (iJ (fY (uM rfl T.z_isinstance rfl T.z_tuple sV))) (tV (lI g (nI rfl T.z_len (aE sV aK)) aS)))) (bH (cB fV)) eI) (aW (rO sV (gW g.calm (cV (bS Q4) (cV (bS Q4) gU)))) (aW (eE (Hm (rG (iJ (fY (bL g (RI T) T.d_is_between (aE sV (aE aS (aE (NP rfl T.c_MOST_THINGS) aK)))))) (tV (iJ (fY (uM rfl T.z_isinstance rfl T.z_tuple sV)))))) (bH (cB fV)) eI) (aW (eE (Hm (rG (iJ (fY (bL g (z3p T) T.d_are_pairs (aE sV (aE sV aK))))) (tV (iJ (fY (bL g (z3i T) T.d_is_rising (aE sV aK))))))) (bH (cB fV)) eI) (bH (cB (rJ (E3 (bL g (z3r T) T.d_has_alike (aE sV aK))) (rH (bL g (z3t T) T.d_is_complete (aE sV aK))))))))))
def z3w:Br ["order"] ["order"] (aR G5):=dD
def HL(T:Tx K mg G A):Bu P w K mg base (aZ P w base) 8 A.f_qr A.fd_qr ["order"] (cK G dY):=dP (k:=7) T.d_need_order.F z3w T.hK λ_ _ _ _ _ _ _ g=>(bH (eE (iJ (fY (bL g (z3v T) T.d_is_order (aE sV aK)))) (bH (FJ g rfl T.n_NoOrder T.ns_NoOrder T.x_NoOrder T.ce_NoOrder (aE wK aK))) eI))
def z3x:Br ["many"] ["many"] (aR G6):=dD
def z3y(T:Tx K mg G A):Bu P w K mg base (aZ P w base) 1 A.f_q1 A.fd_q1 ["many"] (cK G pI):=dP (k:=0) T.d_need_few.F z3x T.hK λ_ _ _ _ _ _ _ g=>(bH (eE (FX sV (NP rfl T.c_MOST_THINGS)) (bH (FJ g rfl T.n_TooMany T.ns_TooMany T.x_TooMany T.ce_TooMany (aE wK aK))) eI))
def z3z:Br ["order","thing","many","pairs"] ["order","thing"] (aR BV):=dD
def z40(T:Tx K mg G A):Bu P w K mg base (aZ P w base) 9 A.f_q6 A.fd_q6 ["order","thing"] (cK G lO):=dP (k:=8) T.d_is_row.F z3z T.hK λ_ _ _ _ _ _ _ g=>(aW (iM (bL g (HL T) T.d_need_order (aE sV aK))) (aW (rO sV (gW g.calm (cV (bS Q5) (cV (bS Q5) gU)))) (aW (eE (Hm (rG (iJ (fY (bL g (RJ T) T.d_are_things (aE sV (aE sV aK))))) (rG (lI g (nI rfl T.z_len (aE sV aK)) sV) (tV (lI g (z2l g.calm rfl T.z_len rfl T.z_set (aE sV aK)) sV))))) (bH (cB fV)) eI) (bH (cB (uG g.calm rfl T.z_all (iB g.calm (fK (N:=["a","b","thing"]) (os:=(aR BV)) (oN:=["order","thing","many","pairs"])) (kM sV) (λ_ _ _=>(gW (dO g).calm (cV (bS Q6) (cV (bS Q6) gU)))) (λ_ _ _=>jM) (λ_ _ _=>(GL (dO g) (AQ sV sV) (AQ sV sV))))))))))
def z41:Br ["order","row"] ["order","row"] (aR G7):=dD
def RK(T:Tx K mg G A):Bu P w K mg base (aZ P w base) 10 A.f_q2 A.fd_q2 ["order","row"] (cK G fS):=dP (k:=9) T.d_need_row.F z41 T.hK λ_ _ _ _ _ _ _ g=>(bH (eE (iJ (fY (bL g (z40 T) T.d_is_row (aE sV (aE sV aK))))) (bH (FJ g rfl T.n_NoRow T.ns_NoRow T.x_NoRow T.ce_NoRow (aE wK aK))) eI))
def z42:Br ["one","other"] ["one","other"] (aR G8):=dD
def HM(T:Tx K mg G A):Bu P w K mg base (aZ P w base) 9 A.f_qx A.fd_qx ["one","other"] (cK G dZ):=dP (k:=8) T.d_need_both.F z42 T.hK λ_ _ _ _ _ _ _ g=>(aW (iM (bL g (HL T) T.d_need_order (aE sV aK))) (aW (iM (bL g (HL T) T.d_need_order (aE sV aK))) (bH (iM (bL g (z3y T) T.d_need_few (aE (cS (bV sV aS) (bV sV aS)) aK))))))
def z43:Br ["one","other","first"] ["one","other"] (aR BW):=dD
def RM(T:Tx K mg G A):Bu P w K mg base (aZ P w base) 1 A.f_qf A.fd_qf ["one","other"] (cK G jA):=dP (k:=0) T.d_pairs_of_both.F z43 T.hK λ_ _ _ _ _ _ _ g=>(aW (cY z33 (bV sV aS)) (bH (cB (cS (uN rfl T.z_list (aE (bV sV aS) aK)) (nA (iB g.calm (fK (N:=["a","b","first"]) (os:=(aR BW)) (oN:=["one","other","first"])) (kM (bV sV aS)) (λ_ _ _=>(gW (dO g).calm (cV (bS Q7) (cV (bS Q7) gU)))) (λ_ _ _=>jM) (λ_ _ _=>(eQ (aE (cS sV sV) (aE (cS sV sV) aK))))))))))
def z44:Br ["one","other","many","between"] ["one","other"] (aR BX):=dD
def HN(T:Tx K mg G A):Bu P w K mg base (aZ P w base) 10 A.f_q5 A.fd_q5 ["one","other"] (cK G nW):=dP (k:=9) T.d_stacked.F z44 T.hK λ_ _ _ _ _ _ _ g=>(aW (iM (bL g (HM T) T.d_need_both (aE sV (aE sV aK)))) (aW (cY Q8 (cS (bV sV aS) (bV sV aS))) (aW (z0e (i:=3) Q8 rfl g.calm (fK (N:=["a","b","many","one"]) (os:=(aR BX)) (oN:=["one","other","many","between"])) (mZ rfl T.z_range (aE (bV sV aS) aK)) (λ_ _ _=>(bS Q9)) (λ_ _ _=>jM) (λ_ _ _=>(ML rfl T.z_range (aE (bV sV aS) (aE sV aK)))) (λ_ _ _=>(bS Q9)) (λ_ _ _=>jM) (λ_ _ _=>(eQ (aE sV (aE sV aK))))) (bH (cB (eQ (aE sV (aE (pU rfl T.z_tuple (aE (GK rfl T.z_sorted (aE (cS (bL g (RM T) T.d_pairs_of_both (aE sV (aE sV aK))) sV) aK)) aK)) aK))))))))
def z45:Br ["one","other"] ["one","other"] (aR G9):=dD
def HP(T:Tx K mg G A):Bu P w K mg base (aZ P w base) 10 A.f_q4 A.fd_q4 ["one","other"] (cK G nX):=dP (k:=9) T.d_side_by.F z45 T.hK λ_ _ _ _ _ _ _ g=>(aW (iM (bL g (HM T) T.d_need_both (aE sV (aE sV aK)))) (bH (cB (eQ (aE (cS (bV sV aS) (bV sV aS)) (aE (pU rfl T.z_tuple (aE (bL g (RM T) T.d_pairs_of_both (aE sV (aE sV aK))) aK)) aK))))))
def z46:Br ["one","other","row","more"] ["one","other","row","more"] (aR BY):=dD
def xW(T:Tx K mg G A):Bu P w K mg base (aZ P w base) 11 A.f_qi A.fd_qi ["one","other","row","more"] (cK G jF):=dP (k:=10) T.d_rows_stacked.F z46 T.hK λ_ _ _ _ _ _ _ g=>(aW (iM (bL g (HM T) T.d_need_both (aE sV (aE sV aK)))) (aW (iM (bL g (RK T) T.d_need_row (aE sV (aE sV aK)))) (aW (iM (bL g (RK T) T.d_need_row (aE sV (aE sV aK)))) (bH (cB (cS sV (M6 rfl T.z_tuple (iB g.calm (fK (N:=["thing","one"]) (os:=(aR BY)) (oN:=["one","other","row","more"])) (kM sV) (λ_ _ _=>(bS z34)) (λ_ _ _=>jM) (λ_ _ _=>(cS (bV sV aS) sV))))))))))
def z47:Br ["_law_script","_law_k"] ["_law_script","_law_k"] (aR HC):=dD
def z48(T:Tx K mg G A):Bu P w K mg base (aZ P w base) 1 A.f_qg A.fd_qg ["_law_script","_law_k"] (cK G (xP G.scr)):=dP (k:=0) (N:=["_law_script","_law_k"]) (mb:=(BB G.scr)) T.d__law_cell_at.F z47 T.hK λ_ _ _ _ _ _ _ g=>(aW (eE (QB g sV (MH rfl T.z_len (aE sV aK))) (bH (cB (YV sV sV))) eI) (bH (cB aS)))
def z49:Br ["_law_script","_law_k","_law_cell"] ["_law_script","_law_k"] (aR HD):=dD
def z4a(T:Tx K mg G A):Bu P w K mg base (aZ P w base) 2 A.f_qn A.fd_qn ["_law_script","_law_k"] (cK G (sN G.scr)):=dP (k:=1) (N:=["_law_script","_law_k","_law_cell"]) (mb:=(BC G.scr)) T.d__law_state.F z49 T.hK λ_ _ _ _ _ _ _ g=>(aW (cY z35 (bL g (z48 T) T.d__law_cell_at (aE sV (aE sV aK)))) (aW (eE (p6 sV (FV aS aS)) (bH (cB (fW (aE (FU sV (FV aS aS)) (aE fV aK))))) eI) (bH (cB (fW (aE (uL sV aS) (aE fV aK)))))))
def z4b:Br ["_law_state_here","_law_many","_law_found","_law_stirred"] ["_law_state_here","_law_many"] (aR HE):=dD
def jU(T:Tx K mg G A):Bu P w K mg base (aZ P w base) 1 A.f_qt A.fd_qt ["_law_state_here","_law_many"] (cK G cA):=dP (k:=0) T.d__law_take.F z4b T.hK λ_ _ _ _ _ _ _ g=>(aW (eE (fY (bV sV aS)) (aW (cY HJ (uL (bV sV aS) sV)) (aW (M8 sV aS (NZ (bV sV aS) sV)) (bH (cB sV)))) eI) (aW (M8 sV aS (uL (cS (xD (bV sV aS) aS) aS) aS)) (aW (cY HJ (uL (cS (cS (xD (bV sV aS) (bV sV aS)) (xD aS (bV sV aS))) aS) aS)) (aW (cY HJ (uL (cS (xD sV sV) (xD aS sV)) aS)) (bH (cB (uL (NZ sV aS) sV)))))))
def z4c:Br ["_law_state_here","_law_things","_law_left","_law_found"] ["_law_state_here","_law_things"] (aR HF):=dD
def z4d(T:Tx K mg G A):Bu P w K mg base (aZ P w base) 2 A.f_qc A.fd_qc ["_law_state_here","_law_things"] (cK G BD):=dP (k:=1) T.d__law_mixed_row.F z4c T.hK λ_ _ _ _ _ _ _ g=>(aW (cY RA (uN rfl T.z_list (aE sV aK))) (aW (cY RA (fW aK)) (aW (NL 40 g.own (lI g sV (fW aK)) (bH (iM (uH sV (k8 sV (bL g (jU T) T.d__law_take (aE sV (aE (nI rfl T.z_len (aE sV aK)) aK)))))))) (bH (cB sV)))))
def z4e:Br Bp ["_law_pairs"] (aR BZ):=dD
def z4f(T:Tx K mg G A):Bu P w K mg base (aZ P w base) 1 A.f_qj A.fd_qj ["_law_pairs"] (cK G gD):=dP (k:=0) T.d__law_closed.F z4e T.hK λ_ _ _ _ _ _ _ g=>(aW (cY vF (QE g rfl T.z_sorted rfl T.z_set (aE sV aK))) (bH (NL 40 g.own (fY fV) (aW (cY vF (uN rfl T.z_list (aE sV aK))) (aW (rP g.own g.calm (uE sV) (gW g.calm (cV (bS vF) (cV (bS vF) gU))) (bH (iM (M7 sV (iB g.calm (fK (N:=["_law_c","_law_d","_law_a","_law_b"]) (os:=(aR BZ)) (oN:=Bp)) (uE sV) (λ_ _ _=>(gW (dO g).calm (cV (bS RC) (cV (bS RC) gU)))) (λ_ _ _=>(oQ (rW (dO g) sV sV))) (λ_ _ _=>(eQ (aE sV (aE sV aK))))))))) (aW (cY vF (QE g rfl T.z_sorted rfl T.z_set (aE sV aK))) (aW (eE (rW g sV sV) (bH (cB sV)) eI) (bH (cY vF sV)))))))))
def z4g:Br Bn ["_law_state_here","_law_most"] (aR xR):=dD
def CF(T:Tx K mg G A):Bu P w K mg base (aZ P w base) 3 A.f_qm A.fd_qm ["_law_state_here","_law_most"] (cK G gE):=dP (k:=2) T.d__law_order.F z4g T.hK λ_ _ _ _ _ _ _ g=>(aW (cY kS (FU sV (bV (qR 2) (bL g (jU T) T.d__law_take (aE sV (aE aS aK)))))) (aW (cY kS (MJ g.calm rfl T.z_max (aE aS (aE sV aK)))) (aW (cY kS (bL g (z4d T) T.d__law_mixed_row (aE sV (aE (QC g rfl T.z_list rfl T.z_range (aE sV aK)) aK)))) (aW (cY kS (bL g (jU T) T.d__law_take (aE sV (aE aS aK)))) (aW (cY kS (fW aK)) (aW (cY kS (nA (iB g.calm (fK (N:=["_law_thing","_law_state_here"]) (os:=(aR xR)) (oN:=Bn)) (uE sV) (λ_ _ _=>(bS z36)) (λ_ _ _=>jM) (λ_ _ _=>(bL (dO g) (jU T) T.d__law_take (aE sV (aE aS aK))))))) (aW (rP g.own g.calm (mZ rfl T.z_range (aE sV aK)) (bS kS) (bH (rP g.own g.calm (ML rfl T.z_range (aE (cS sV aS) (aE sV aK))) (bS kS) (aW (cY kS (fW (aE (oV g (bL g (jU T) T.d__law_take (aE sV (aE aS aK))) aS) (aE (oV g (bL g (jU T) T.d__law_take (aE sV (aE aS aK))) aS) (aE (p0 (bL g (jU T) T.d__law_take (aE sV (aE aS aK))) aS) aK))))) (aW (cY kS (cS sV (fW (aE (GL g (bV sV sV) (bV sV sV)) (aE (oV g (bV sV sV) (bV sV sV)) aK))))) (bH (eE (fY (bV sV sV)) (bH (iM (uH sV (eQ (aE (bV sV sV) (aE (bV sV sV) aK)))))) eI))))))) (aW (eE (rW g sV aS) (aW (cY kS (fW aK)) (bH (rP g.own g.calm (mZ rfl T.z_range (aE sV aK)) (bS kS) (bH (cY kS (cS sV (nA (iB g.calm (fK (N:=["_law_j","_law_i","_law_marks"]) (os:=(aR xR)) (oN:=Bn)) (mZ rfl T.z_range (aE sV aK)) (λ_ _ _=>(bS z37)) (λ_ _ _=>(oQ (QB (dO g) (bV sV sV) (bV sV sV)))) (λ_ _ _=>(eQ (aE sV (aE sV aK)))))))))))) eI) (bH (cB (eQ (aE sV (aE (pU rfl T.z_tuple (aE (bL g (z4f T) T.d__law_closed (aE sV aK)) aK)) aK)))))))))))))
def z4h:Br Bo ["_law_state_here","_law_order_here"] (aR xS):=dD
def RN(T:Tx K mg G A):Bu P w K mg base (aZ P w base) 2 A.f_qe A.fd_qe ["_law_state_here","_law_order_here"] (cK G jS):=dP (k:=1) T.d__law_some_row.F z4h T.hK λ_ _ _ _ _ _ _ g=>(aW (cY xU (eQ aK)) (aW (rP g.own g.calm (mZ rfl T.z_range (aE (bV sV aS) aK)) (bS xU) (aW (OA (i:=4) xU rfl g.calm (fK (N:=["_law_thing","_law_found"]) (os:=(aR xS)) (oN:=Bo)) (mZ rfl T.z_range (aE (bV sV aS) aK)) (λ_ _ _=>(bS z38)) (λ_ _ _=>(oQ (N3 (dO g) sV sV))) (λ_ _ _=>sV)) (aW (OA (i:=5) xU rfl g.calm (fK (N:=["_law_thing","_law_order_here","_law_found"]) (os:=(aR xS)) (oN:=Bo)) (uE sV) (λ_ _ _=>(bS z39)) (λ_ _ _=>(oQ (rW (dO g) (nA (iB (dO g).calm (fK (N:=["_law_a","_law_b","_law_thing","_law_found"]) (os:={kind:=.function,names:=[(".0",.local),("_law_thing",.cell),("_law_found",.cell),("_law_order_here",.cell)],isGenerator:=false,isCoroutine:=false}) (oN:=["_law_thing","_law_order_here","_law_found"])) (kM (bV sV aS)) (λ_ _ _=>(gW (dO (dO g)).calm (cV (bS RD) (cV (bS RD) gU)))) (λ_ _ _=>(oQ (Hm (E2 (rW (dO (dO g)) sV sV) (E1 (N3 (dO (dO g)) sV sV)))))) (λ_ _ _=>sV))) (fW aK)))) (λ_ _ _=>sV)) (bH (cY xU (cS sV (eQ (aE (bV sV (bL g (jU T) T.d__law_take (aE sV (aE (nI rfl T.z_len (aE sV aK)) aK)))) aK)))))))) (bH (cB sV))))
def z4i:Br ["_law_state_here","_law_row","_law_at","_law_to","_law_odd","_law_some","_law_other"] ["_law_state_here","_law_row"] (aR HG):=dD
def RO(T:Tx K mg G A):Bu P w K mg base (aZ P w base) 2 A.f_qd A.fd_qd ["_law_state_here","_law_row"] (cK G jT):=dP (k:=1) T.d__law_bent_row.F z4i T.hK λ_ _ _ _ _ _ _ g=>(aW (z2b (i:=2) (j:=3) g.calm xV rfl rfl (by decide) rfl rfl (aE (bL g (jU T) T.d__law_take (aE sV (aE (nI rfl T.z_len (aE sV aK)) aK))) (aE (bL g (jU T) T.d__law_take (aE sV (aE (nI rfl T.z_len (aE sV aK)) aK))) aK))) (aW (cY xV (bV (fW (aE (bV sV sV) (aE (nI rfl T.z_len (aE sV aK)) (aE (FW aS) (aE fV (aE tS (aE wK (aE (qR 2) (aE (FV aS aS) (aE fV aK)))))))))) (bL g (jU T) T.d__law_take (aE sV (aE aS aK))))) (aW (cY xV (fW (aE (cS (cS (oY sV oR (nE sV)) (eQ (aE sV aK))) (oY sV (nE (cS sV aS)) oR)) (aE (cS (oY sV oR (nE sV)) (oY sV (nE (cS sV aS)) oR)) (aE (cS (cS (oY sV oR (nE sV)) (eQ (aE sV aK))) (oY sV (nE sV) oR)) (aE (uN rfl T.z_list (aE sV aK)) (aE tS aK))))))) (aW (cY xV (uN rfl T.z_list (aE sV aK))) (aW (z2n g.calm sV sV sV sV (eQ (aE (bV sV sV) (aE (bV sV sV) aK)))) (aW (cY xV (cS sV (fW (aE (pU rfl T.z_tuple (aE sV aK)) (aE (pU rfl T.z_tuple (aE sV aK)) (aE (pU rfl T.z_tuple (aE sV aK)) (aE (z2a sV (nE (FW aS))) (aE (cS (oY sV (nE sV) oR) (oY sV oR (nE sV))) (aE NO (aE aS (aE (eQ (aE sV aK)) (aE sV aK)))))))))))) (bH (cB (bV sV (bL g (jU T) T.d__law_take (aE sV (aE aS aK))))))))))))
def z4j:Br ["_law_thing"] ["_law_thing"] (aR HH):=dD
def z4k(T:Tx K mg G A):Bu P w K mg base (aZ P w base) 1 A.f_qo A.fd_qo ["_law_thing"] (cK G mM):=dP (k:=0) T.d__law_whole.F z4j T.hK λ_ _ _ _ _ _ _ g=>(bH (cB (rJ (NS rfl T.z_isinstance rfl T.z_int sV) (rH (E3 (AM rfl T.z_isinstance rfl T.z_bool sV))))))
def z4l:Br ["_law_order_here","_law_thing"] ["_law_order_here","_law_thing"] (aR xT):=dD
def RP(T:Tx K mg G A):Bu P w K mg base (aZ P w base) 2 A.f_qk A.fd_qk ["_law_order_here","_law_thing"] (cK G kR):=dP (k:=1) T.d__law_is_row.F z4l T.hK λ_ _ _ _ _ _ _ g=>(aW (eE (Hm (rG (iJ (fY (uM rfl T.z_isinstance rfl T.z_tuple sV))) (tV (lI g (nA (iB g.calm (fK (N:=["_law_one"]) (os:=(aR xT)) (oN:=["_law_order_here","_law_thing"])) (kM sV) (λ_ _ _=>(bS z3a)) (λ_ _ _=>(oQ (iJ (fY (bL (dO g) (z4k T) T.d__law_whole (aE sV aK)))))) (λ_ _ _=>sV))) (fW aK))))) (bH (cB fV)) eI) (aW (eE (lI g (z2s rfl T.z_sorted (aE sV aK)) (QC g rfl T.z_list rfl T.z_range (aE (bV sV aS) aK))) (bH (cB fV)) eI) (bH (cB (oV g (nA (iB g.calm (fK (N:=["_law_a","_law_b","_law_thing"]) (os:=(aR xT)) (oN:=["_law_order_here","_law_thing"])) (kM (bV sV aS)) (λ_ _ _=>(gW (dO g).calm (cV (bS RE) (cV (bS RE) gU)))) (λ_ _ _=>(oQ (FX (AQ sV sV) (AQ sV sV)))) (λ_ _ _=>aS))) (fW aK))))))
def z4m:Br ["_law_state_here","_law_some"] ["_law_state_here"] (aR HI):=dD
def z4n(T:Tx K mg G A):Bu P w K mg base (aZ P w base) 2 A.f_qb A.fd_qb ["_law_state_here"] (cK G iY):=z2f (k:=1) T.d__law_bad_order.F z4m T.hK λ_ _ _ _ _ _ _ g=>(GW (z2e 5 (i:=1) HK rfl (by first|exact .inl rfl|exact .inr rfl)) (GW (QJ 5 (i:=1) HK rfl (by first|exact .inl rfl|exact .inr rfl) sV) (GW (QJ 5 (i:=1) HK rfl (by first|exact .inl rfl|exact .inr rfl) sV) (z2d (SW.mk (cB (bV sV (bL g (jU T) T.d__law_take (aE sV (aE aS aK))))))))))
def z4o:Br ["_law_found","_law_due"] ["_law_found","_law_due"] (aR CA):=dD
theorem CG(T:Tx K mg G A):∀n,Bu P w K mg base (aZ P w base) n A.f_qs A.fd_qs ["_law_found","_law_due"] (cK G (dM n))
 |0=>v8
 |n+1=>by have okS:=CG T n;exact dP (N:=["_law_found","_law_due"]) (mb:=iZ (dM n)) T.d__law_same.F z4o T.hK λ_ _ _ _ _ _ _ g=>(aW (eE (fY (v5 rfl T.z_isinstance rfl T.z_tuple rfl T.z_list sV)) (aW (eE (Hm (rG (lI g (uM rfl T.z_isinstance rfl T.z_tuple sV) (uM rfl T.z_isinstance rfl T.z_tuple sV)) (tV (lI g (NT rfl T.z_isinstance rfl T.z_list sV) (NT rfl T.z_isinstance rfl T.z_list sV))))) (bH (cB fV)) eI) (aW (eE (lI g (nI rfl T.z_len (aE sV aK)) (nI rfl T.z_len (aE sV aK))) (bH (cB fV)) eI) (bH (cB (uG g.calm rfl T.z_all (iB g.calm (fK (N:=["_law_one","_law_other"]) (os:=(aR CA)) (oN:=["_law_found","_law_due"])) (NA rfl T.z_zip (aE sV (aE sV aK))) (λ_ _ _=>(gW (dO g).calm (cV (bS RF) (cV (bS RF) gU)))) (λ_ _ _=>jM) (λ_ _ _=>(FI (dO g) okS (aq _) rfl T.d__law_same.m T.d__law_same.F.kp T.d__law_same.B (aE sV (aE sV aK)))))))))) eI) (bH (cB (rJ (oV g sV sV) (rH (oV g (AM rfl T.z_isinstance rfl T.z_bool sV) (AM rfl T.z_isinstance rfl T.z_bool sV)))))))
def z4p:Br ["_law_call","_law_error","e","_law_marks"] ["_law_call"] (aR sQ):=dD
theorem z4q{k:Nat}(T:Tx K mg G A)(cdv:af)(Ar:cb)(outer:List Env)(s:ag)(H:Hp)(E₀ E:XK)(g:Good (fU (aZ P w base) P w K mg base ["_law_call","_law_error","e","_law_marks"] "_law_refused" (aR sQ) A.f_qh cdv Ar outer s H E₀) G E k):kL (fU (aZ P w base) P w K mg base ["_law_call","_law_error","e","_law_marks"] "_law_refused" (aR sQ) A.f_qh cdv Ar outer s H E₀) G E ((gR sQ).drop 2) gI:=(aW (cY CC (fW (aE (mF rfl T.z_isinstance rfl T.n_NoOrder sV (λ_ h=>by cases h) T.kt0) (aE (mF rfl T.z_isinstance rfl T.n_NoNumber sV (λ_ h=>by cases h) T.kt1) (aE (mF rfl T.z_isinstance rfl T.n_NoPairs sV (λ_ h=>by cases h) T.kt2) aK))))) (aW (cY CC (cS sV (fW (aE (mF rfl T.z_isinstance rfl T.n_Round sV (λ_ h=>by cases h) T.kt3) (aE (mF rfl T.z_isinstance rfl T.n_NoThing sV (λ_ h=>by cases h) T.kt4) (aE (mF rfl T.z_isinstance rfl T.n_NoRow sV (λ_ h=>by cases h) T.kt5) aK)))))) (aW (cY CC (cS sV (fW (aE (mF rfl T.z_isinstance rfl T.n_TooMany sV (λ_ h=>by cases h) T.kt6) (aE (mF rfl T.z_isinstance rfl T.n_TooFew sV (λ_ h=>by cases h) T.kt7) (aE (mF rfl T.z_isinstance rfl T.n_NoText sV (λ_ h=>by cases h) T.kt8) aK)))))) (aW (cY CC (cS sV (fW (aE (mF rfl T.z_isinstance rfl T.n_NoLine sV (λ_ h=>by cases h) T.kt9) (aE (mF rfl T.z_isinstance rfl T.n_NoDeed sV (λ_ h=>by cases h) T.kt10) aK))))) (aW (eE (iJ (fY (v7 rfl T.z_isinstance rfl T.z_ValueError sV (λ_ h=>by cases h) T.ktV))) (bH (cB tS)) eI) (bH (cB (nA (iB g.calm (fK (N:=["_law_k","_law_marks"]) (os:=(aR sQ)) (oN:=["_law_call","_law_error","e","_law_marks"])) (mZ rfl T.z_range (aE aS aK)) (λ_ _ _=>(bS z3b)) (λ_ _ _=>(oQ (fY (bV sV sV)))) (λ_ _ _=>sV))))))))))
theorem qT{k:Nat}{Nl:Bh}{params:jl}{body:bq}{scope:fi}{me:M Dv}(T:Tx K mg G A)(LS:Cf Nl scope)(hb:∀(cl:List (Str×ah))(pm cdv ct:af),bindArgs (qt "<lambda>" G.lq params body scope cl pm cdv ct) ⟨[],[]⟩=pure [])(Cp:∀(f:ah)(cdv:af)(cl:List (Str×ah))(A:cb)(outer:List Env)(s:ag)(H:Hp)(E₀ E:XK),Good (kN P w K mg base Nl G.lq scope f cdv cl A outer s H E₀) G E k->aJ (kN P w K mg base Nl G.lq scope f cdv cl A outer s H E₀) G E body me):
  Bu P w K mg base (aZ P w base) (k+2) A.f_qh A.fd_qh ["_law_call"] (kE G base Nl params body scope me 4 11 gI):=
 j3 T.d__law_refused.F z4p T.hK rfl rfl rfl rfl rfl rfl rfl (by decide) (by decide) (by decide) (by decide) (by decide) (λ_ _=>rfl) (λ_ _=>rfl) (λ_ _=>rfl) rfl T.n_NearError T.e1 T.e2 T.e3 T.e4 LS hb Cp (z4q T)
def HQ:bq:=uZ ((gR iE).getD 2 (.Pass ⟨0,0,0,0⟩))
def lm0:Lm:=⟨["_law_first","_law_then"],vA HQ,vB HQ,vC (aR iE) HQ,[4,5],QT⟩
def ol0:El (aR iE) Bm lm0:=⟨⟨rfl,rfl,rfl,by decide+kernel,by decide+kernel,by decide+kernel⟩,by decide+kernel,rfl,by decide+kernel⟩
def sR:bq:=uZ ((gR iE).getD 3 (.Pass ⟨0,0,0,0⟩))
def lm1:Lm:=⟨["_law_first","_law_then"],vA sR,vB sR,vC (aR iE) sR,[4,5],QU⟩
def ol1:El (aR iE) Bm lm1:=⟨⟨rfl,rfl,rfl,by decide+kernel,by decide+kernel,by decide+kernel⟩,by decide+kernel,rfl,by decide+kernel⟩
def sT:bq:=uZ ((gR iE).getD 4 (.Pass ⟨0,0,0,0⟩))
def lm2:Lm:=⟨["_law_first","_law_then"],vA sT,vB sT,vC (aR iE) sT,[4,5],QV⟩
def ol2:El (aR iE) Bm lm2:=⟨⟨rfl,rfl,rfl,by decide+kernel,by decide+kernel,by decide+kernel⟩,by decide+kernel,rfl,by decide+kernel⟩
def xX:Nat->Option Lm
 |0=>some lm0
 |1=>some lm1
 |2=>some lm2
 |_=>none
theorem olR:∀k L,xX k=some L->El (aR iE) Bm L
 |0,_,h=>by cases h;exact ol0
 |1,_,h=>by cases h;exact ol1
 |2,_,h=>by cases h;exact ol2
 |_+3,_,h=>by cases h
theorem z4r:∀k c m,BI k=some (c,m)->∃L,xX k=some L/\L.caps=c/\L.me=m
 |0,_,_,h=>by cases h;exact⟨lm0,rfl,rfl,rfl⟩
 |1,_,_,h=>by cases h;exact⟨lm1,rfl,rfl,rfl⟩
 |2,_,_,h=>by cases h;exact⟨lm2,rfl,rfl,rfl⟩
 |_+3,_,_,h=>by cases h
theorem z4s(T:Tx K mg G A)(Z:Tz base mg G.tabs A):Bu P w K mg base (aZ P w base) (11+2) A.f_qh A.fd_qh ["_law_call"] (kE G base lm0.Nl lm0.par lm0.bod lm0.scp lm0.me 4 11 gI):=qT (k:=11) T ol0.ls (λ_ _ _ _=>rfl) (λ_ _ _ _ _ _ _ _ _ g=>(bL g (HN T) T.d_stacked (aE sV (aE sV aK))))
theorem z4t(T:Tx K mg G A)(Z:Tz base mg G.tabs A):Bu P w K mg base (aZ P w base) (11+2) A.f_qh A.fd_qh ["_law_call"] (kE G base lm1.Nl lm1.par lm1.bod lm1.scp lm1.me 4 11 gI):=qT (k:=11) T ol1.ls (λ_ _ _ _=>rfl) (λ_ _ _ _ _ _ _ _ _ g=>(bL g (HP T) T.d_side_by (aE sV (aE sV aK))))
theorem z4u(T:Tx K mg G A)(Z:Tz base mg G.tabs A):Bu P w K mg base (aZ P w base) (11+2) A.f_qh A.fd_qh ["_law_call"] (kE G base lm2.Nl lm2.par lm2.bod lm2.scp lm2.me 4 11 gI):=qT (k:=11) T ol2.ls (λ_ _ _ _=>rfl) (λ_ _ _ _ _ _ _ _ _ g=>(bL g (xW T) T.d_rows_stacked (aE sV (aE sV (aE tS (aE tS aK))))))
theorem z4v(T:Tx K mg G A)(Z:Tz base mg G.tabs A):∀k L,xX k=some L->Bu P w K mg base (aZ P w base) (11+2) A.f_qh A.fd_qh ["_law_call"] (kE G base L.Nl L.par L.bod L.scp L.me 4 11 gI)
 |0,_,h=>by cases h;exact z4s T Z
 |1,_,h=>by cases h;exact z4t T Z
 |2,_,h=>by cases h;exact z4u T Z
 |_+3,_,h=>by cases h
def z4w:Br Bm ["_law_state_here","_law_one","_law_other"] (aR iE):=dD
theorem z4x(T:Tx K mg G A)(hT:∀μ n H k t a,k<3->G.clo μ n H k t a)(hq:((("_law_refusals_right":Str)++".<locals>.")++"<lambda>")=G.lq)(Z:Tz base mg G.tabs A):Bu P w K mg base (aZ P w base) 14 A.f_qa A.fd_qa ["_law_state_here","_law_one","_law_other"] (cK G vE):=QN (k:=13) (N:=Bm) (ls:=xX) (mb:=QW) T.d__law_refusals_right.F z4w T.hK λcdv Ar outer s H E₀ E tt hcd g=>(aW (cY CD (bL g (z4n T) T.d__law_bad_order (aE sV aK))) (aW (rO (bV (fW (aE (eQ (aE sV (aE sV aK))) (aE (eQ (aE sV (aE sV aK))) aK))) (bL g (jU T) T.d__law_take (aE sV (aE aS aK)))) (gW g.calm (cV (bS CD) (cV (bS CD) gU)))) (aW (cY CD (fW (aE (vD (os:=aR iE) (oN:=Bm) lm0 rfl (λμ n H t a=>hT μ n H 0 t a (by decide)) hq (Z.P__law_refusals_right.trans (congrArg some hq)) (hcd.symm.trans T.code__law_refusals_right) Z.C__law_refusals_right Z.B ol0) aK))) (aW (iM (uH sV (vD (os:=aR iE) (oN:=Bm) lm1 rfl (λμ n H t a=>hT μ n H 1 t a (by decide)) hq (Z.P__law_refusals_right.trans (congrArg some hq)) (hcd.symm.trans T.code__law_refusals_right) Z.C__law_refusals_right Z.B ol1))) (aW (iM (uH sV (vD (os:=aR iE) (oN:=Bm) lm2 rfl (λμ n H t a=>hT μ n H 2 t a (by decide)) hq (Z.P__law_refusals_right.trans (congrArg some hq)) (hcd.symm.trans T.code__law_refusals_right) Z.C__law_refusals_right Z.B ol2))) (bH (cB (oV g (nA (QS (os:=aR iE) (oN:=Bm) g (j:=11+2) (by decide) (λ_=>rfl) (fK (N:=["_law_call"]) (os:=(aR iE)) (oN:=Bm)) (uE sV) (λ_ _ _=>(bS RG)) (λk L h base kb=>z4v (G:=G.wf _ tt xX) T (Z.up kb) k L h) T.d__law_refused.m T.d__law_refused.F.kp T.d__law_refused.B olR z4r)) (NV (qR 3) aS)))))))))
theorem z4y(T:Tx K mg G A)(hT:∀μ n H k t a,k<3->G.clo μ n H k t a)(Z:Tz base mg G.tabs A):Bu P w K mg base (aZ P w base) 14 A.f_qa A.fd_qa ["_law_state_here","_law_one","_law_other"] (cK G vE):=Bu.imp (z4x (G:=G.at ((("_law_refusals_right":Str)++".<locals>.")++"<lambda>")) T.at hT rfl Z) λ_ _ _ _ h=>NR h
def HR:bq:=uZ ((uY ((uY ((gR fT).getD 0 (.Pass ⟨0,0,0,0⟩))).getD 5 (.Pass ⟨0,0,0,0⟩))).getD 0 (.Pass ⟨0,0,0,0⟩))
def lm3:Lm:=⟨["_law_one","_law_other"],vA HR,vB HR,vC (aR fT) HR,[3,4],QX⟩
def ol3:El (aR fT) Bl lm3:=⟨⟨rfl,rfl,rfl,by decide+kernel,by decide+kernel,by decide+kernel⟩,by decide+kernel,rfl,by decide+kernel⟩
def HS:bq:=uZ ((uY ((uY ((gR fT).getD 0 (.Pass ⟨0,0,0,0⟩))).getD 5 (.Pass ⟨0,0,0,0⟩))).getD 1 (.Pass ⟨0,0,0,0⟩))
def lm4:Lm:=⟨["_law_one","_law_other"],vA HS,vB HS,vC (aR fT) HS,[3,4],QY⟩
def ol4:El (aR fT) Bl lm4:=⟨⟨rfl,rfl,rfl,by decide+kernel,by decide+kernel,by decide+kernel⟩,by decide+kernel,rfl,by decide+kernel⟩
def vG:bq:=uZ ((uY ((uY ((gR fT).getD 0 (.Pass ⟨0,0,0,0⟩))).getD 5 (.Pass ⟨0,0,0,0⟩))).getD 2 (.Pass ⟨0,0,0,0⟩))
def lm5:Lm:=⟨["_law_one","_law_other","_law_bent","_law_odd"],vA vG,vB vG,vC (aR fT) vG,[3,4,7,8],QZ⟩
def ol5:El (aR fT) Bl lm5:=⟨⟨rfl,rfl,rfl,by decide+kernel,by decide+kernel,by decide+kernel⟩,by decide+kernel,rfl,by decide+kernel⟩
def nY:Nat->Option Lm
 |3=>some lm3
 |4=>some lm4
 |5=>some lm5
 |_=>none
theorem olT:∀k L,nY k=some L->El (aR fT) Bl L
 |0,_,h=>by cases h
 |1,_,h=>by cases h
 |2,_,h=>by cases h
 |3,_,h=>by cases h;exact ol3
 |4,_,h=>by cases h;exact ol4
 |5,_,h=>by cases h;exact ol5
 |_+6,_,h=>by cases h
theorem z4z:∀k c m,BL k=some (c,m)->∃L,nY k=some L/\L.caps=c/\L.me=m
 |0,_,_,h=>by cases h
 |1,_,_,h=>by cases h
 |2,_,_,h=>by cases h
 |3,_,_,h=>by cases h;exact⟨lm3,rfl,rfl,rfl⟩
 |4,_,_,h=>by cases h;exact⟨lm4,rfl,rfl,rfl⟩
 |5,_,_,h=>by cases h;exact⟨lm5,rfl,rfl,rfl⟩
 |_+6,_,_,h=>by cases h
theorem z50:∀k,k<3->nY k=none
 |0,_=>rfl
 |1,_=>rfl
 |2,_=>rfl
 |_+3,h=>absurd h (by omega)
theorem z51(T:Tx K mg G A)(Z:Tz base mg G.tabs A):Bu P w K mg base (aZ P w base) (11+2) A.f_qh A.fd_qh ["_law_call"] (kE G base lm3.Nl lm3.par lm3.bod lm3.scp lm3.me 4 11 gI):=qT (k:=11) T ol3.ls (λ_ _ _ _=>rfl) (λ_ _ _ _ _ _ _ _ _ g=>(bL g (HN T) T.d_stacked (aE sV (aE sV aK))))
theorem z52(T:Tx K mg G A)(Z:Tz base mg G.tabs A):Bu P w K mg base (aZ P w base) (11+2) A.f_qh A.fd_qh ["_law_call"] (kE G base lm4.Nl lm4.par lm4.bod lm4.scp lm4.me 4 11 gI):=qT (k:=11) T ol4.ls (λ_ _ _ _=>rfl) (λ_ _ _ _ _ _ _ _ _ g=>(bL g (HP T) T.d_side_by (aE sV (aE sV aK))))
theorem z53(T:Tx K mg G A)(Z:Tz base mg G.tabs A):Bu P w K mg base (aZ P w base) (11+2) A.f_qh A.fd_qh ["_law_call"] (kE G base lm5.Nl lm5.par lm5.bod lm5.scp lm5.me 4 11 gI):=qT (k:=11) T ol5.ls (λ_ _ _ _=>rfl) (λ_ _ _ _ _ _ _ _ _ g=>(bL g (xW T) T.d_rows_stacked (aE sV (aE sV (aE sV (aE sV aK))))))
theorem z54(T:Tx K mg G A)(Z:Tz base mg G.tabs A):∀k L,nY k=some L->Bu P w K mg base (aZ P w base) (11+2) A.f_qh A.fd_qh ["_law_call"] (kE G base L.Nl L.par L.bod L.scp L.me 4 11 gI)
 |0,_,h=>by cases h
 |1,_,h=>by cases h
 |2,_,h=>by cases h
 |3,_,h=>by cases h;exact z51 T Z
 |4,_,h=>by cases h;exact z52 T Z
 |5,_,h=>by cases h;exact z53 T Z
 |_+6,_,h=>by cases h
def z55:Br Bl ["_law_script"] (aR fT):=dD
theorem z56(T:Tx K mg G A)(hT:∀μ n H k t a,True->G.clo μ n H k t a)(hq:((("law":Str)++".<locals>.")++"<lambda>")=G.lq)(Z:Tz base mg G.tabs A):Bu P w K mg base (aZ P w base) 15 A.f_q7 A.fd_q7 ["_law_script"] (cK G (BO G.scr)):=QN (k:=14) (N:=Bl) (ls:=nY) (mb:=BN G.scr) T.d_law.F z55 T.hK λcdv Ar outer s H E₀ E tt hcd g=>(aW (rP g.own g.calm (mZ rfl T.z_range (aE (MJ g.calm rfl T.z_max (aE aS (aE (Y3 g.calm rfl T.z_min (aE (MH rfl T.z_len (aE (bM 0) aK)) (aE aS aK))) aK))) aK)) (bS (i:=1) kT) (aW (cY (i:=2) kT (bL g (z4a T) T.d__law_state (aE (bM 0) (aE (bM 1) aK)))) (aW (rO (eQ (aE (bL g (CF T) T.d__law_order (aE (bM 2) (aE aS aK))) (aE (bL g (CF T) T.d__law_order (aE (bM 2) (aE aS aK))) aK))) (gW g.calm (cV (bS (i:=3) kT) (cV (bS (i:=4) kT) gU)))) (aW (eE (rW g (bL g (jU T) T.d__law_take (aE (bM 2) (aE aS aK))) aS) (bH (rO (eQ (aE (bL g (CF T) T.d__law_order (aE (bM 2) (aE aS aK))) (aE (bL g (CF T) T.d__law_order (aE (bM 2) (aE aS aK))) aK))) (gW g.calm (cV (bS (i:=3) kT) (cV (bS (i:=4) kT) gU))))) eI) (aW (rO (eQ (aE (bL g (RN T) T.d__law_some_row (aE (bM 2) (aE (bM 3) aK))) (aE (bL g (RN T) T.d__law_some_row (aE (bM 2) (aE (bM 4) aK))) aK))) (gW g.calm (cV (bS (i:=5) kT) (cV (bS (i:=6) kT) gU)))) (aW (rO (eQ (aE (bL g (RO T) T.d__law_bent_row (aE (bM 2) (aE (bM 5) aK))) (aE (bL g (RO T) T.d__law_bent_row (aE (bM 2) (aE (bM 6) aK))) aK))) (gW g.calm (cV (bS (i:=7) kT) (cV (bS (i:=8) kT) gU)))) (aW (eE (FX (cS (bV (bM 3) aS) (bV (bM 4) aS)) aS) (aW (cY (i:=9) kT (fW (aE (vD (os:=aR fT) (oN:=Bl) lm3 rfl (λμ n H t a=>hT μ n H 3 t a (by decide)) hq (Z.P_law.trans (congrArg some hq)) (hcd.symm.trans T.code_law) Z.C_law Z.B ol3) aK))) (aW (iM (uH (bM 9) (vD (os:=aR fT) (oN:=Bl) lm4 rfl (λμ n H t a=>hT μ n H 4 t a (by decide)) hq (Z.P_law.trans (congrArg some hq)) (hcd.symm.trans T.code_law) Z.C_law Z.B ol4))) (aW (iM (uH (bM 9) (vD (os:=aR fT) (oN:=Bl) lm5 rfl (λμ n H t a=>hT μ n H 5 t a (by decide)) hq (Z.P_law.trans (congrArg some hq)) (hcd.symm.trans T.code_law) Z.C_law Z.B ol5))) (bH (eE (lI g (nA (QS (os:=aR fT) (oN:=Bl) g (j:=11+2) (by decide) (λ_=>rfl) (fK (N:=["_law_call"]) (cap:=[none]) (os:=(aR fT)) (oN:=Bl)) (uE (bM 9)) (λ_ _ _=>(bS (i:=0) RG)) (λk L h base kb=>z54 (G:=G.wf _ tt nY) T (Z.up kb) k L h) T.d__law_refused.m T.d__law_refused.F.kp T.d__law_refused.B olT z4z)) (NV (qR 3) aS)) (bH (cB fV)) eI))))) (aW (cY (i:=10) kT (cS (uN rfl T.z_list (aE (bV (bM 3) aS) aK)) (nA (iB g.calm (fK (N:=["_law_a","_law_b","_law_one"]) (cap:=[none,none,some 3]) (os:=(aR fT)) (oN:=Bl)) (kM (bV (bM 4) aS)) (λ_ _ _=>(gW (dO g).calm (cV (bS (i:=0) RH) (cV (bS (i:=1) RH) gU)))) (λ_ _ _=>jM) (λ_ _ _=>(eQ (aE (cS (bM 0) (bV (bM 2) aS)) (aE (cS (bM 1) (bV (bM 2) aS)) aK)))))))) (aW (eE (iJ (fY (bL g (CG (G:=G.wf _ tt nY) T 6) T.d__law_same (aE (bL g (HP T) T.d_side_by (aE (bM 3) (aE (bM 4) aK))) (aE (eQ (aE (cS (bV (bM 3) aS) (bV (bM 4) aS)) (aE (pU rfl T.z_tuple (aE (GK rfl T.z_sorted (aE (bM 10) aK)) aK)) aK))) aK))))) (bH (cB fV)) eI) (aW (rP g.own g.calm (mZ rfl T.z_range (aE (bV (bM 3) aS) aK)) (bS (i:=11) kT) (bH (iM (M7 (bM 10) (iB g.calm (fK (N:=["_law_b","_law_a","_law_one"]) (cap:=[none,some 11,some 3]) (os:=(aR fT)) (oN:=Bl)) (mZ rfl T.z_range (aE (bV (bM 4) aS) aK)) (λ_ _ _=>(bS (i:=0) z3c)) (λ_ _ _=>jM) (λ_ _ _=>(eQ (aE (bM 1) (aE (cS (bM 0) (bV (bM 2) aS)) aK))))))))) (aW (eE (iJ (fY (bL g (CG (G:=G.wf _ tt nY) T 6) T.d__law_same (aE (bL g (HN T) T.d_stacked (aE (bM 3) (aE (bM 4) aK))) (aE (eQ (aE (cS (bV (bM 3) aS) (bV (bM 4) aS)) (aE (pU rfl T.z_tuple (aE (GK rfl T.z_sorted (aE (bM 10) aK)) aK)) aK))) aK))))) (bH (cB fV)) eI) (aW (eE (iJ (fY (bL g (CG (G:=G.wf _ tt nY) T 6) T.d__law_same (aE (bL g (xW T) T.d_rows_stacked (aE (bM 3) (aE (bM 4) (aE (bM 5) (aE (bM 6) aK))))) (aE (cS (bM 5) (M6 rfl T.z_tuple (iB g.calm (fK (N:=["_law_b","_law_one"]) (cap:=[none,some 3]) (os:=(aR fT)) (oN:=Bl)) (kM (bM 6)) (λ_ _ _=>(bS (i:=0) z3d)) (λ_ _ _=>jM) (λ_ _ _=>(cS (bM 0) (bV (bM 1) aS)))))) aK))))) (bH (cB fV)) eI) (aW (eE (Hm (E2 (iJ (fY (bL g (RP T) T.d__law_is_row (aE (bM 3) (aE (bM 7) aK))))) (E1 (lI g (QQ (Nl:=["_law_one","_law_other","_law_bent","_law_odd"]) (caps:=[3,4,7,8]) (me:=BJ) (os:=aR fT) (oN:=Bl) g (j:=11+2) (by decide) (λ_=>rfl) (λbase kb=>qT (k:=11) T ⟨rfl,rfl,rfl,by decide+kernel,by decide+kernel,by decide+kernel⟩ (λ_ _ _ _=>rfl) (λ_ _ _ _ _ _ _ _ _ g=>(bL g (xW T) T.d_rows_stacked (aE (bM 0) (aE (bM 1) (aE (bM 2) (aE (bM 3) aK))))))) rfl T.d__law_refused.m T.d__law_refused.F.kp T.d__law_refused.B rfl hq (Z.P_law.trans (congrArg some hq)) (hcd.symm.trans T.code_law) Z.C_law Z.B ⟨rfl,rfl,rfl,by decide+kernel,by decide+kernel,by decide+kernel⟩ rfl rfl (by decide+kernel) rfl (by decide+kernel)) (qR 2))))) (bH (cB fV)) eI) (bH (eE (Hm (E2 (iJ (fY (bL g (RP T) T.d__law_is_row (aE (bM 4) (aE (bM 8) aK))))) (E1 (lI g (QQ (Nl:=["_law_one","_law_other","_law_row","_law_odd"]) (caps:=[3,4,5,8]) (me:=BK) (os:=aR fT) (oN:=Bl) g (j:=11+2) (by decide) (λ_=>rfl) (λbase kb=>qT (k:=11) T ⟨rfl,rfl,rfl,by decide+kernel,by decide+kernel,by decide+kernel⟩ (λ_ _ _ _=>rfl) (λ_ _ _ _ _ _ _ _ _ g=>(bL g (xW T) T.d_rows_stacked (aE (bM 0) (aE (bM 1) (aE (bM 2) (aE (bM 3) aK))))))) rfl T.d__law_refused.m T.d__law_refused.F.kp T.d__law_refused.B rfl hq (Z.P_law.trans (congrArg some hq)) (hcd.symm.trans T.code_law) Z.C_law Z.B ⟨rfl,rfl,rfl,by decide+kernel,by decide+kernel,by decide+kernel⟩ rfl rfl (by decide+kernel) rfl (by decide+kernel)) (qR 2))))) (bH (cB fV)) eI))))))))) (bH (eE (iJ (fY (FI g (z4y (G:=G.wf _ tt nY) T (λμ n H k t a h=>⟨hT μ n H k t a trivial,λL e _=>by rw[z50 k h]at e;cases e⟩) Z) (by decide) rfl T.d__law_refusals_right.m T.d__law_refusals_right.F.kp T.d__law_refusals_right.B (aE (bM 2) (aE (bM 3) (aE (bM 4) aK)))))) (bH (cB fV)) eI))))))))) (bH (cB fV)))
theorem z57(T:Tx K mg G A)(hT:∀μ n H k t a,True->G.clo μ n H k t a)(Z:Tz base mg G.tabs A):Bu P w K mg base (aZ P w base) 15 A.f_q7 A.fd_q7 ["_law_script"] (cK G (BO G.scr)):=Bu.imp (z56 (G:=G.at ((("law":Str)++".<locals>.")++"<lambda>")) T.at hT rfl Z) λ_ _ _ _ h=>NR h
end
end L2.Mr.K80
namespace L2.Mr.Sam
open L2.Mr.Com hiding dM iZ
end L2.Mr.Sam
namespace L2.Mr.K06
open L2.Mr.Com hiding dM iZ
open L2.Mr.Sam
end L2.Mr.K06
namespace L2.Mr.K04
open L2.Mr.Com hiding dM iZ
open L2.Mr.Sam
end L2.Mr.K04
namespace L2.Mr
theorem RQ:∀xs ys:y',eG (xs.map Hj) (ys.map Hj)=decide (xs=ys)
 |[],[]=>by simp[eG]
 |[],y::ys=>by simp[eG]
 |x::xs,[]=>by simp[eG]
 |x::xs,y::ys=>by simp only[da,eG,RQ xs ys,bG];rw[dk];simp
def eq_ints{xs ys:y'}(ei:getL H i=some (xs.map Gh))(ej:getL H j=some (ys.map Gh)):bR (.ref i) (.ref j) H=.ok (.bl (decide (xs=ys))) H:=by
 have p:∀(i:Nat)(xs:y'),getL H i=some (xs.map Gh)->bD cD H (.ref i)=some (.lst (xs.map Hj)):=λi xs e=>by show bD (28+1+1) H (.ref i)=_;rw[bD];simp only[e,uQ]
 unfold bR;rw[p i xs ei,p j ys ej];simp only[bG,RQ]
theorem CH{α:Type}{src:Src}{sg:dG}{t:M Bool}{m:MC}(xs:List α)(out:α->Bj)(S:Ev->Hs->Prop)(fin:∀ρ h,S ρ h->src.fin h=true)(step:∀k(hk:k<xs.length)ρ h,S ρ h->∃d ρ1,src.get k h=some d/\sg d ρ=some ρ1/\
   ((∃h2,t ρ1 h=.ok false h2/\out xs[k]=[]/\S ρ1 h2)∨∃h2,t ρ1 h=.ok true h2/\∀acc:Bj,acc.length+(out xs[k]).length<=900000->∃ρ3 h3,m ρ1 h2 acc=.ok (ρ3,acc++out xs[k]) h3/\S ρ3 h3)):
  ∀(f k:Nat)(ρ:Ev)(h:Hs)(acc:Bj),f+k=xs.length->S ρ h->acc.length+((xs.drop k).flatMap out).length<=900000->∃ρ' h',eS src sg t m f k ρ h acc=.ok (ρ',acc++(xs.drop k).flatMap out) h'/\S ρ' h'
 |0,k,ρ,h,acc,e,s,hl=>by have:xs.drop k=[]:=List.drop_eq_nil_of_le (by lia);exact⟨ρ,h,by simp[eS,fin ρ h s,this],s⟩
 |f+1,k,ρ,h,acc,e,s,hl=>by
  have hk:k<xs.length:=by lia
  let⟨d,ρ1,e1,e2,e3⟩:=step k hk ρ h s;rw[List.drop_eq_getElem_cons hk,jq]at hl⊢;rw[bw]at hl
  rcases e3 with⟨h2,e3,e4,s2⟩|⟨h2,e3,e4⟩
  ·let⟨ρ',h',e5,s5⟩:=CH xs out S fin step f (k+1) ρ1 h2 acc (by lia) s2 (by lia);exact⟨ρ',h',by simp[eS,e1,e2,e3,e4,e5],s5⟩
  ·let⟨ρ3,h3,e6,s3⟩:=e4 acc (by lia);let⟨ρ',h',e5,s5⟩:=CH xs out S fin step f (k+1) ρ3 h3 (acc++out xs[k]) (by lia) s3 (by rw[bw];lia);exact⟨ρ',h',by simp[eS,e1,e2,e3,e6,e5],s5⟩
def HU{α:Type}{mi:M Src}{sg:dG}{t:M Bool}{m:MC}{ρ:Ev}(xs:List α)(out:α->Bj)(S:Ev->Hs->Prop)(hi:mi ρ H=.ok src H1)(hn:src.n=xs.length)(s0:S (iP cap ρ) H1)(fin:∀ρ h,S ρ h->src.fin h=true)(step:∀k(hk:k<xs.length)ρ h,S ρ h->∃d ρ1,src.get k h=some d/\sg d ρ=some ρ1/\
   ((∃h2,t ρ1 h=.ok false h2/\out xs[k]=[]/\S ρ1 h2)∨∃h2,t ρ1 h=.ok true h2/\∀acc:Bj,acc.length+(out xs[k]).length<=900000->∃ρ3 h3,m ρ1 h2 acc=.ok (ρ3,acc++out xs[k]) h3/\S ρ3 h3))(hl:(xs.flatMap out).length<=900000):∃ρ' H',bO mi cap sg t m ρ H=.ok (xs.flatMap out) H'/\S ρ' H':=by
 let⟨ρ',h',e,s⟩:=CH xs out S fin step xs.length 0 (iP cap ρ) H1 [] (by lia) s0 (by simpa using hl);refine⟨ρ',h',?_,s⟩;unfold bO;rw[hi,Rs.bind_ok,hn,e];simp
def HV{e:M Dv}{acc:Bj}(he:e ρ h=.ok d h1)(hl:acc.length+[d].length<=900000):bB e ρ h acc=.ok (ρ,acc++[d]) h1:=by
 have:acc.length<1000000:=by simp at hl;lia
 simp[bB,he,this]
theorem gN{α:Type}{mi:M Src}{sg:dG}{t:M Bool}{e:M Dv}(xs:List α)(g:α->Bk)(S:Ev->Prop)(hi:mi ρ H=.ok src H1)(hn:src.n=xs.length)(s0:S (iP cap ρ))(fin:src.fin H1=true)(step:∀k(hk:k<xs.length)ρ,S ρ->∃d ρ1,src.get k H1=some d/\sg d ρ=some ρ1/\S ρ1/\match g xs[k]with
   |none=>t ρ1 H1=.ok false H1
   |some v=>t ρ1 H1=.ok true H1/\e ρ1 H1=.ok v H1)(hl:xs.length<=900000):bO mi cap sg t (bB e) ρ H=.ok (xs.filterMap g) H1:=by
 have fm:∀l:List α,l.flatMap (λx=>(g x).toList)=l.filterMap g:=λl=>by
  induction l with
  |nil=>rfl
  |cons x l ih=>rw[jq,ih,ck];cases g x<;>rfl
 have len:(xs.filterMap g).length<=xs.length:=nu g xs;obtain⟨ρ',H',h,_,rfl⟩:=HU (mi:=mi) (cap:=cap) (src:=src) (sg:=sg) (t:=t) (m:=bB e) (ρ:=ρ) (H:=H) (H1:=H1) xs (λx=>(g x).toList) (λρ h=>S ρ/\h=H1) hi hn ⟨s0,rfl⟩ (λρ h s=>by rw[s.2];exact fin)
  (λk hk ρ h⟨s,e1⟩=>by
   subst e1;let⟨d,ρ1,e1,e2,s1,e3⟩:=step k hk ρ s;refine⟨d,ρ1,e1,e2,?_⟩
   cases q:g xs[k]with
   |none=>rw[q]at e3;exact .inl ⟨h,e3,rfl,s1,rfl⟩
   |some v=>rw[q]at e3;exact .inr ⟨h,e3.1,λacc hl=>⟨ρ1,h,HV e3.2 hl,s1,rfl⟩⟩) (by rw[fm];lia)
 rw[h,fm]
theorem RR{α β:Type}{mi mj:M Src}{sg sg2:dG}{t2:M Bool}{e:M Dv}(xs:List α)(ys:α->List β)(g:α->β->Bk)(S:Ev->Prop)(hi:mi ρ H=.ok src H1)(hn:src.n=xs.length)(s0:S (iP cap ρ))(fin:src.fin H1=true)(step:∀k(hk:k<xs.length)ρ,S ρ->∃(d:Dv)(ρ1:Ev)(src2:Src)(S2:Ev->Prop),src.get k H1=some d/\sg d ρ=some ρ1/\S2 ρ1/\(∀ρ,S2 ρ->S ρ)/\mj ρ1 H1=.ok src2 H1/\src2.n=(ys xs[k]).length/\src2.fin H1=true/\
   ∀j(hj:j<(ys xs[k]).length)ρ,S2 ρ->∃d ρ2,src2.get j H1=some d/\sg2 d ρ=some ρ2/\S2 ρ2/\match g xs[k] (ys xs[k])[j]with
    |none=>t2 ρ2 H1=.ok false H1
    |some v=>t2 ρ2 H1=.ok true H1/\e ρ2 H1=.ok v H1)(hl:(xs.flatMap λx=>(ys x).filterMap (g x)).length<=900000):bO mi cap sg cH (lC mj sg2 t2 (bB e)) ρ H=.ok (xs.flatMap λx=>(ys x).filterMap (g x)) H1:=by
 have fm:∀(x:α)(l:List β),l.flatMap (λy=>(g x y).toList)=l.filterMap (g x):=λx l=>by
  induction l with
  |nil=>rfl
  |cons y l ih=>rw[jq,ih,ck];cases g x y<;>rfl
 obtain⟨ρ',H',h,_,rfl⟩:=HU (mi:=mi) (cap:=cap) (src:=src) (sg:=sg) (t:=cH) (m:=lC mj sg2 t2 (bB e)) (ρ:=ρ) (H:=H) (H1:=H1) xs (λx=>(ys x).filterMap (g x)) (λρ h=>S ρ/\h=H1) hi hn ⟨s0,rfl⟩ (λρ h s=>by rw[s.2];exact fin)
  (λk hk ρ h⟨s,e1⟩=>by
   subst e1;let⟨d,ρ1,src2,S2,e1,e2,s1,sS,e3,e4,e5,e6⟩:=step k hk ρ s;refine⟨d,ρ1,e1,e2,.inr ⟨h,rfl,λacc hl=>?_⟩⟩;obtain⟨ρ3,h3,r,s3,rfl⟩:=CH (src:=src2) (sg:=sg2) (t:=t2) (m:=bB e) (ys xs[k]) (λy=>(g xs[k] y).toList) (λρ hh=>S2 ρ/\hh=h) (λρ hh s=>by rw[s.2];exact e5)
    (λj hj ρ hh⟨s,e1⟩=>by
     subst e1;let⟨d,ρ2,z1,z2,z3,z4⟩:=e6 j hj ρ s;refine⟨d,ρ2,z1,z2,?_⟩
     cases q:g xs[k] (ys xs[k])[j]with
     |none=>rw[q]at z4;exact .inl ⟨hh,z4,rfl,z3,rfl⟩
     |some v=>rw[q]at z4;exact .inr ⟨hh,z4.1,λacc hl=>⟨ρ2,hh,HV z4.2 hl,z3,rfl⟩⟩) (ys xs[k]).length 0 ρ1 h acc (by lia) ⟨s1,rfl⟩ (by rw[List.drop_zero,fm];exact hl)
   refine⟨ρ3,h3,?_,sS ρ3 s3,rfl⟩;unfold lC;rw[e3];dsimp only;rw[e4,r,List.drop_zero,fm]) hl
 exact h
def z58{c:M Bool}(e:c ρ h=.ok false h1):jP c b (f+1) ρ h=.nx ρ h1:=by show(c ρ h).thenS _=_;rw[e];rfl
def RS{c:M Bool}{b:MS}(e:c ρ h=.ok true h1)(q:b ρ h1=.nx ρ2 h2):jP c b (f+1) ρ h=jP c b f ρ2 h2:=by show(c ρ h).thenS _=_;rw[e];simp[Rs.thenS,q]
def z59{c:M Bool}{b:MS}(e:c ρ h=.ok true h1)(q:b ρ h1=.rt d h2):jP c b (f+1) ρ h=.rt d h2:=by show(c ρ h).thenS _=_;rw[e];simp[Rs.thenS,q]
theorem CI:∀bs:List Bool,bE pX (bs.map Hi)=some bs
 |[]=>rfl
 |b::bs=>by rw[da,bE,CI bs];rfl
end L2.Mr
namespace L2.Mr.Com
def aH(n:Nat)(ps:wo):Dv:=.tup [.int n,.tup (ps.map aG)]
def RT(H:Hs):aN (aH n ps) (.int 0) H=.ok (.int n) H:=rfl
def sU{α:Type}{ml:M Bj}{xs:List α}{f:α->Bool}(h:ml ρ H=.ok (xs.filterMap λx=>some (.bl (f x))) H1):mL kB ml ρ H=.ok (.bl (xs.all f)) H1:=by
 have e:(xs.filterMap λx=>some (Hi (f x)))=(xs.map f).map Hi:=by simp
 unfold mL;rw[h,Rs.bind_ok,e];unfold kB;rw[CI];simp[List.all_map]
def z5a{α:Type}{ml:M Bj}{xs:List α}{f:α->Bool}(h:ml ρ H=.ok (xs.filterMap λx=>some (.bl (f x))) H1):mL wR ml ρ H=.ok (.bl (xs.any f)) H1:=by
 have e:(xs.filterMap λx=>some (Hi (f x)))=(xs.map f).map Hi:=by simp
 unfold mL;rw[h,Rs.bind_ok,e];unfold wR;rw[CI];simp[Aa]
section
variable{H:Hs}{n x:Int}{ps:wo}
def RU:uU [.int x] H=.ok (.bl true) H:=by simp[uU,GP,bA,bY,aO,fH,m1,aB,bI,jN,rX,nG,pT,bF]
def HW{lo hi:Int}:qO [.int x,.int lo,.int hi] H=.ok (.bl (decide (lo<=x)&&decide (x<=hi))) H:=by
 by_cases h:lo<=x
 ·simp[qO,A6,bA,bY,aO,fH,aD,aA,aB,aC,RU,tU,uK,iA,h,bF]
 ·simp[qO,A6,bA,bY,aO,fH,aD,aA,aB,aC,RU,tU,uK,iA,h,bF]
def fF(n x:Int):Bool:=decide (0<=x)&&decide (x<=n-1)
def z5b:qP [.int n,.int x] H=.ok (.bl (fF n x)) H:=by simp[qP,GQ,bA,bY,aO,aD,aA,aB,aC,mC,m2,oU,iA,HW,bF,fF]
def z5c{xs:y'}(hl:xs.length<=1000):mI [.int n,.tup (xs.map Gh)] H=.ok (.bl (xs.all (fF n))) H:=by have h:bO (bP dH (aB 1)) [none,some 0] (aF 0) cH (bB (aD qP (aA (aB 1) (aA (aB 0) aC)))) [some (.int n),some (.tup (xs.map Gh))] H=.ok (xs.filterMap λx=>some (.bl (fF n x))) H:=gN xs (λx=>some (.bl (fF n x))) (λρ=>∃a,ρ=[a,some (.int n)]) rfl (by simp[cG]) ⟨_,rfl⟩ rfl (λk hk ρ⟨a,e⟩=>by subst e;exact⟨.int xs[k],_,by simp[cG,hk],rfl,⟨_,rfl⟩,rfl,by simp[aD,aA,aB,aC,z5b]⟩) (by lia);simp[mI,A8,bA,bY,aO,fH,m1,bI,aB,jN,gH,sU h,bF]
def nZ(n:Int)(p:Int×Int):Bool:=fF n p.1&&fF n p.2
def z5d(p:Int×Int):mJ [.int n,aG p] H=.ok (.bl (nZ n p)) H:=by
 have h:mI [.int n,aG p] H=.ok (.bl (nZ n p)) H:=by have:=z5c (H:=H) (n:=n) (xs:=[p.1,p.2]) (by simp);simpa[aG,nZ]using this
 have hlen:f1 cQ [aG p] H=.ok (.int 2) H:=rfl
 cases q:nZ n p with
 |false=>simp[mJ,uV,bA,bY,aO,fH,aD,aA,aB,aC,h,q,bF]
 |true=>simp[mJ,uV,bA,bY,aO,fH,aD,aA,aB,aC,h,q,bF,m2,hlen,mC,bR,cD,bD,bG]
def z5e(hl:ps.length<=1000):uW [.int n,.tup (ps.map aG)] H=.ok (.bl (ps.all (nZ n))) H:=by have h:bO (bP dH (aB 1)) [none,some 0] (aF 0) cH (bB (aD mJ (aA (aB 1) (aA (aB 0) aC)))) [some (.int n),some (.tup (ps.map aG))] H=.ok (ps.filterMap λp=>some (.bl (nZ n p))) H:=gN ps (λp=>some (.bl (nZ n p))) (λρ=>∃a,ρ=[a,some (.int n)]) rfl (by simp[cG]) ⟨_,rfl⟩ rfl (λk hk ρ⟨a,e⟩=>by subst e;exact⟨aG ps[k],_,by simp[cG,hk],rfl,⟨_,rfl⟩,rfl,by simp[aD,aA,aB,aC,z5d]⟩) (by lia);simp[uW,GR,bA,bY,aO,sU h,bF]
def z5f(hl:ps.length<=1000):A9 [.tup (ps.map aG)] H=.ok (.bl (ps.any λp=>decide (p.1=p.2))) H:=by have h:bO (bP dH (aB 0)) [none,none] (cC 2 (aV (aF 0) (aV (aF 1) cE))) cH (bB (m2 bR (aB 0) (aB 1))) [some (.tup (ps.map aG))] H=.ok (ps.filterMap λp=>some (.bl (decide (p.1=p.2)))) H:=gN ps (λp=>some (.bl (decide (p.1=p.2)))) (λρ=>∃a b,ρ=[a,b]) rfl (by simp[cG]) ⟨_,_,rfl⟩ rfl (λk hk ρ⟨a,b,e⟩=>by subst e;refine⟨aG ps[k],[some (.int ps[k].1),some (.int ps[k].2)],by simp[cG,hk],rfl,⟨_,_,rfl⟩,rfl,?_⟩;simp[m2,aB,bR,cD,bD,bG];rw[dk];simp) (by lia);simp[A9,QG,bA,bY,aO,z5a h,bF]
def z5g(p q:Int×Int):gC (aG p) (aG q) H=.ok (.bl (cP p q)) H:=by simp only[gC,aG,bE,fI,P9];rw[<-uR];rfl
def oA(ps:wo):Bool:=(ps.zip (ps.drop 1)).all λq=>cP q.1 q.2
theorem Eo:∀{ps:wo},oA ps=true↔eW cP ps
 |[]=>by simp[oA,eW]
 |[p]=>by simp[oA,eW]
 |p::q::r=>by
  have ih:=Eo (ps:=q::r);have e:oA (p::q::r)=(cP p q&&oA (q::r)):=by simp[oA]
  rw[e,cq,ih];constructor
  ·rintro ⟨h1,h2⟩
   refine de.mpr ⟨λz hz=>?_,h2⟩
   rcases az.mp hz with rfl|hz
   ·exact h1
   ·exact Dh.tr _ _ _ h1 ((de.mp h2).1 z hz)
  ·intro h;have:=de.mp h;exact⟨this.1 q (by simp),this.2⟩
def z5h(ds:Bj):lE ds (some 1) none=ds.drop 1:=by
 unfold lE;rw[show HT.sIx ds.length 0 (some 1)=min 1 ds.length from HT.sIx_nat ds.length 0 1,HT.sIx_none]
 cases ds with
 |nil=>rfl
 |cons a r=>simp
def z5i(hl:ps.length<=1000):A7 [.tup (ps.map aG)] H=.ok (.bl (oA ps)) H:=by
 have hi:aT qA (aA (aB 0) (aA (hV (aB 0) (fZ (mC (.int 1))) gY) aC)) [some (.tup (ps.map aG))] H=.ok (pZ (ps.map aG) ((ps.drop 1).map aG)) H:=by simp[aT,aA,aB,hV,fZ,mC,uJ,gY,sJ,aC,qA,z5h,wj]
 have hz:((ps.map aG).zip ((ps.drop 1).map aG)).map (λq=>Hl [q.1,q.2])=(ps.zip (ps.drop 1)).map λq=>Hl [aG q.1,aG q.2]:=by rw[List.zip_map,jf];rfl
 have h:bO (aT qA (aA (aB 0) (aA (hV (aB 0) (fZ (mC (.int 1))) gY) aC))) [none,none] (cC 2 (aV (aF 0) (aV (aF 1) cE))) cH (bB (m2 gC (aB 0) (aB 1))) [some (.tup (ps.map aG))] H=.ok ((ps.zip (ps.drop 1)).filterMap λq=>some (.bl (cP q.1 q.2))) H:=
  gN (ps.zip (ps.drop 1)) (λq=>some (.bl (cP q.1 q.2))) (λρ=>∃a b,ρ=[a,b]) hi (by simp[pZ,cG]) ⟨_,_,rfl⟩ rfl (λk hk ρ⟨a,b,e⟩=>by
   subst e;refine⟨.tup [aG (ps.zip (ps.drop 1))[k].1,aG (ps.zip (ps.drop 1))[k].2],[some (aG (ps.zip (ps.drop 1))[k].1),some (aG (ps.zip (ps.drop 1))[k].2)],?_,rfl,⟨_,_,rfl⟩,rfl,?_⟩
   ·show(((ps.map aG).zip ((ps.drop 1).map aG)).map (λq=>Hl [q.1,q.2]))[k]?=_;rw[hz,du,bj hk];rfl
   ·simp only[m2,aB];exact z5g _ _) (by rw[List.length_zip];lia)
 simp[A7,QF,bA,bY,aO,sU h,bF,oA]
def xY(ps:wo):Bool:=ps.all λp=>ps.all λq=>!decide (p.2=q.1)||decide ((p.1,q.2)∈ps)
def z5j(hl:ps.length<=900):BA [.tup (ps.map aG)] H=.ok (.bl (xY ps)) H:=by
 let g:Int×Int->Int×Int->Bk:=λp q=>if p.2=q.1 then some (.bl (decide ((p.1,q.2)∈ps)))else none
 have h:bO (bP dH (aB 0)) [none,none,none,none,some 0] (cC 2 (aV (aF 0) (aV (aF 1) cE))) cH (lC (bP dH (aB 4)) (cC 2 (aV (aF 2) (aV (aF 3) cE))) (mB (m2 bR (aB 1) (aB 2))) (bB (m2 (kP false) (aL (aA (aB 0) (aA (aB 3) aC))) (aB 4)))) [some (.tup (ps.map aG))] H=.ok (ps.flatMap λp=>ps.filterMap (g p)) H:=
  RR ps (λ_=>ps) g (λρ=>∃a b c d,ρ=[a,b,c,d,some (.tup (ps.map aG))]) rfl (by simp[cG]) ⟨_,_,_,_,rfl⟩ rfl (λk hk ρ⟨a,b,c,d,e⟩=>by
   subst e;refine⟨aG ps[k],[some (.int ps[k].1),some (.int ps[k].2),c,d,some (.tup (ps.map aG))],cG (ps.map aG),λρ=>∃c d,ρ=[some (.int ps[k].1),some (.int ps[k].2),c,d,some (.tup (ps.map aG))],by simp[cG,hk],rfl,⟨_,_,rfl⟩,λρ⟨c,d,e⟩=>⟨_,_,_,_,e⟩,rfl,by simp[cG],rfl,λj hj ρ⟨c,d,e⟩=>?_⟩;subst e;refine⟨aG ps[j],[some (.int ps[k].1),some (.int ps[k].2),some (.int ps[j].1),some (.int ps[j].2),some (.tup (ps.map aG))],by simp[cG,hj],rfl,⟨_,_,rfl⟩,?_⟩;have te:mB (m2 bR (aB 1) (aB 2)) [some (.int ps[k].1),some (.int ps[k].2),some (.int ps[j].1),some (.int ps[j].2),some (.tup (ps.map aG))] H=.ok (decide (ps[k].2=ps[j].1)) H:=by simp[mB,m2,aB,bR,cD,bD,bG,dW];rw[dk];simp
   by_cases c1:ps[k].2=ps[j].1
   ·rw[decide_eq_true c1]at te;have hg:g ps[k] ps[j]=some (.bl (decide ((ps[k].1,ps[j].2)∈ps))):=if_pos c1;rw[hg];refine⟨te,?_⟩;have hx:aL (aA (aB 0) (aA (aB 3) aC)) [some (.int ps[k].1),some (.int ps[k].2),some (.int ps[j].1),some (.int ps[j].2),some (.tup (ps.map aG))] H=.ok (aG (ps[k].1,ps[j].2)) H:=rfl;unfold m2;rw[hx,Rs.bind_ok];show(Gz (Hl (ps.map aG)) H).bind _=_;rw[Rs.bind_ok,z0d];rfl
   ·rw[decide_eq_false c1]at te;have hg:g ps[k] ps[j]=none:=if_neg c1;rw[hg];exact te) (by
   have:∀l:wo,(l.flatMap λp=>ps.filterMap (g p)).length<=l.length*ps.length:=λl=>by
    induction l with
    |nil=>simp
    |cons p l ih=>
     rw[jq,bw,di,qw];have:=nu (g p) ps
     lia
   have h2:=this ps;have h3:ps.length*ps.length<=900*900:=lh hl hl
   lia)
 have hb:(ps.flatMap λp=>ps.filterMap (g p))=(ps.flatMap λp=>ps.filterMap λq=>if p.2=q.1 then some (decide ((p.1,q.2)∈ps))else none).map Hi:=by
  rw[List.map_flatMap]
  congr 1
  funext p
  rw[List.map_filterMap]
  congr 1
  funext q
  show(if p.2=q.1 then some (Hi (decide ((p.1,q.2)∈ps)))else none)=_
  split<;>rfl
 have hall:mL kB (bO (bP dH (aB 0)) [none,none,none,none,some 0] (cC 2 (aV (aF 0) (aV (aF 1) cE))) cH (lC (bP dH (aB 4)) (cC 2 (aV (aF 2) (aV (aF 3) cE))) (mB (m2 bR (aB 1) (aB 2))) (bB (m2 (kP false) (aL (aA (aB 0) (aA (aB 3) aC))) (aB 4))))) [some (.tup (ps.map aG))] H=.ok (.bl (xY ps)) H:=by
  unfold mL;rw[h,Rs.bind_ok,hb];unfold kB;rw[CI];dsimp only
  congr 2
  rw[dk];unfold xY;simp only[dv,ue,ka,id];constructor
  ·intro h p hp q hq
   by_cases c:p.2=q.1
   ·have:=h (decide ((p.1,q.2)∈ps)) ⟨p,hp,q,hq,if_pos c⟩;simp[c,this]
   ·simp[c]
  ·rintro h b ⟨p,hp,q,hq,e⟩
   have:=h p hp q hq
   by_cases c:p.2=q.1
   ·rw[if_pos c]at e;cases e;simpa[c]using this
   ·rw[if_neg c]at e;cases e
 simp[BA,QH,bA,bY,aO,hall,bF]
def vH(n:Int)(ps:wo):Bool:=decide (1<=n)&&decide (n<=6)&&ps.all (nZ n)&&oA ps&&!(ps.any λp=>decide (p.1=p.2))&&xY ps
theorem RV{n:Int}(hl:ps.length<=900):kQ [.tup [.int n,.tup (ps.map aG)]] H=.ok (.bl (vH n ps)) H:=by
 have b:=HW (H:=H) (x:=n) (lo:=1) (hi:=6);have p1:=z5e (H:=H) (n:=n) (ps:=ps) (by lia);have p2:=z5i (H:=H) (ps:=ps) (by lia);have p3:=z5f (H:=H) (ps:=ps) (by lia);have p4:=z5j (H:=H) (ps:=ps) hl;have hlen:f1 cQ [.tup [.int n,.tup (ps.map aG)]] H=.ok (.int 2) H:=rfl;unfold vH;generalize (decide (1<=n)&&decide (n<=6))=c0 at b⊢;generalize ps.all (nZ n)=c1 at p1⊢;generalize oA ps=c2 at p2⊢;generalize (ps.any λp=>decide (p.1=p.2))=c3 at p3⊢;generalize xY ps=c4 at p4⊢
 cases c0<;>cases c1<;>cases c2<;>cases c3<;>cases c4<;>
  simp[kQ,sM,bA,bY,aI,bK,eR,cJ,bJ,m1,bI,aB,jN,gH,fO,mB,m2,aD,aA,aC,hlen,mC,bZ,cD,bD,bG,dW,bW,aM,cC,aV,aF,cE,b,p1,p2,p3,p4,aO,fH,pT,bF]
end
structure Bt(n:Nat)(ps:wo):Prop where
 n1:1<=n
 n6:n<=6
 rng:∀p∈ps,0<=p.1/\p.1<n/\0<=p.2/\p.2<n
 rise:eW cP ps
 irr:∀p∈ps,p.1≠p.2
 tr:∀p∈ps,∀q∈ps,p.2=q.1->(p.1,q.2)∈ps
section
variable{n:Nat}{ps:wo}{H:Hs}
def HX(n:Nat):wo:=(ba n).flatMap λa:Nat=>(ba n).map λb:Nat=>((a:Int),(b:Int))
def z5k(n:Nat):(HX n).length=n*n:=by
 unfold HX;have:∀l:A',(l.flatMap λa:Nat=>(ba n).map λb:Nat=>((a:Int),(b:Int))).length=l.length*n:=λl=>by
  induction l with
  |nil=>simp
  |cons a l ih=>rw[jq,bw,ih,di,qw];simp;lia
 rw[this];simp
def z5l{p:Int×Int}(h:0<=p.1/\p.1<n/\0<=p.2/\p.2<n):p∈HX n:=by let⟨a,b⟩:=p;simp only at h;refine ue.mpr ⟨a.toNat,bx.mpr (by lia),cf.mpr ⟨b.toNat,bx.mpr (by lia),?_⟩⟩;simp;lia
def xZ(hr:eW cP ps)(hp:∀p∈ps,0<=p.1/\p.1<n/\0<=p.2/\p.2<n):ps.length<=n*n:=by rw[<-z5k n];exact(sC Dh hr).length_le_of_subset λp h=>z5l (hp p h)
def Bt.len(o:Bt n ps):ps.length<=36:=by
 have h1:=xZ o.rise o.rng;have h2:n*n<=6*6:=lh o.n6 o.n6
 lia
def Bt.b(o:Bt n ps):vH n ps=true:=by
 have h1:=o.n1;have h6:=o.n6;unfold vH;simp only[cq,decide_eq_true_eq,Bool.not_eq_true'];refine⟨⟨⟨⟨⟨by lia,by lia⟩,?_⟩,Eo.mpr o.rise⟩,?_⟩,?_⟩
 ·refine dv.mpr λp hp=>?_;have:=o.rng p hp;simp[nZ,fF];lia
 ·refine List.any_eq_false.mpr λp hp=>?_;simpa using o.irr p hp
 ·refine dv.mpr λp hp=>dv.mpr λq hq=>?_
  by_cases c:p.2=q.1
  ·simp[c,o.tr p hp q hq c]
  ·simp[c]
def z5m(o:Bt n ps):kQ [aH n ps] H=.ok (.bl true) H:=by have:=RV (H:=H) (n:=(n:Int)) (ps:=ps) (by have:=o.len;lia);rw[o.b]at this;exact this
end
def z5n(H:Hs)(n:Nat)(a:Int)(b:Bool)(m:Int)(h0:0<m)(h1:m<18446744073709551616)(e:getL H n=some [.int a,.bl b]):
  ∃r a',0<=r/\r<m/\cA [.ref n,.int m] H=.ok (.int r) (H.set n (.lst [.int a',.bl b])):=by
 cases b with
 |true=>refine⟨a%m,a/m,Int.emod_nonneg _ (by lia),Int.emod_lt_of_pos _ h0,?_⟩;simp[cA,GS,bA,bY,aI,bK,bJ,m2,aB,mC,aN,gA,gS,e,lA,gQ,eO,fO,aM,nF,mY,tY,h0,aF,wV,xH,xG,h1,kD,aO,bF]
 |false=>
  have q1:∀ys,getL (H.set n (.lst ys)) n=some ys:=λys=>lJ e;generalize hs:(a*48271+29)%2147483647=s;have s0:0<=s:=by lia
  have s1:s<2147483647:=by lia
  generalize ht:(s*s+39373*s+7)%2147483629=t;have t0:0<=t:=by lia
  have t1:t<2147483629:=by lia
  generalize hu:(t*t+16807*t)%2147483587=u;refine⟨u/8%m,s,Int.emod_nonneg _ (by lia),Int.emod_lt_of_pos _ h0,?_⟩;have w1:kK s=true:=by simp[kK];lia
  have w2:kK t=true:=by simp[kK];lia
  have w3:kK 48271=true:=by decide
  have w4:kK 39373=true:=by decide
  have w5:kK 16807=true:=by decide
  simp[cA,GS,bA,bY,aI,bK,bJ,m2,aB,mC,aN,gA,gS,e,lA,gQ,eO,fO,aM,nF,mY,tY,h0,aF,wV,xH,xG,h1,kD,aO,bF,bW,aU,lZ,rV,zU,w1,w2,w3,w4,w5,q1,hs,ht,hu]
def St(n:Nat)(H:Hs):Prop:=∃a b,getL H n=some [.int a,.bl b]
def St.fr(s:St n H)(f:Fr S H H')(h:n∉S):St n H':=let ⟨a,b,e⟩:=s;⟨a,b,f.getL e h⟩
def jV(m:Int)(s:St n H)(h0:0<m:=by decide)(h1:m<18446744073709551616:=by decide):
  ∃r H',0<=r/\r<m/\cA [.ref n,.int m] H=.ok (.int r) H'/\Fr [n] H H'/\St n H':=by
 let⟨a,b,e⟩:=s;let⟨r,a',r0,r1,ht⟩:=z5n H n a b m h0 h1 e;exact⟨r,_,r0,r1,ht,Hf,a',b,lJ e⟩
def z5o(scr:y')(k:Nat)(h:Hs):∃H',sN scr [.scr,.int k] h=.ok (.ref h.length) H'/\Fr [] h H'/\St h.length H':=by
 have cell:∃c,xP scr [.scr,.int k] h=.ok (.int c) h:=by
  by_cases hk:k<scr.length
  ·refine⟨scr[k],?_⟩;have Ei:(k:Int)<scr.length:=by lia
   simp[xP,BB,bA,bY,aI,bK,mB,m2,aB,mC,gC,aD,f1,jK,gK,aA,aC,dW,Ei,hk,gS,lA,gQ,eO,aO,bF]
  ·refine⟨0,?_⟩;have Ei:¬(k:Int)<scr.length:=by lia
   simp[xP,BB,bA,bY,aI,bK,mB,m2,aB,mC,gC,aD,f1,jK,gK,aA,aC,dW,Ei,hk,gS,lA,gQ,eO,aO,bF,bW]
 let⟨c,hc⟩:=cell;have fin:∀a b,Fr [] h (h++[Gi [.int a,.bl b]])/\St h.length (h++[Gi [.int a,.bl b]]):=λa b=>⟨Gj,a,b,by rw[z00];rfl⟩
 by_cases hg:c>=1000000000000000000
 ·refine⟨_,?_,fin (c-1000000000000000000) true⟩;simp[sN,BC,bA,bY,aI,aM,aD,aA,aB,aC,hc,aF,bK,mB,m2,AL,iA,qG,mY,wM,mC,dW,hg,aO,aQ,oU,lim,bF]
 ·refine⟨_,?_,fin (c%2147483647) false⟩;simp[sN,BC,bA,bY,aI,aM,aD,aA,aB,aC,hc,aF,bK,mB,m2,AL,iA,qG,mY,wM,mC,dW,hg,aO,aQ,oU,lim,bF,bW,nF,tY]
def St.lt{st:Nat}(s:St st H):st<H.length:=let ⟨_,_,e⟩:=s;qL e
def z5p{ks:y'}(e:getL H q=some (ks.map Gh)):bZ (.ref q) (.ref H.length) (H++[.lst []])=.ok (.bl (!ks.isEmpty)) (H++[.lst []]):=by
 have p1:bD cD (H++[.lst []]) (.ref q)=some (.lst (ks.map Hj)):=by show bD (28+1+1) (H++[.lst []]) (.ref q)=_;rw[bD];simp only[iW (l:=[.lst []]) e,uQ]
 have p2:bD cD (H++[.lst []]) (.ref H.length)=some (.lst []):=by
  show bD (28+1+1) (H++[.lst []]) (.ref H.length)=_;rw[bD];have:getL (H++[.lst []]) H.length=some []:=by simp[getL]
  simp only[this];rfl
 unfold bZ;rw[p1,p2]
 cases ks<;>simp[bG,eG]
def CJ:M Bool:=mB (m2 bZ (aB 2) (aQ aC))
def CK:MS:=bN (iQ (aB 3) (xA (aB 2) (aD cA (aA (aB 0) (aA (aD (f1 cQ) (aA (aB 2) aC)) aC)))))
def z5q:GU=aI (aM (aD (f1 eV) (aA (aB 1) aC)) (aF 2)) (aI (aM (aQ aC) (aF 3)) (aI (jP CJ CK 40) (aO (aB 3)))):=rfl
section
variable{st a b:Nat}{d:Dv}
theorem RW(Ek:a≠b)(has:a≠st)(hbs:b≠st):∀(f:Nat)(ls fs:y')(H:Hs),ls.length<f->ls.length+fs.length<=100->getL H a=some (ls.map Gh)->getL H b=some (fs.map Gh)->St st H->
  ∃(H':Hs)(ys:y'),jP CJ CK f [some (.ref st),some d,some (.ref a),some (.ref b)] H=.nx [some (.ref st),some d,some (.ref a),some (.ref b)] H'/\getL H' b=some (ys.map Gh)/\ys.Perm (fs++ls)/\St st H'/\Fr [st,a,b] H H'
 |0,ls,fs,H,h,_,_,_,_=>by lia
 |f+1,ls,fs,H,h,hl,ea,eb,s=>by
  have tc:CJ [some (.ref st),some d,some (.ref a),some (.ref b)] H=.ok (!ls.isEmpty) (H++[.lst []]):=by simp[CJ,mB,m2,aB,aQ,aC,lim,z5p ea,dW]
  have ea1:=iW (l:=[Gi []]) ea;have eb1:=iW (l:=[Gi []]) eb;have g1:Fr [st,a,b] H (H++[Gi []]):=Gj;have s1:=s.fr (Gj (S:=[]) (l:=[Gi []])) (by simp);generalize H++[Gi []]=H1 at tc ea1 eb1 g1 s1
  cases hls:ls with
  |nil=>subst hls;refine⟨H1,fs,?_,eb1,by simp,s1,g1⟩;exact z58 tc
  |cons x r=>
   have hne:ls.isEmpty=false:=by rw[hls];rfl
   have hpos:(0:Int)<ls.length:=by rw[hls];simp
   obtain⟨k,H2,k0,k1,ht,f2,s2⟩:=jV (ls.length:Int) s1 hpos (by lia);have ea2:=f2.getL ea1 (by simpa using has);have eb2:=f2.getL eb1 (by simpa using hbs);have hk:k.toNat<ls.length:=by lia
   have ixk:eO (ls.map Gh).length k=some k.toNat:=by unfold eO;rw[if_pos k0,bo,if_pos k1]
   have getk:(ls.map Gh)[k.toNat]?=some (.int ls[k.toNat]):=by simp[hk]
   have hlen:f1 cQ [.ref a] H1=.ok (.int ls.length) H1:=by show(if gA (.ref a)=true then jK [] (.ref a) H1 else .bad)=_;simp[gA,jK,gK,ea1]
   have hz:(ls.map Gh).length<=1000000:=by rw[bo];lia
   have pop:AK (.ref a) (.int k) H2=.ok (.int ls[k.toNat]) (H2.set a (.lst ((ls.eraseIdx k.toNat).map Gh))):=by
    simp only[AK,ea2,ixk,getk,hz,if_true];have em:(ls.map Gh).eraseIdx k.toNat=(ls.eraseIdx k.toNat).map Gh:=by rw[xm,xm,fh,zl,wj]
    rw[em]
   have eb3:getL (H2.set a (.lst ((ls.eraseIdx k.toNat).map Gh))) b=some (fs.map Gh):=by rw[uO Ek];exact eb2
   have ea3:getL (H2.set a (.lst ((ls.eraseIdx k.toNat).map Gh))) a=some ((ls.eraseIdx k.toNat).map Gh):=lJ ea2;have f3:Fr [st,a,b] H2 (H2.set a (.lst ((ls.eraseIdx k.toNat).map Gh))):=Hf.mono (by simp);have s3:St st (H2.set a (.lst ((ls.eraseIdx k.toNat).map Gh))):=s2.fr Hf (by simpa using dh has);generalize hH3:H2.set a (.lst ((ls.eraseIdx k.toNat).map Gh))=H3 at pop eb3 ea3 f3 s3;have hfl:(fs.map Gh).length<1000000:=by rw[bo];lia
   have body:CK [some (.ref st),some d,some (.ref a),some (.ref b)] H1=.nx [some (.ref st),some d,some (.ref a),some (.ref b)] (H3.set b (.lst ((fs++[ls[k.toNat]]).map Gh))):=by
    have isA:kC (.ref a) H1=true:=by simp[kC,ea1]
    have isB:kC (.ref b) H1=true:=by simp[kC,eb1]
    have hpop:xA (aB 2) (aD cA (aA (aB 0) (aA (aD (f1 cQ) (aA (aB 2) aC)) aC))) [some (.ref st),some d,some (.ref a),some (.ref b)] H1=.ok (.int ls[k.toNat]) H3:=by simp[xA,aB,isA,aD,aA,aC,hlen,ht,pop]
    have happ:rS (.ref b) (.int ls[k.toNat]) H3=.ok .non (H3.set b (.lst ((fs++[ls[k.toNat]]).map Gh))):=by simp only[rS,eb3,hfl,if_true,fh];rfl
    simp[CK,bN,iQ,aB,isB,hpop,happ]
   have Ff:(ls.eraseIdx k.toNat).length=ls.length-1:=yv hk;obtain⟨H',ys,w,e',pm,s',f'⟩:=RW Ek has hbs f (ls.eraseIdx k.toNat) (fs++[ls[k.toNat]]) (H3.set b (.lst ((fs++[ls[k.toNat]]).map Gh))) (by lia) (by rw[bw];simp;lia) (by rw[uO (dh Ek)];exact ea3) (lJ eb3) (s3.fr Hf (by simpa using dh hbs));refine⟨H',ys,?_,e',?_,s',?_⟩
   ·rw[hne]at tc;rw[RS tc body];exact w
   ·rw[<-hls];refine pm.trans ?_;rw[oz];refine yw fs ?_;have:=SR.erase_perm ls k.toNat hk;simpa using this
   ·exact(((g1.trans f2 (by simp)).trans f3 (by simp)).trans (T:=[b]) Hf (by simp)).trans f' (by simp)
def z5r{xs:y'}(s:St st H)(e:getL H j=some (xs.map Gh))(hl:xs.length<=20):∃(i:Nat)(ys:y')(H':Hs),BD [.ref st,.ref j] H=.ok (.ref i) H'/\getL H' i=some (ys.map Gh)/\ys.Perm xs/\H.length<=i/\St st H'/\Fr [st] H H':=by
 have lt:=s.lt;have w0:aM (aD (f1 eV) (aA (aB 1) aC)) (aF 2) [some (.ref st),some (.ref j),none,none] H=.nx [some (.ref st),some (.ref j),some (.ref H.length),none] (H++[.lst (xs.map Gh)]):=by simp[aM,aD,f1,eV,gA,rN,gK,aA,aB,aC,e,aF]
 have w1:aM (aQ aC) (aF 3) [some (.ref st),some (.ref j),some (.ref H.length),none] (H++[.lst (xs.map Gh)])=.nx [some (.ref st),some (.ref j),some (.ref H.length),some (.ref (H.length+1))] (H++[.lst (xs.map Gh)]++[.lst []]):=by simp[aM,aQ,aC,lim,aF]
 have ea:getL (H++[.lst (xs.map Gh)]++[.lst []]) H.length=some (xs.map Gh):=iW (by simp[getL]);have eb:getL (H++[.lst (xs.map Gh)]++[.lst []]) (H.length+1)=some (([]:y').map Gh):=by simp[getL]
 have f0:Fr [st] H (H++[.lst (xs.map Gh)]++[.lst []]):=Hh (T:=[]) Gj Gj (by simp);have s0:St st (H++[.lst (xs.map Gh)]++[.lst []]):=(s.fr (Gj (S:=[]) (l:=[.lst (xs.map Gh)])) (by simp)).fr (Gj (S:=[])) (by simp);let⟨H',ys,w2,e2,pm,s2,f2⟩:=RW (st:=st) (a:=H.length) (b:=H.length+1) (d:=.ref j) (by lia) (by lia) (by lia) 40 xs [] _ (by lia) (by simp;lia) ea eb s0;refine⟨H.length+1,ys,H',?_,e2,by simpa using pm,by lia,s2,f0.trans f2 (by simp)⟩;show bF (GU [some (.ref st),some (.ref j),none,none] H)=_;rw[z5q,aX w0,aX w1,aX w2];rfl
end
def eX(ps:wo)(p:Int×Int):wo:=(ps.filter λq=>decide (p.2=q.1)).map λq=>(p.1,q.2)
def eM(ps:wo):wo:=eF cP (ps++ps.flatMap (eX ps))
def yA:Nat->wo->Option wo 
 |0,_=>none
 |f+1,ps=>if eM ps=ps then some ps else yA f (eM ps)
def pJ(n:Nat)(ps:wo):Prop:=∀p∈ps,0<=p.1/\p.1<n/\0<=p.2/\p.2<n
def Tr(ps:wo):Prop:=∀p∈ps,∀q∈ps,p.2=q.1->(p.1,q.2)∈ps
def z5s:r∈eX ps p↔∃q∈ps,p.2=q.1/\r=(p.1,q.2):=by
 simp only[eX,cf,ie,decide_eq_true_eq];constructor
 ·rintro ⟨q,⟨h1,h2⟩,h3⟩;exact⟨q,h1,h2,h3.symm⟩
 ·rintro ⟨q,h1,h2,h3⟩;exact⟨q,⟨h1,h2⟩,h3.symm⟩
def step_mem:r∈eM ps↔r∈ps∨∃p∈ps,∃q∈ps,p.2=q.1/\r=(p.1,q.2):=by unfold eM;rw[nL Dh,cj,ue];simp only[z5s]
def HY(h:pJ n ps):pJ n (eM ps):=λr hr=>by
 rcases step_mem.mp hr with hr|⟨p,hp,q,hq,_,rfl⟩
 ·exact h r hr
 ·exact⟨(h p hp).1,(h p hp).2.1,(h q hq).2.2.1,(h q hq).2.2.2⟩
def yB(ps:wo):eW cP (eM ps):=qM Dh _
def z5t(hr:eW cP ps):eM ps=ps↔Tr ps:=by
 constructor
 ·intro h p hp q hq e;rw[<-h];exact step_mem.mpr (.inr ⟨p,hp,q,hq,e,rfl⟩)
 ·intro h;refine GB Dh (yB ps) hr λr=>?_;rw[step_mem];constructor
  ·rintro (hr|⟨p,hp,q,hq,e,rfl⟩)
   ·exact hr
   ·exact h p hp q hq e
  ·exact λh=>.inl h
def z5u(hr:eW cP ps)(hne:eM ps≠ps):ps.length<(eM ps).length:=by
 have nd:=sC Dh hr;have sub:∀r∈ps,r∈eM ps:=λr h=>step_mem.mpr (.inl h);have h1:=nd.length_le_of_subset sub
 rcases ji ps.length (eM ps).length with h|h
 ·exact h
 ·exfalso
  apply hne
  have sub2:∀r∈eM ps,r∈ps:=λr hr'=>by
   by_cases hm:r∈ps
   ·exact hm
   ·exfalso
    have nd2:(r::ps).Nodup:=jr.mpr ⟨hm,nd⟩;have:=nd2.length_le_of_subset (l₂:=eM ps) λx hx=>by
     rcases az.mp hx with rfl|hx
     ·exact hr'
     ·exact sub x hx
    simp at this;lia
  exact GB Dh (yB ps) hr λr=>⟨sub2 r,sub r⟩
theorem RX(hn:n<=6):∀(f:Nat)(ps:wo),eW cP ps->pJ n ps->36<f+ps.length->∃cs,yA f ps=some cs/\eW cP cs/\pJ n cs/\Tr cs/\(∀p∈ps,p∈cs)/\∀R:Int->Int->Prop,(∀a b c,R a b->R b c->R a c)->(∀p∈ps,R p.1 p.2)->∀p∈cs,R p.1 p.2
 |0,ps,hr,hi,h=>by
  have h1:=xZ hr hi;have h2:n*n<=6*6:=lh hn hn
  lia
 |f+1,ps,hr,hi,h=>by
  unfold yA
  split
  ·rename_i e;exact⟨ps,rfl,hr,hi,(z5t hr).mp e,λp hp=>hp,λR _ h=>h⟩
  ·rename_i e;have:=z5u hr e;let⟨cs,h1,h2,h3,h4,h5,h6⟩:=RX hn f (eM ps) (yB ps) (HY hi) (by lia);refine⟨cs,h1,h2,h3,h4,λp hp=>h5 p (step_mem.mpr (.inl hp)),λR ht hR=>h6 R ht λr hr'=>?_⟩
   rcases step_mem.mp hr' with hr'|⟨p,hp,q,hq,e,rfl⟩
   ·exact hR r hr'
   ·refine ht _ p.2 _ (hR p hp) ?_;rw[e];exact hR q hq
def HZ{α:Type}{f:α->Dv}{xs:List α}(e:getL H i=some (xs.map f))(hk:k<xs.length):(eJ i xs.length).get k H=some (f xs[k]):=by simp[eJ,e,hk]
theorem IA{α:Type}{f:α->Dv}{H:Hs}{i:Nat}{xs:List α}(e:getL H i=some (xs.map f)):(eJ i xs.length).fin H=true:=by simp[eJ,e]
theorem RY:∀ps:wo,bE nO (ps.map aG)=some (ps.map hO)
 |[]=>rfl
 |p::ps=>by rw[da,bE,RY ps];rfl
def z5v(ps:wo):sH (ps.map hO)=true:=by simp[sH,hO]
def z5w(ps:wo):(ps.map hO).map sG=ps.map aG:=by rw[jf];rfl
section
variable{H:Hs}{ps:wo}{d:Dv}
def RZ(h:sL d H=some (ps.map hO))(hl:(eF cP ps).length<64):nS d H=.ok (.ref H.length) (H++[.lst ((eF cP ps).map aG)]):=by unfold nS;rw[h];dsimp only;rw[OO uR,bo,if_pos (by rw[z5v];simpa using hl),z5w]
def z5x{ps qs:wo}(ei:getL H i=some (ps.map aG))(ej:getL H j=some (qs.map aG)):bR (.ref i) (.ref j) H=.ok (.bl (decide (ps=qs))) H:=by
 have p:∀(i:Nat)(ps:wo),getL H i=some (ps.map aG)->bD cD H (.ref i)=some (.lst (ps.map lK)):=λi ps e=>by show bD (27+2+1) H (.ref i)=_;rw[bD];simp only[e,F3]
 have dq:∀ps qs:wo,eG (ps.map lK) (qs.map lK)=decide (ps=qs):=λps=>by
  induction ps with
  |nil=>intro qs;cases qs<;>simp[eG]
  |cons p ps ih=>
   intro qs
   cases qs with
   |nil=>simp[eG]
   |cons q qs=>simp only[da,eG,N8,ih];rw[dk];simp
 unfold bR;rw[p i ps ei,p j qs ej];simp only[bG,dq]
def vI:M Bj:=bO (bP dX (aB 1)) [none,none,some 3,some 4] (cC 2 (aV (aF 0) (aV (aF 1) cE))) (mB (m2 bR (aB 3) (aB 0))) (bB (aL (aA (aB 2) (aA (aB 1) aC))))
def vJ:MS:=aI (aM (aD (f1 eV) (aA (aB 1) aC)) (aF 2)) (aI (gX (bP dX (aB 1)) (cC 2 (aV (aF 3) (aV (aF 4) cE))) (bN (lD (aB 2) vI))) (aI (aM (aD (f1 nS) (aA (aB 2) aC)) (aF 2)) (aI (bK (mB (m2 bR (aB 2) (aB 1))) (aO (aB 1)) bW) (aM (aB 2) (aF 1)))))
def z5y:kG=aI (aM (aD (f1 nS) (aA (aB 0) aC)) (aF 1)) (jP (bJ (mC (.bl true))) vJ 40):=rfl
def z5z{p:Int×Int}(hl:ps.length<=1000)(e:getL H i=some (ps.map aG)):vI [x0,some (.ref i),x2,some (.int p.1),some (.int p.2)] H=.ok ((eX ps p).map aG) H:=by
 have hi:bP dX (aB 1) [x0,some (.ref i),x2,some (.int p.1),some (.int p.2)] H=.ok (eJ i ps.length) H:=by simp[bP,aB,dX,e]
 have h:vI [x0,some (.ref i),x2,some (.int p.1),some (.int p.2)] H=.ok (ps.filterMap λq=>if p.2=q.1 then some (aG (p.1,q.2))else none) H:=
  gN ps (λq=>if p.2=q.1 then some (aG (p.1,q.2))else none) (λρ=>∃a b,ρ=[a,b,some (.int p.1),some (.int p.2)]) hi rfl ⟨_,_,rfl⟩ (by simp[eJ,e]) (λk hk ρ⟨a,b,er⟩=>by
   subst er;refine⟨aG ps[k],[some (.int ps[k].1),some (.int ps[k].2),some (.int p.1),some (.int p.2)],by simp[eJ,e,hk],rfl,⟨_,_,rfl⟩,?_⟩;have te:mB (m2 bR (aB 3) (aB 0)) [some (.int ps[k].1),some (.int ps[k].2),some (.int p.1),some (.int p.2)] H=.ok (decide (p.2=ps[k].1)) H:=by simp[mB,m2,aB,bR,cD,bD,bG,dW];rw[dk];simp
   by_cases c:p.2=ps[k].1
   ·rw[if_pos c];rw[decide_eq_true c]at te;exact⟨te,rfl⟩
   ·rw[if_neg c];rw[decide_eq_false c]at te;exact te) (by lia)
 rw[h]
 congr 1
 unfold eX;rw[jf];have:∀l:wo,l.filterMap (λq=>if p.2=q.1 then some (aG (p.1,q.2))else none)=(l.filter λq=>decide (p.2=q.1)).map (aG∘λq=>(p.1,q.2)):=λl=>by
  induction l with
  |nil=>rfl
  |cons q l ih=>
   rw[ck,ku,ih]
   by_cases c:p.2=q.1<;>simp[c]
 exact this ps
def R0(ps:wo)(p:Int×Int):(eX ps p).length<=ps.length:=by unfold eX;rw[bo];exact pq _ _
theorem R3(ps:wo):∀l:wo,(l.flatMap (eX ps)).length<=l.length*ps.length
 |[]=>by simp
 |p::l=>by
  have h1:=R0 ps p;have h2:=R3 ps l;rw[jq,bw,di,qw]
  lia
theorem z60{x0 x3 x4:Bk}{i j:Nat}(Dg:i≠j)(hl:ps.length<=40)(ei:getL H i=some (ps.map aG))(ej:getL H j=some (ps.map aG)):
  ∃y3 y4,gX (bP dX (aB 1)) (cC 2 (aV (aF 3) (aV (aF 4) cE))) (bN (lD (aB 2) vI)) [x0,some (.ref i),some (.ref j),x3,x4] H=.nx [x0,some (.ref i),some (.ref j),y3,y4] (H.set j (.lst ((ps++ps.flatMap (eX ps)).map aG))):=by
 have hi:bP dX (aB 1) [x0,some (.ref i),some (.ref j),x3,x4] H=.ok (eJ i ps.length) H:=by simp[bP,aB,dX,ei]
 have self:H.set j (.lst (ps.map aG))=H:=by
  apply xg
  intro k
  by_cases hk:j=k
  ·subst hk;rw[fe (qL ej),dN ej]
  ·rw[fj hk]
 obtain⟨ρ',H',h1,y3,y4,h2,h3⟩:=uP (b:=bN (lD (aB 2) vI)) (sg:=cC 2 (aV (aF 3) (aV (aF 4) cE))) hi (λk ρ H'=>∃(y3 y4:Bk),ρ=[x0,some (.ref i),some (.ref j),y3,y4]/\H'=H.set j (.lst ((ps++(ps.take k).flatMap (eX ps)).map aG)))
  (λk ρ H' hk⟨y3,y4,e1,e2⟩=>by
   subst e1;subst e2;have Ei:k<ps.length:=hk;have ei':getL (H.set j (.lst ((ps++(ps.take k).flatMap (eX ps)).map aG))) i=some (ps.map aG):=by rw[uO (dh Dg)];exact ei
   have ej':getL (H.set j (.lst ((ps++(ps.take k).flatMap (eX ps)).map aG))) j=some ((ps++(ps.take k).flatMap (eX ps)).map aG):=lJ ej;have hlen:(ps++(ps.take k).flatMap (eX ps)).length<=40+40*40:=by have h1:=R3 ps (ps.take k);have h2:(ps.take k).length*ps.length<=40*40:=lh (by rw[jx];lia) hl;rw[bw];lia
   have hf:=R0 ps ps[k];refine⟨aG ps[k],[x0,some (.ref i),some (.ref j),some (.int ps[k].1),some (.int ps[k].2)],[x0,some (.ref i),some (.ref j),some (.int ps[k].1),some (.int ps[k].2)],_,HZ ei' Ei,rfl,?_,_,_,rfl,rfl⟩;have hc:=z5z (x0:=x0) (x2:=some (.ref j)) (p:=ps[k]) (by lia) ei';generalize hG:H.set j (.lst ((ps++(ps.take k).flatMap (eX ps)).map aG))=G at ei' ej' hc;have isJ:kC (.ref j) G=true:=by simp[kC,ej']
   have hz:((ps++(ps.take k).flatMap (eX ps)).map aG).length+((eX ps ps[k]).map aG).length<=1000000:=by rw[bo,bo];lia
   have hx:wU (.ref j) ((eX ps ps[k]).map aG) G=.ok .non (G.set j (.lst ((ps++(ps.take (k+1)).flatMap (eX ps)).map aG))):=by unfold wU;simp only[ej',lim,hz,if_true];rw[kj Ei,Bf,<-fh];simp[oz]
   have:lD (aB 2) vI [x0,some (.ref i),some (.ref j),some (.int ps[k].1),some (.int ps[k].2)] G=.ok .non (G.set j (.lst ((ps++(ps.take (k+1)).flatMap (eX ps)).map aG))):=by unfold lD;show(Gz (Gu j) G).bind _=_;rw[Rs.bind_ok,if_pos isJ,hc,Rs.bind_ok,hx]
   unfold bN;rw[this,<-hG,List.set_set];rfl)
  (λρ H'⟨_,_,_,e2⟩=>by
   subst e2;have ei':getL (H.set j (.lst ((ps++(ps.take (eJ i ps.length).n).flatMap (eX ps)).map aG))) i=some (ps.map aG):=by rw[uO (dh Dg)];exact ei
   exact IA ei') ⟨x3,x4,rfl,by simp[self]⟩
 refine⟨y3,y4,?_⟩;rw[h1,h2,h3];simp[eJ]
end
section
variable{H:Hs}{ps:wo}
theorem R4{i:Nat}(e:getL H i=some (ps.map aG)):sL (.ref i) H=some (ps.map hO):=by simp only[sL,e,RY]
def IB(hl:ps.length<=40)(hs:(eM ps).length<64)(e:getL H i=some (ps.map aG)):
  ∃H',Fr [] H H'/\getL H' i=some (ps.map aG)/\if eM ps=ps then vJ [x0,some (.ref i),x2,x3,x4] H=.rt (.ref i) H' else ∃(j:Nat)(y2 y3 y4:Bk),vJ [x0,some (.ref i),x2,x3,x4] H=.nx [x0,some (.ref j),y2,y3,y4] H'/\getL H' j=some ((eM ps).map aG):=by
 have li:=qL e;have w0:aM (aD (f1 eV) (aA (aB 1) aC)) (aF 2) [x0,some (.ref i),x2,x3,x4] H=.nx [x0,some (.ref i),some (.ref H.length),x3,x4] (H++[.lst (ps.map aG)]):=by simp[aM,aD,f1,eV,gA,rN,gK,aA,aB,aC,e,aF]
 have ei:=iW (l:=[Gi (ps.map aG)]) e;have ej:getL (H++[Gi (ps.map aG)]) H.length=some (ps.map aG):=by simp[getL]
 have f0:Fr [] H (H++[Gi (ps.map aG)]):=Gj;generalize H++[Gi (ps.map aG)]=H0 at w0 ei ej f0;let⟨y3,y4,w1⟩:=z60 (x0:=x0) (x3:=x3) (x4:=x4) (i:=i) (j:=H.length) (by lia) hl ei ej;have ei1:getL (H0.set H.length (.lst ((ps++ps.flatMap (eX ps)).map aG))) i=some (ps.map aG):=by rw[uO (by lia)];exact ei
 have ej1:getL (H0.set H.length (.lst ((ps++ps.flatMap (eX ps)).map aG))) H.length=some ((ps++ps.flatMap (eX ps)).map aG):=lJ ej;have f1':Fr [] H (H0.set H.length (.lst ((ps++ps.flatMap (eX ps)).map aG))):=f0.trans (T:=[H.length]) Hf (by simp);generalize H0.set H.length (.lst ((ps++ps.flatMap (eX ps)).map aG))=H1 at w1 ei1 ej1 f1';have w2:aM (aD (f1 nS) (aA (aB 2) aC)) (aF 2) [x0,some (.ref i),some (.ref H.length),y3,y4] H1=.nx [x0,some (.ref i),some (.ref H1.length),y3,y4] (H1++[.lst ((eM ps).map aG)]):=by have hq:=RZ (R4 ej1) hs;simp[aM,aD,f1,aA,aB,aC,hq,aF,eM]
 have ei2:=iW (l:=[Gi ((eM ps).map aG)]) ei1;have ej2:getL (H1++[Gi ((eM ps).map aG)]) H1.length=some ((eM ps).map aG):=by simp[getL]
 have f2:Fr [] H (H1++[Gi ((eM ps).map aG)]):=f1'.trans (T:=[]) Gj (by simp);generalize hH2:H1++[Gi ((eM ps).map aG)]=H2 at w2 ei2 ej2 f2;have t:mB (m2 bR (aB 2) (aB 1)) [x0,some (.ref i),some (.ref H1.length),y3,y4] H2=.ok (decide (eM ps=ps)) H2:=by simp[mB,m2,aB,z5x ej2 ei2,dW]
 refine⟨H2,f2,ei2,?_⟩
 by_cases c:eM ps=ps
 ·rw[if_pos c];unfold vJ;rw[aX w0,aX w1,aX w2];unfold aI;rw[nJ (t.trans (by rw[decide_eq_true c]))];rfl
 ·rw[if_neg c];refine⟨H1.length,some (.ref H1.length),y3,y4,?_,ej2⟩;unfold vJ;rw[aX w0,aX w1,aX w2,aX (ρ1:=[x0,some (.ref i),some (.ref H1.length),y3,y4]) (h1:=H2) (by rw[jQ (t.trans (by rw[decide_eq_false c]))];rfl)];rfl
theorem R5(hn:n<=6):∀(f:Nat)(ps:wo)(H:Hs)(i:Nat)(x0 x2 x3 x4:Bk),eW cP ps->pJ n ps->yA f ps=some cs->getL H i=some (ps.map aG)->
  ∃(j:Nat)(H':Hs),jP (bJ (mC (.bl true))) vJ f [x0,some (.ref i),x2,x3,x4] H=.rt (.ref j) H'/\getL H' j=some (cs.map aG)/\Fr [] H H'
 |0,ps,H,i,x0,x2,x3,x4,hr,hi,h,e=>by cases h
 |f+1,ps,H,i,x0,x2,x3,x4,hr,hi,h,e=>by
  have sq:n*n<=6*6:=lh hn hn;have l1:=xZ hr hi;have l2:=xZ (yB ps) (HY hi);let⟨H1,f1,e1,c1⟩:=IB (x0:=x0) (x2:=x2) (x3:=x3) (x4:=x4) (by lia) (by lia) e;have tt:bJ (mC (.bl true)) [x0,some (.ref i),x2,x3,x4] H=.ok true H:=rfl;unfold yA at h
  split at h
  ·rename_i c;cases h;rw[if_pos c]at c1;exact⟨i,H1,z59 tt c1,e1,f1⟩
  ·rename_i c;rw[if_neg c]at c1;let⟨j,y2,y3,y4,c2,ej⟩:=c1;let⟨k,H2,w,ek,f2⟩:=R5 hn f (eM ps) H1 j x0 y2 y3 y4 (yB ps) (HY hi) h ej;exact⟨k,H2,by rw[RS tt c2];exact w,ek,f1.trans f2 (by simp)⟩
def R6(n:Nat)(ps cs:wo):Prop:=eW cP cs/\pJ n cs/\Tr cs/\(∀p∈ps,p∈cs)/\∀R:Int->Int->Prop,(∀a b c,R a b->R b c->R a c)->(∀p∈ps,R p.1 p.2)->∀p∈cs,R p.1 p.2
def z61(hn:n<=6)(hi:pJ n ps)(h:sL d H=some (ps.map hO)):∃(cs:wo)(j:Nat)(H':Hs),R6 n ps cs/\gD [d] H=.ok (.ref j) H'/\getL H' j=some (cs.map aG)/\Fr [] H H':=by
 have hs:pJ n (eF cP ps):=λp hp=>hi p ((nL Dh p ps).mp hp);have hr:=qM Dh ps;have sq:n*n<=6*6:=lh hn hn;have l1:=xZ hr hs;let⟨cs,c1,c2,c3,c4,c5,c6⟩:=RX hn 40 _ hr hs (by lia);have w0:aM (aD (f1 nS) (aA (aB 0) aC)) (aF 1) [some d,none,none,none,none] H=.nx [some d,some (.ref H.length),none,none,none] (H++[.lst ((eF cP ps).map aG)]):=by have hq:=RZ h (by lia);simp[aM,aD,f1,aA,aB,aC,hq,aF]
 let⟨j,H',w1,ej,f1'⟩:=R5 hn 40 (eF cP ps) (H++[.lst ((eF cP ps).map aG)]) H.length (some d) none none none hr hs c1 (by simp[getL]);refine⟨cs,j,H',⟨c2,c3,c4,λp hp=>c5 p ((nL Dh p ps).mpr hp),λR ht hR=>c6 R ht λp hp=>hR p ((nL Dh p ps).mp hp)⟩,?_,ej,(Gj (S:=[]) (l:=[.lst ((eF cP ps).map aG)])).trans f1' (by simp)⟩;show bF (kG [some d,none,none,none,none] H)=_;rw[z5y,aX w0,w1];rfl
end
def sW{i k:Nat}{xs:y'}(e:getL H i=some (xs.map Gh))(hk:k<xs.length):aN (.ref i) (.int (k:Int)) H=.ok (.int xs[k]) H:=by
 have h1:eO (xs.map Gh).length (k:Int)=some k:=by unfold eO;rw[bo,if_pos (by lia),if_pos (by lia)];simp
 have h2:gQ (xs.map Gh) (k:Int)=some (.int xs[k]):=by unfold gQ;rw[h1];simp[hk]
 simp only[aN,gA,gS,e,lA,h2,if_true]
def eq_int(x y:Int)(H:Hs):bR (.int x) (.int y) H=.ok (.bl (x==y)) H:=by simp[bR,cD,bD,bG]
theorem IC:∀{ys:y'},ys.Nodup->∀i(h:i<ys.length),fP ys[i] ys=some i
 |[],_,i,h=>by simp at h
 |y::ys,nd,0,h=>by simp[fP]
 |y::ys,nd,i+1,h=>by
  have h1:=jr.mp nd;have hi:i<ys.length:=by simpa using h
  have ne:y≠ys[i]:=λz=>h1.1 (by rw[z];exact dj hi);simp[fP,ne,IC h1.2 i hi]
def CL(n:Nat)(ps:wo):Prop:=pJ n ps/\∃f:Int->Int,∀p∈ps,f p.1<f p.2
def z62(n1:1<=n)(n6:n<=6)(g:CL n ps)(c:R6 n ps cs):Bt n cs:=by let⟨h1,h2,h3,h4,h5⟩:=c;let⟨_,f,hf⟩:=g;refine⟨n1,n6,h2,h1,λp hp e=>?_,h3⟩;have:=h5 (λa b=>f a<f b) (λa b c x y=>by lia) hf p hp;rw[e]at this;lia
section
variable{st ir ip im n:Nat}{ys ms:y'}{w:Int}{d1:Dv}
def ID:MS:=aM (aQ (aA (m2 bR (aD cA (aA (aB 0) (aA (mC (.int 6)) aC))) (mC (.int 0))) (aA (m2 bR (aD cA (aA (aB 0) (aA (mC (.int 2)) aC))) (mC (.int 0))) (aA (m2 hJ (aD cA (aA (aB 0) (aA (mC (.int 4)) aC))) (mC (.int 0))) aC)))) (aF 9)
def IE:MS:=aM (m2 aU (aB 9) (aQ (aA (m2 gC (m2 aN (aB 6) (aB 7)) (m2 aN (aB 6) (aB 8))) (aA (m2 bR (m2 aN (aB 6) (aB 7)) (m2 aN (aB 6) (aB 8))) aC)))) (aF 9)
def oB:MS:=aI ID (aI IE (bK (bJ (m2 aN (aB 9) (aB 4))) (bN (iQ (aB 5) (aL (aA (m2 aN (aB 3) (aB 7)) (aA (m2 aN (aB 3) (aB 8)) aC))))) bW))
structure Std(st ir im:Nat)(ys ms:y')(H:Hs):Prop where
 s:St st H
 r:getL H ir=some (ys.map Gh)
 m:getL H im=some (ms.map Gh)
def Std.fr(h:Std st ir im ys ms H)(f:Fr S H H')(s':St st H')(h1:ir∉S)(h2:im∉S):Std st ir im ys ms H':=⟨s',f.getL h.r h1,f.getL h.m h2⟩
def oC{ps:wo}(D:Std st ir im ys ms H)(ep:getL H ip=some (ps.map aG))(hw:0<=w/\w<5)(hi:i<n)(hj:j<n)(hy:ys.length=n)(hm:ms.length=n)(hl:ps.length<=1000)(h1:ir≠st)(h2:im≠st)(h3:ip≠st)(h4:ir≠ip)(h5:im≠ip):
  ∃(Ep:Bk)(H':Hs)(Cn:wo),oB [some (.ref st),some d1,some (.int n),some (.ref ir),some (.int w),some (.ref ip),some (.ref im),some (.int i),some (.int j),x9] H=.nx [some (.ref st),some d1,some (.int n),some (.ref ir),some (.int w),some (.ref ip),some (.ref im),some (.int i),some (.int j),Ep] H'/\getL H' ip=some (Cn.map aG)/\(Cn=ps∨Cn=ps++[(ys.getD i 0,ys.getD j 0)])/\Std st ir im ys ms H'/\Fr [st,ip] H H':=by
 let⟨r0,H0,_,_,t0,f0,s0⟩:=jV 6 D.s;let⟨r1,H1,_,_,t1,f1,s1⟩:=jV 2 s0;let⟨r2,H2,_,_,t2,f2,s2⟩:=jV 4 s1;have f02:Fr [st] H H2:=(f0.trans f1 (by simp)).trans f2 (by simp);have D2:=D.fr f02 s2 (by simpa using h1) (by simpa using h2);have ep2:=f02.getL ep (by simpa using h3);have w1:ID [some (.ref st),some d1,some (.int n),some (.ref ir),some (.int w),some (.ref ip),some (.ref im),some (.int i),some (.int j),x9] H=.nx [some (.ref st),some d1,some (.int n),some (.ref ir),some (.int w),some (.ref ip),some (.ref im),some (.int i),some (.int j),some (.ref H2.length)] (H2++[.lst [.bl (r0==0),.bl (r1==0),.bl (decide (r2>0))]]):=by simp[ID,aM,aQ,aA,m2,aD,aB,mC,aC,t0,t1,t2,eq_int,hJ,iA,lim,aF]
 have fA:Fr [] H2 (H2++[.lst [.bl (r0==0),.bl (r1==0),.bl (decide (r2>0))]]):=Gj;have eA:getL (H2++[.lst [.bl (r0==0),.bl (r1==0),.bl (decide (r2>0))]]) H2.length=some [.bl (r0==0),.bl (r1==0),.bl (decide (r2>0))]:=by simp[getL]
 have DA:=D2.fr fA (s2.fr fA (by simp)) (by simp) (by simp);have epA:=fA.getL ep2 (by simp);have fHA:Fr [st] H (H2++[.lst [.bl (r0==0),.bl (r1==0),.bl (decide (r2>0))]]):=f02.trans fA (by simp);generalize H2++[Gi [.bl (r0==0),.bl (r1==0),.bl (decide (r2>0))]]=HA at w1 fA eA DA epA fHA;have hmi:=sW DA.m (k:=i) (by lia);have hmj:=sW DA.m (k:=j) (by lia);have eA':=iW (l:=[Gi [.bl (decide (ms[i]<ms[j])),.bl (ms[i]==ms[j])]]) eA;have eB:getL (HA++[Gi [.bl (decide (ms[i]<ms[j])),.bl (ms[i]==ms[j])]]) HA.length=some [.bl (decide (ms[i]<ms[j])),.bl (ms[i]==ms[j])]:=by simp[getL]
 have w2:IE [some (.ref st),some d1,some (.int n),some (.ref ir),some (.int w),some (.ref ip),some (.ref im),some (.int i),some (.int j),some (.ref H2.length)] HA=.nx [some (.ref st),some d1,some (.int n),some (.ref ir),some (.int w),some (.ref ip),some (.ref im),some (.int i),some (.int j),some (.ref (HA.length+1))] (HA++[.lst [.bl (decide (ms[i]<ms[j])),.bl (ms[i]==ms[j])]]++[.lst [.bl (r0==0),.bl (r1==0),.bl (decide (r2>0)),.bl (decide (ms[i]<ms[j])),.bl (ms[i]==ms[j])]]):=by simp[IE,aM,m2,aQ,aA,aB,hmi,hmj,gC,eq_int,aC,lim,aU,lZ,eA',eB,aF]
 have fB:Fr [] HA (HA++[.lst [.bl (decide (ms[i]<ms[j])),.bl (ms[i]==ms[j])]]++[.lst [.bl (r0==0),.bl (r1==0),.bl (decide (r2>0)),.bl (decide (ms[i]<ms[j])),.bl (ms[i]==ms[j])]]):=Hh (T:=[]) Gj Gj (by simp);have eN:getL (HA++[.lst [.bl (decide (ms[i]<ms[j])),.bl (ms[i]==ms[j])]]++[.lst [.bl (r0==0),.bl (r1==0),.bl (decide (r2>0)),.bl (decide (ms[i]<ms[j])),.bl (ms[i]==ms[j])]]) (HA.length+1)=some [.bl (r0==0),.bl (r1==0),.bl (decide (r2>0)),.bl (decide (ms[i]<ms[j])),.bl (ms[i]==ms[j])]:=by simp[getL]
 have DB:=DA.fr fB (DA.s.fr fB (by simp)) (by simp) (by simp);have epB:=fB.getL epA (by simp);have fHB:=fHA.trans fB (by simp);generalize HA++[Gi [.bl (decide (ms[i]<ms[j])),.bl (ms[i]==ms[j])]]++[Gi [.bl (r0==0),.bl (r1==0),.bl (decide (r2>0)),.bl (decide (ms[i]<ms[j])),.bl (ms[i]==ms[j])]]=HB at w2 fB eN DB epB fHB;have near:∃b,aN (.ref (HA.length+1)) (.int w) HB=.ok (.bl b) HB:=by
  have hw':w=0∨w=1∨w=2∨w=3∨w=4:=by lia
  rcases hw' with rfl|rfl|rfl|rfl|rfl
  ·exact⟨_,by simp only[aN,gA,gS,eN];rfl⟩
  ·exact⟨_,by simp only[aN,gA,gS,eN];rfl⟩
  ·exact⟨_,by simp only[aN,gA,gS,eN];rfl⟩
  ·exact⟨_,by simp only[aN,gA,gS,eN];rfl⟩
  ·exact⟨_,by simp only[aN,gA,gS,eN];rfl⟩
 let⟨b,hb⟩:=near;have t:bJ (m2 aN (aB 9) (aB 4)) [some (.ref st),some d1,some (.int n),some (.ref ir),some (.int w),some (.ref ip),some (.ref im),some (.int i),some (.int j),some (.ref (HA.length+1))] HB=.ok b HB:=by simp[bJ,m2,aB,hb,fO]
 cases b with
 |false=>refine⟨some (.ref (HA.length+1)),HB,ps,?_,epB,.inl rfl,DB,fHB.mono (by simp)⟩;unfold oB;rw[aX w1,aX w2,jQ t];rfl
 |true=>
  have hyi:=sW DB.r (k:=i) (by lia);have hyj:=sW DB.r (k:=j) (by lia);have gi:ys[i]=ys.getD i 0:=by simp[show i<ys.length by lia]
  have gj:ys[j]=ys.getD j 0:=by simp[show j<ys.length by lia]
  rw[gi]at hyi;rw[gj]at hyj;generalize ys.getD i 0=va at hyi⊢;generalize ys.getD j 0=vb at hyj⊢;have hz:(ps.map aG).length<1000000:=by rw[bo];lia
  have fC:Fr [ip] HB (HB.set ip (.lst ((ps++[(va,vb)]).map aG))):=Hf;refine⟨some (.ref (HA.length+1)),HB.set ip (.lst ((ps++[(va,vb)]).map aG)),ps++[(va,vb)],?_,lJ epB,.inr rfl,DB.fr fC (DB.s.fr fC (by simpa using dh h3)) (by simpa using h4) (by simpa using h5),(fHB.mono (T:=[st,ip]) (by simp)).trans fC (by simp)⟩;unfold oB;rw[aX w1,aX w2,nJ t];have isP':kC (.ref ip) HB=true:=by simp[kC,epB]
  have happ:rS (.ref ip) (.tup [.int (va),.int (vb)]) HB=.ok .non (HB.set ip (.lst ((ps++[(va,vb)]).map aG))):=by simp only[rS,epB,hz,if_true,fh];rfl
  simp[bN,iQ,aB,isP',aL,aA,m2,hyi,hyj,aC,lim,happ]
end
def IF(h0:0<=m)(h:m<=100):jL m=true:=by
 have h1:(-4611686018427387904:Int)<=m:=by lia
 have h2:m<4611686018427387904:=by lia
 unfold jL;rw[decide_eq_true h1,decide_eq_true h2];rfl
def IG(h0:0<=j)(h1:j<=100):dI [.int j] H=.ok (cX 0 j) H:=by simp only[dI,IF h0 h1,if_true]
def z63(h0:0<=i)(h1:i<=100)(h2:0<=j)(h3:j<=100):lB [.int i,.int j] H=.ok (cX i j) H:=by simp only[lB,IF h0 h1,IF h2 h3,and_self,if_true]
def vK(ys:y')(n:Nat)(ps:wo):Prop:=∀p∈ps,∃i j,i<j/\j<n/\p=(ys.getD i 0,ys.getD j 0)
section
variable{st ir ip im n:Nat}{ys ms:y'}{w:Int}{d1:Dv}
abbrev cI(st ir ip im n:Nat)(w:Int)(d1:Dv)(x7 x8 x9:Bk):Ev:=[some (.ref st),some d1,some (.int n),some (.ref ir),some (.int w),some (.ref ip),some (.ref im),x7,x8,x9]
def kU:MS:=gX (aT lB (aA (m2 aU (aB 7) (mC (.int 1))) (aA (aB 2) aC))) (aF 8) oB
def oD{ps:wo}(D:Std st ir im ys ms H)(ep:getL H ip=some (ps.map aG))(hw:0<=w/\w<5)(hi:i<n)(hn:n<=6)(hy:ys.length=n)(hm:ms.length=n)(hl:ps.length<=500)(hb:vK ys n ps)(h1:ir≠st)(h2:im≠st)(h3:ip≠st)(h4:ir≠ip)(h5:im≠ip):
  ∃(Fw Ep:Bk)(H':Hs)(Cn:wo),kU (cI st ir ip im n w d1 (some (.int i)) x8 x9) H=.nx (cI st ir ip im n w d1 (some (.int i)) Fw Ep) H'/\getL H' ip=some (Cn.map aG)/\vK ys n Cn/\Cn.length<=ps.length+6/\Std st ir im ys ms H'/\Fr [st,ip] H H':=by
 have hi0:aT lB (aA (m2 aU (aB 7) (mC (.int 1))) (aA (aB 2) aC)) (cI st ir ip im n w d1 (some (.int i)) x8 x9) H=.ok (cX ((i:Int)+1) n) H:=by have q:aA (m2 aU (aB 7) (mC (.int 1))) (aA (aB 2) aC) (cI st ir ip im n w d1 (some (.int i)) x8 x9) H=.ok [.int ((i:Int)+1),.int n] H:=rfl;unfold aT;rw[q,Rs.bind_ok];exact z63 (by lia) (by lia) (by lia) (by lia)
 have hN:(cX ((i:Int)+1) (n:Int)).n=n-(i+1):=by
  show((n:Int)-((i:Int)+1)).toNat=_
  lia
 let⟨ρ',H',r1,Fw,Ep,Cn,e1,e2,e3,e4,e5,e6⟩:=uP (b:=oB) (sg:=aF 8) hi0 (λk ρ H'=>∃(Fw Ep:Bk)(Cn:wo),ρ=cI st ir ip im n w d1 (some (.int i)) Fw Ep/\getL H' ip=some (Cn.map aG)/\vK ys n Cn/\Cn.length<=ps.length+k/\Std st ir im ys ms H'/\Fr [st,ip] H H')
  (λk ρ H' hk⟨Fw,Ep,Cn,e1,e2,e3,e4,e5,e6⟩=>by
   subst e1;rw[hN]at hk;have hj:i+1+k<n:=by lia
   let⟨x9n,H2,ps2,b1,b2,b3,b4,b5⟩:=oC (x9:=Ep) (w:=w) (d1:=d1) (ip:=ip) (n:=n) (i:=i) (j:=i+1+k) e5 e2 hw hi hj hy hm (by lia) h1 h2 h3 h4 h5;have ej:(((i+1+k:Nat)):Int)=(i:Int)+1+(k:Int):=by lia
   rw[ej]at b1;refine⟨.int ((i:Int)+1+(k:Int)),cI st ir ip im n w d1 (some (.int i)) (some (.int ((i:Int)+1+(k:Int)))) Ep,_,H2,rfl,rfl,b1,_,_,ps2,rfl,b2,?_,?_,b4,e6.trans b5 λj hj=>.inl hj⟩
   ·rcases b3 with rfl|rfl
    ·exact e3
    ·intro p hp
     rcases cj.mp hp with hp|hp
     ·exact e3 p hp
     ·rw[cz.mp hp];exact⟨i,i+1+k,by lia,hj,rfl⟩
   ·rcases b3 with rfl|rfl
    ·lia
    ·rw[bw];simp;lia) (λ_ _ _=>rfl) ⟨x8,x9,ps,rfl,ep,hb,by lia,D,Gy⟩
 rw[hN]at e4;exact⟨Fw,Ep,H',Cn,by unfold kU;rw[r1,e1],e2,e3,by lia,e5,e6⟩
def lR:MS:=gX (aT dI (aA (aB 2) aC)) (aF 7) kU
def oE(D:Std st ir im ys ms H)(ep:getL H ip=some (([]:wo).map aG))(hw:0<=w/\w<5)(hn:n<=6)(hy:ys.length=n)(hm:ms.length=n)(h1:ir≠st)(h2:im≠st)(h3:ip≠st)(h4:ir≠ip)(h5:im≠ip):
  ∃(x7' Fw Ep:Bk)(H':Hs)(Cn:wo),lR (cI st ir ip im n w d1 x7 x8 x9) H=.nx (cI st ir ip im n w d1 x7' Fw Ep) H'/\getL H' ip=some (Cn.map aG)/\vK ys n Cn/\Std st ir im ys ms H'/\Fr [st,ip] H H':=by
 have hi0:aT dI (aA (aB 2) aC) (cI st ir ip im n w d1 x7 x8 x9) H=.ok (cX 0 n) H:=by have q:aA (aB 2) aC (cI st ir ip im n w d1 x7 x8 x9) H=.ok [.int n] H:=rfl;unfold aT;rw[q,Rs.bind_ok];exact IG (by lia) (by lia)
 have hN:(cX 0 (n:Int)).n=n:=by simp[cX]
 let⟨ρ',H',r1,x7',Fw,Ep,Cn,e1,e2,e3,e4,e5,e6⟩:=uP (b:=kU) (sg:=aF 7) hi0 (λk ρ H'=>∃(x7' Fw Ep:Bk)(Cn:wo),ρ=cI st ir ip im n w d1 x7' Fw Ep/\getL H' ip=some (Cn.map aG)/\vK ys n Cn/\Cn.length<=6*k/\Std st ir im ys ms H'/\Fr [st,ip] H H')
  (λk ρ H' hk⟨x7',Fw,Ep,Cn,e1,e2,e3,e4,e5,e6⟩=>by
   subst e1;rw[hN]at hk;let⟨x8n,x9n,H2,ps2,b1,b2,b3,b4,b5,b6⟩:=oD (x8:=Fw) (x9:=Ep) (w:=w) (d1:=d1) (ip:=ip) (n:=n) (i:=k) e5 e2 hw hk hn hy hm (by lia) e3 h1 h2 h3 h4 h5;have ek:(0:Int)+(k:Int)=(k:Int):=by lia
   refine⟨.int (0+(k:Int)),cI st ir ip im n w d1 (some (.int k)) Fw Ep,_,H2,rfl,by rw[ek];rfl,b1,_,_,_,ps2,rfl,b2,b3,by lia,b5,e6.trans b6 λj hj=>.inl hj⟩) (λ_ _ _=>rfl) ⟨x7,x8,x9,[],rfl,ep,λp hp=>by simp at hp,by simp,D,Gy⟩
 exact⟨x7',Fw,Ep,H',Cn,by unfold lR;rw[r1,e1],e2,e3,e5,e6⟩
def z64(pm:ys.Perm (cO n))(h:vK ys n ps):CL n ps:=by
 have hl:ys.length=n:=by rw[pm.length_eq];simp[cO]
 have nd:ys.Nodup:=by refine pm.nodup_iff.mpr ?_;unfold cO;simp only[fq];refine vf _ ?_ (ud (n:=n));intro a b h e;exact h (by lia)
 have mem:∀i,i<n->0<=ys.getD i 0/\ys.getD i 0<n:=λi hi=>by
  have hm:ys.getD i 0∈cO n:=pm.mem_iff.mp (by simp[show i<ys.length by lia]);simp only[cO,cf,bx,fq]at hm;let⟨k,hk,e⟩:=hm
  lia
 refine⟨λp hp=>?_,λa=>((fP a ys).getD 0:Nat),λp hp=>?_⟩
 ·obtain⟨i,j,Dg,hj,rfl⟩:=h p hp;exact⟨(mem i (by lia)).1,(mem i (by lia)).2,(mem j hj).1,(mem j hj).2⟩
 ·obtain⟨i,j,Dg,hj,rfl⟩:=h p hp;have hi':i<ys.length:=by lia
  have hj':j<ys.length:=by lia
  have e1:ys.getD i 0=ys[i]:=by simp[hi']
  have e2:ys.getD j 0=ys[j]:=by simp[hj']
  simp only[e1,e2,IC nd i hi',IC nd j hj',Option.getD_some]
  lia
def IH(ms:y')(n:Nat)(ps:wo):Prop:=∀p∈ps,∃i j:Nat,i<n/\j<n/\ms.getD i 0<ms.getD j 0/\p=((i:Int),(j:Int))
def z65(h:IH ms n ps):CL n ps:=by
 refine⟨λp hp=>?_,λa=>ms.getD a.toNat 0,λp hp=>?_⟩
 ·obtain⟨i,j,hi,hj,_,rfl⟩:=h p hp;exact⟨by simp,by simpa using hi,by simp,by simpa using hj⟩
 ·obtain⟨i,j,hi,hj,hlt,rfl⟩:=h p hp;simpa using hlt
def CM:M Bj:=bO (aT dI (aA (aB 2) aC)) [none,some 7,some 6] (aF 0) (mB (m2 gC (m2 aN (aB 2) (aB 1)) (m2 aN (aB 2) (aB 0)))) (bB (aL (aA (aB 1) (aA (aB 0) aC))))
def yC:MS:=aM (m2 aU (aB 5) (bQ CM)) (aF 5)
def iF(ms:y')(n i:Nat):wo:=(ba n).filterMap λj=>if ms.getD i 0<ms.getD j 0 then some ((i:Int),(j:Int))else none
def z66(em:getL H im=some (ms.map Gh))(hi:i<n)(hn:n<=6)(hm:ms.length=n):
  CM (cI st ir ip im n w d1 (some (.int i)) x8 x9) H=.ok ((iF ms n i).map aG) H:=by
 have hi0:aT dI (aA (aB 2) aC) (cI st ir ip im n w d1 (some (.int i)) x8 x9) H=.ok (cX 0 n) H:=by have q:aA (aB 2) aC (cI st ir ip im n w d1 (some (.int i)) x8 x9) H=.ok [.int n] H:=rfl;unfold aT;rw[q,Rs.bind_ok];exact IG (by lia) (by lia)
 have h:CM (cI st ir ip im n w d1 (some (.int i)) x8 x9) H=.ok ((ba n).filterMap λj=>if ms.getD i 0<ms.getD j 0 then some (aG ((i:Int),(j:Int)))else none) H:=
  gN (ba n) (λj=>if ms.getD i 0<ms.getD j 0 then some (aG ((i:Int),(j:Int)))else none) (λρ=>∃a,ρ=[a,some (.int i),some (.ref im)]) hi0 (by simp[cX]) ⟨_,rfl⟩ rfl (λk hk ρ⟨a,er⟩=>by
   subst er;have Ei:k<n:=by simpa using hk
   have gk:(ba n)[k]=k:=by simp
   rw[gk];have ek:(0:Int)+(k:Int)=(k:Int):=by lia
   refine⟨.int (0+(k:Int)),[some (.int k),some (.int i),some (.ref im)],rfl,by rw[ek];rfl,⟨_,rfl⟩,?_⟩;have x1:=sW em (k:=i) (by lia);have x2:=sW em (k:=k) (by lia);have g1:ms[i]=ms.getD i 0:=by simp[show i<ms.length by lia]
   have g2:ms[k]=ms.getD k 0:=by simp[show k<ms.length by lia]
   rw[g1]at x1;rw[g2]at x2;generalize ms.getD i 0=va at x1⊢;generalize ms.getD k 0=vb at x2⊢;have te:mB (m2 gC (m2 aN (aB 2) (aB 1)) (m2 aN (aB 2) (aB 0))) [some (.int k),some (.int i),some (.ref im)] H=.ok (decide (va<vb)) H:=by simp[mB,m2,aB,x1,x2,gC,dW]
   by_cases c:va<vb
   ·rw[if_pos c];rw[decide_eq_true c]at te;exact⟨te,rfl⟩
   ·rw[if_neg c];rw[decide_eq_false c]at te;exact te) (by simp;lia)
 have e:((ba n).filterMap λj=>if ms.getD i 0<ms.getD j 0 then some (aG ((i:Int),(j:Int)))else none)=(iF ms n i).map aG:=by
  unfold iF;rw[List.map_filterMap];refine GN _ λj _=>?_
  split<;>rfl
 rw[h,e]
def z67(D:Std st ir im ys ms H)(ep:getL H ip0=some (([]:wo).map aG))(hn:n<=6)(hm:ms.length=n):
  ∃(Fy:Nat)(x7':Bk)(H':Hs)(Cn:wo),gX (aT dI (aA (aB 2) aC)) (aF 7) yC (cI st ir ip0 im n w d1 x7 x8 x9) H=.nx (cI st ir Fy im n w d1 x7' x8 x9) H'/\getL H' Fy=some (Cn.map aG)/\IH ms n Cn/\Fr [] H H':=by
 have hi0:aT dI (aA (aB 2) aC) (cI st ir ip0 im n w d1 x7 x8 x9) H=.ok (cX 0 n) H:=by have q:aA (aB 2) aC (cI st ir ip0 im n w d1 x7 x8 x9) H=.ok [.int n] H:=rfl;unfold aT;rw[q,Rs.bind_ok];exact IG (by lia) (by lia)
 have hN:(cX 0 (n:Int)).n=n:=by simp[cX]
 let⟨ρ',H',r1,Fy,x7',Cn,e1,e2,e3,e4,e5⟩:=uP (b:=yC) (sg:=aF 7) hi0 (λk ρ H'=>∃(Fy:Nat)(x7':Bk)(Cn:wo),ρ=cI st ir Fy im n w d1 x7' x8 x9/\getL H' Fy=some (Cn.map aG)/\IH ms n Cn/\Cn.length<=6*k/\Fr [] H H')
  (λk ρ H' hk⟨Fy,x7',Cn,e1,e2,e3,e4,e5⟩=>by
   subst e1;rw[hN]at hk;have em:=e5.getL D.m (by simp);have hc:=z66 (st:=st) (ir:=ir) (ip:=Fy) (w:=w) (d1:=d1) (x8:=x8) (x9:=x9) em hk hn hm;have hrl:(iF ms n k).length<=6:=by
    have:=nu (λj=>if ms.getD k 0<ms.getD j 0 then some ((k:Int),(j:Int))else none) (ba n);unfold iF;rw[ki]at this
    lia
   have ek:(0:Int)+(k:Int)=(k:Int):=by lia
   have ep1:=iW (l:=[Gi ((iF ms n k).map aG)]) e2;have eq1:getL (H'++[Gi ((iF ms n k).map aG)]) H'.length=some ((iF ms n k).map aG):=by simp[getL]
   have hz:(Cn.map aG).length+((iF ms n k).map aG).length<=1000000:=by rw[bo,bo];lia
   have hb:yC (cI st ir Fy im n w d1 (some (.int k)) x8 x9) H'=.nx (cI st ir (H'.length+1) im n w d1 (some (.int k)) x8 x9) (H'++[Gi ((iF ms n k).map aG)]++[Gi ((Cn++iF ms n k).map aG)]):=by
    have ha:aU (.ref Fy) (.ref H'.length) (H'++[Gi ((iF ms n k).map aG)])=.ok (.ref (H'.length+1)) (H'++[Gi ((iF ms n k).map aG)]++[Gi ((Cn++iF ms n k).map aG)]):=by show lZ (.ref Fy) (.ref H'.length) (H'++[Gi ((iF ms n k).map aG)])=_;simp only[lZ,ep1,eq1,lim,hz,if_true];simp
    have hal:bQ CM (cI st ir Fy im n w d1 (some (.int k)) x8 x9) H'=.ok (.ref H'.length) (H'++[Gi ((iF ms n k).map aG)]):=by unfold bQ;rw[hc];rfl
    unfold yC aM m2;show((Gz (Gu Fy) H').bind _).thenS _=_;rw[Rs.bind_ok,hal,Rs.bind_ok,ha];rfl
   refine⟨.int (0+(k:Int)),cI st ir Fy im n w d1 (some (.int k)) x8 x9,_,_,rfl,by rw[ek];rfl,hb,H'.length+1,_,Cn++iF ms n k,rfl,by simp[getL],?_,by rw[bw];lia,e5.trans (Hh (T:=[]) (Gj (S:=[])) Gj (by simp)) (by simp)⟩;intro p hp
   rcases cj.mp hp with hp|hp
   ·exact e3 p hp
   ·unfold iF at hp;let⟨j,hj,e⟩:=ka.mp hp
    split at e
    ·rename_i c;cases e;exact⟨k,j,hk,bx.mp hj,c,rfl⟩
    ·cases e) (λ_ _ _=>rfl) ⟨ip0,x7,[],rfl,ep,λp hp=>by simp at hp,by simp,Gy⟩
 exact⟨Fy,x7',H',Cn,by rw[r1,e1],e2,e3,e5⟩
end
def o1:MS:=aM (m2 oU (aB 1) (m2 aN (aQ (aA (mC (.int 0)) (aA (mC (.int 0)) (aA (mC (.int 1)) (aA (mC (.int 2)) (aA (mC (.int 0)) (aA (mC (.int 3)) (aA (mC (.int 1)) (aA (mC (.int 4)) aC))))))))) (aD cA (aA (aB 0) (aA (mC (.int 8)) aC))))) (aF 2)
def o2:MS:=aM (aD oP (aA (mC (.int 1)) (aA (aB 2) aC))) (aF 2)
def o3:MS:=aM (aD BD (aA (aB 0) (aA (aD (f1 nQ) (aA (aB 2) aC)) aC))) (aF 3)
def o4:MS:=aM (aD cA (aA (aB 0) (aA (mC (.int 5)) aC))) (aF 4)
def o5:MS:=aM (aQ aC) (aF 5)
def lS:M Bj:=bO (bP dX (aB 3)) [none,some 0] (aF 0) cH (bB (aD cA (aA (aB 1) (aA (mC (.int 3)) aC))))
def o6:MS:=aM (bQ lS) (aF 6)
def o8:MS:=bK (mB (m2 bR (aB 4) (mC (.int 3)))) (aI (aM (aQ aC) (aF 5)) (gX (aT dI (aA (aB 2) aC)) (aF 7) yC)) bW
def o9:MS:=aO (aL (aA (aB 2) (aA (aD (f1 dS) (aA (aD gD (aA (aB 5) aC)) aC)) aC)))
def oF:kH=aI o1 (aI o2 (aI o3 (aI o4 (aI o5 (aI o6 (aI lR (aI o8 o9))))))):=rfl
section
variable{st:Nat}
def oG(s:St st H):∃(v:Int)(H':Hs),0<=v/\v<=4/\o1 [some (.ref st),some (.int m),x2,x3,x4,x5,x6,x7,x8,x9] H=.nx [some (.ref st),some (.int m),some (.int (m-v)),x3,x4,x5,x6,x7,x8,x9] H'/\St st H'/\Fr [st] H H':=by
 have fA:Fr [] H (H++[Gi [.int 0,.int 0,.int 1,.int 2,.int 0,.int 3,.int 1,.int 4]]):=Gj;have eA:getL (H++[Gi [.int 0,.int 0,.int 1,.int 2,.int 0,.int 3,.int 1,.int 4]]) H.length=some (([0,0,1,2,0,3,1,4]:y').map Gh):=by simp[getL]
 have sA:=s.fr fA (by simp);have lt:=s.lt;have hd:aQ (aA (mC (.int 0)) (aA (mC (.int 0)) (aA (mC (.int 1)) (aA (mC (.int 2)) (aA (mC (.int 0)) (aA (mC (.int 3)) (aA (mC (.int 1)) (aA (mC (.int 4)) aC)))))))) [some (.ref st),some (.int m),x2,x3,x4,x5,x6,x7,x8,x9] H=.ok (.ref H.length) (H++[Gi [.int 0,.int 0,.int 1,.int 2,.int 0,.int 3,.int 1,.int 4]]):=rfl;generalize H++[Gi [.int 0,.int 0,.int 1,.int 2,.int 0,.int 3,.int 1,.int 4]]=HA at fA eA sA hd;let⟨r,H1,r0,r1,t1,f1,s1⟩:=jV 8 sA;have e1:=f1.getL eA (by simp;lia);obtain⟨k,rfl⟩:∃k:Nat,r=k:=⟨r.toNat,by lia⟩
 have hk:k<8:=by lia
 have hx:=sW e1 (k:=k) (by simpa using hk);have hv:0<=([0,0,1,2,0,3,1,4]:y')[k]/\([0,0,1,2,0,3,1,4]:y')[k]<=4:=by
  match k,hk with
  |0,_=>simp
  |1,_=>simp
  |2,_=>simp
  |3,_=>simp
  |4,_=>simp
  |5,_=>simp
  |6,_=>simp
  |7,_=>simp
 generalize ([0,0,1,2,0,3,1,4]:y')[k]=v at hx hv;refine⟨v,H1,hv.1,hv.2,?_,s1,fA.mono (T:=[st]) (by simp)|>.trans f1 (by simp)⟩;have ht:aD cA (aA (aB 0) (aA (mC (.int 8)) aC)) [some (.ref st),some (.int m),x2,x3,x4,x5,x6,x7,x8,x9] HA=.ok (.int k) H1:=by simp[aD,aA,aB,mC,aC,t1]
 unfold o1 aM m2;show((Gz (Gh m) H).bind _).thenS _=_;rw[Rs.bind_ok,hd,Rs.bind_ok,ht,Rs.bind_ok,hx,Rs.bind_ok];rfl
theorem oH{H:Hs}{ir:Nat}{ys:y'}{x1 x2 x4 x5 x6 x7 x8 x9:Bk}(s:St st H)(er:getL H ir=some (ys.map Gh))(hrs:ir≠st)(hl:ys.length<=100):∃(ms:y')(H':Hs),ms.length=ys.length/\o6 [some (.ref st),x1,x2,some (.ref ir),x4,x5,x6,x7,x8,x9] H=.nx [some (.ref st),x1,x2,some (.ref ir),x4,x5,some (.ref H'.length),x7,x8,x9] (H'++[.lst (ms.map Gh)])/\St st H'/\Fr [st] H H':=by
 have hi:bP dX (aB 3) [some (.ref st),x1,x2,some (.ref ir),x4,x5,x6,x7,x8,x9] H=.ok (eJ ir ys.length) H:=by simp[bP,aB,dX,er]
 obtain⟨ρ',H',Fm,h1,a,ms,h2,h3,h4,h5,h6⟩:=AR (src:=eJ ir ys.length) (sg:=aF 0) (t:=cH) (m:=bB (aD cA (aA (aB 1) (aA (mC (.int 3)) aC))))
  (λk ρ H' acc=>∃(a:Bk)(ms:y'),ρ=[a,some (.ref st)]/\acc=ms.map Gh/\ms.length=k/\St st H'/\Fr [st] H H')
  (λk ρ H' acc hk⟨a,ms,e1,e2,e3,e4,e5⟩=>by
   subst e1;subst e2;have Ei:k<ys.length:=hk;obtain⟨r,H1,r0,r1,t1,f1,s1⟩:=jV 3 e4;have er':=e5.getL er (by simpa using hrs);refine⟨.int ys[k],[some (.int ys[k]),some (.ref st)],HZ er' Ei,rfl,.inr ⟨H',[some (.int ys[k]),some (.ref st)],(ms++[r]).map Gh,H1,rfl,?_,_,ms++[r],rfl,rfl,by simp[e3],s1,e5.trans f1 (by simp)⟩⟩;have hz:ms.length<1000000:=by lia
   simp[bB,aD,aA,aB,mC,aC,t1,hz]) (λρ H' acc⟨_,_,_,_,_,_,e5⟩=>IA (e5.getL er (by simpa using hrs))) ys.length 0 [none,some (.ref st)] H [] (by simp[eJ]) ⟨none,[],rfl,rfl,rfl,s,Gy⟩
 refine⟨ms,H',h4,?_,h5,h6⟩;have hc:lS [some (.ref st),x1,x2,some (.ref ir),x4,x5,x6,x7,x8,x9] H=.ok (ms.map Gh) H':=by unfold lS bO;rw[hi,Rs.bind_ok];have hcap:iP [none,some 0] [some (.ref st),x1,x2,some (.ref ir),x4,x5,x6,x7,x8,x9]=[none,some (.ref st)]:=rfl;rw[hcap,show(eJ ir ys.length).n=ys.length from rfl,h1];dsimp only;rw[h3]
 unfold o6 aM bQ;rw[hc];rfl
end
end L2.Mr.Com
namespace L2
end L2
namespace L2.Mr
end L2.Mr
namespace L2.Mr.Cod
open L2.Mr.Com
def mK:MS:=(bK (cJ (bJ (aD kQ (aA (aB 0) aC)))) (rQ 0 (aA (mC (.str "this is no order")) aC)) bW)
def dY:Bi:=bA 1 1 (mK)
open L2.Mr.Com hiding kG gD kH gE kJ iY
open L2.Mr.Com hiding kG gD kH gE kJ iY oB oC oD oE kU lR o1 o2 o3 o4 o5 o6 lS o8 o9 oF oG oH cI
end L2.Mr.Cod
namespace L2.Mr.K01
open L2.Mr.Com
end L2.Mr.K01
namespace L2.Mr.Com
def T0(H:Hs):Dv->Prop
 |.ref i=>∃xs,getL H i=some xs
 |.exc _=>False
 |.scr=>False
 |_=>True
def TK:Nat->Hs->Dv->Prop
 |0,H,d=>T0 H d
 |k+1,H,d=>T0 H d/\∀ds,d=.tup ds->ds.length<=500/\∀x∈ds,TK k H x
theorem TK.t0:∀{k:Nat}{H:Hs}{d:Dv},TK k H d->T0 H d
 |0,_,_,h=>h
 |_+1,_,_,h=>h.1
def TK.tup{ds:Bj}(hl:ds.length<=500)(h:∀x∈ds,TK k H x):TK (k+1) H (.tup ds):=⟨trivial,λ_ e=>by cases e;exact⟨hl,h⟩⟩
def TK.of(h0:T0 H d)(h:∀ds,d≠.tup ds):TK k H d:=by
 cases k with
 |zero=>exact h0
 |succ k=>exact⟨h0,λds e=>absurd e (h ds)⟩
def T0.fr{st:Nat}(h:T0 H d)(f:Fr [st] H H')(s:St st H'):T0 H' d:=by
 cases d with
 |ref i=>
  let⟨xs,e⟩:=h
  by_cases c:i=st
  ·subst c;let⟨a,b,e⟩:=s;exact⟨_,e⟩
  ·exact⟨xs,f.getL e (by simpa using c)⟩
 |_=>exact h
theorem TK.fr{st:Nat}(f:Fr [st] H H')(s:St st H'):∀{k:Nat}{d:Dv},TK k H d->TK k H' d
 |0,_,h=>T0.fr h f s
 |k+1,_,h=>⟨h.1.fr f s,λds e=>⟨(h.2 ds e).1,λx hx=>TK.fr f s ((h.2 ds e).2 x hx)⟩⟩
def pK:Dv->Bool
 |.tup _=>true
 |_=>false
def isInt:Dv->Bool
 |.int _=>true
 |_=>false
section
variable{H:Hs}{d:Dv}{n:Int}
def CN(h:T0 H d):bI gH d H=.ok (.bl (pK d)) H:=by
 cases d with
 |ref i=>let⟨xs,e⟩:=h;simp[bI,jN,e,gH,pK]
 |exc c=>exact h.elim
 |scr=>exact h.elim
 |_=>rfl
def R7(h:T0 H d):bI rX d H=.ok (.bl (match d with|.int _=>true|.bl _=>true|_=>false)) H:=by
 cases d with
 |ref i=>let⟨xs,e⟩:=h;simp[bI,jN,e,rX]
 |exc c=>exact h.elim
 |scr=>exact h.elim
 |_=>rfl
def R8(h:T0 H d):bI nG d H=.ok (.bl (match d with|.bl _=>true|_=>false)) H:=by
 cases d with
 |ref i=>let⟨xs,e⟩:=h;simp[bI,jN,e,nG]
 |exc c=>exact h.elim
 |scr=>exact h.elim
 |_=>rfl
def z68(h:T0 H d):uU [d] H=.ok (.bl (isInt d)) H:=by
 have e1:=R7 h;have e2:=R8 h
 cases d<;>simp[uU,GP,bA,bY,aO,fH,m1,aB,e1,e2,pT,bF,isInt]
def qU(lo hi:Int):Dv->Bool
 |.int x=>decide (lo<=x)&&decide (x<=hi)
 |_=>false
def R9{lo hi:Int}(h:T0 H d):qO [d,.int lo,.int hi] H=.ok (.bl (qU lo hi d)) H:=by
 have w:=z68 h
 cases d with
 |int x=>exact HW
 |_=>simp[qO,A6,bA,bY,aO,fH,aD,aA,aB,aC,w,isInt,bF,qU]
def tB(n:Int)(d:Dv):Bool:=qU 0 (n-1) d
def z69(h:T0 H d):qP [.int n,d] H=.ok (.bl (tB n d)) H:=by simp[qP,GQ,bA,bY,aO,aD,aA,aB,aC,mC,m2,oU,iA,R9 h,bF,tB]
def lT(n:Int):Dv->Bool
 |.tup ys=>ys.all (tB n)
 |_=>false
def SA(h:TK 1 H d):mI [.int n,d] H=.ok (.bl (lT n d)) H:=by
 have e:=CN h.1
 cases d with
 |tup xs=>let⟨hl,hx⟩:=h.2 xs rfl;have h:bO (bP dH (aB 1)) [none,some 0] (aF 0) cH (bB (aD qP (aA (aB 1) (aA (aB 0) aC)))) [some (.int n),some (.tup xs)] H=.ok (xs.filterMap λx=>some (.bl (tB n x))) H:=gN xs (λx=>some (.bl (tB n x))) (λρ=>∃a,ρ=[a,some (.int n)]) rfl (by simp[cG]) ⟨_,rfl⟩ rfl (λk hk ρ⟨a,e⟩=>by subst e;exact⟨xs[k],_,by simp[cG,hk],rfl,⟨_,rfl⟩,rfl,by simp[aD,aA,aB,aC,z69 (hx xs[k] (dj hk))]⟩) (by lia);simp[mI,A8,bA,bY,aO,fH,m1,bI,aB,jN,gH,sU h,bF,lT]
 |_=>simp[mI,A8,bA,bY,aO,fH,m1,aB,e,pK,bF,lT]
def pB(n:Int):Dv->Bool
 |.tup ys=>ys.all (tB n)&&decide (ys.length=2)
 |_=>false
def z6a(ys:Bj):f1 cQ [.tup ys] H=.ok (.int ys.length) H:=rfl
def z6b(h:TK 1 H d):mJ [.int n,d] H=.ok (.bl (pB n d)) H:=by
 have h1:=SA (n:=n) h
 cases d with
 |tup ys=>
  cases q:ys.all (tB n)with
  |false=>simp[mJ,uV,bA,bY,aO,fH,aD,aA,aB,aC,h1,lT,pB,q,bF]
  |true=>
   have e:((ys.length:Int)==2)=decide (ys.length=2):=by rw[dk];simp;lia
   simp[mJ,uV,bA,bY,aO,fH,aD,aA,aB,aC,h1,lT,pB,q,bF,m2,z6a,mC,eq_int,e]
 |_=>simp[mJ,uV,bA,bY,aO,fH,aD,aA,aB,aC,h1,lT,pB,bF]
def z6c(h:TK 2 H (.tup xs)):uW [.int n,.tup xs] H=.ok (.bl (xs.all (pB n))) H:=by let⟨hl,hx⟩:=h.2 xs rfl;have h:bO (bP dH (aB 1)) [none,some 0] (aF 0) cH (bB (aD mJ (aA (aB 1) (aA (aB 0) aC)))) [some (.int n),some (.tup xs)] H=.ok (xs.filterMap λp=>some (.bl (pB n p))) H:=gN xs (λp=>some (.bl (pB n p))) (λρ=>∃a,ρ=[a,some (.int n)]) rfl (by simp[cG]) ⟨_,rfl⟩ rfl (λk hk ρ⟨a,e⟩=>by subst e;exact⟨xs[k],_,by simp[cG,hk],rfl,⟨_,rfl⟩,rfl,by simp[aD,aA,aB,aC,z6b (hx xs[k] (dj hk))]⟩) (by lia);simp[uW,GR,bA,bY,aO,sU h,bF]
def sX:Dv->Option (Int×Int)
 |.tup [.int a,.int b]=>some (a,b)
 |_=>none
def z6d(h:pB n x=true):∃p,x=aG p/\sX x=some p:=by
 match x,h with
 |.tup [.int a,.int b],_=>exact⟨(a,b),rfl,rfl⟩
 |.tup [a,b],h=>
  simp[pB]at h;let⟨h1,h2⟩:=h
  cases a<;>first|(cases h1;done)|skip
  cases b<;>first|(cases h2;done)|skip
  exact⟨_,rfl,rfl⟩
 |.tup [],h=>simp[pB]at h
 |.tup [_],h=>simp[pB]at h
 |.tup (_::_::_::_),h=>simp[pB]at h
theorem SD:∀{xs:Bj},(∀x∈xs,∃p,x=aG p/\sX x=some p)->xs=(xs.filterMap sX).map aG
 |[],_=>rfl
 |x::xs,h=>by let⟨p,e,q⟩:=h x (by simp);rw[List.filterMap_cons_some q,da,<-SD λy hy=>h y (by simp[hy]),<-e]
def hW:Dv->Bool
 |.tup [.int n,.tup xs]=>xs.all (pB n)&&vH n (xs.filterMap sX)
 |_=>false
def jE{ds:Bj}(h:ds.length≠2):∃L:Int,f1 cQ [.tup ds] H=.ok (.int L) H/\bZ (.int L) (.int 2) H=.ok (.bl true) H:=by
 refine⟨ds.length,rfl,?_⟩;have:((ds.length:Int)==2)=false:=by simp;lia
 simp[bZ,cD,bD,bG,this]
def II{ds:Bj}(h:ds.length≠2):kQ [.tup ds] H=.ok (.bl false) H:=by let⟨L,hlen,hne⟩:=jE (H:=H) h;have e:bI gH (.tup ds) H=.ok (.bl true) H:=rfl;simp[kQ,sM,bA,bY,aI,bK,eR,cJ,bJ,m1,aB,mB,m2,aD,aA,aC,mC,aO,e,fO,hlen,hne,dW,bF]
def IJ{ds:Bj}(h:ds.length≠2):hW (.tup ds)=false:=by
 unfold hW
 split
 ·rename_i e;cases e;simp at h
 ·rfl
def z6e(h:TK 3 H d):kQ [d] H=.ok (.bl (hW d)) H:=by
 have e:=CN h.1
 cases d with
 |tup ds=>
  let⟨hl,hx⟩:=h.2 ds rfl
  match ds,hl,hx,e,h with
  |[a,b],hl,hx,e,h=>
   have ha:=hx a (by simp);have hb:=hx b (by simp);have b1:=R9 (lo:=1) (hi:=6) ha.t0;have b2:=CN hb.t0;have hlen:f1 cQ [.tup [a,b]] H=.ok (.int 2) H:=rfl
   cases q1:qU 1 6 a with
   |false=>
    rw[q1]at b1;have:hW (.tup [a,b])=false:=by
     cases a with
     |int n=>
      cases b with
      |tup xs=>
       have:¬(1<=n/\n<=6):=by simpa[qU]using q1
       simp only[hW,Bool.and_eq_false_iff];right;unfold vH
       by_cases c:1<=n
       ·have:¬n<=6:=λc'=>this ⟨c,c'⟩;simp[this]
       ·simp[c]
      |_=>rfl
     |_=>rfl
    rw[this];simp[kQ,sM,bA,bY,aI,bK,eR,cJ,bJ,m1,aB,e,pK,fO,mB,m2,aD,aA,aC,hlen,mC,bZ,cD,bD,bG,dW,bW,aM,cC,aV,aF,cE,b1,aO,bF]
   |true=>
    rw[q1]at b1
    cases a with
    |int n=>
     cases b with
     |tup xs=>
      have p1:=z6c (n:=n) hb
      cases q2:xs.all (pB n)with
      |false=>rw[q2]at p1;simp[hW,q2,kQ,sM,bA,bY,aI,bK,eR,cJ,bJ,m1,aB,e,b2,pK,fO,mB,m2,aD,aA,aC,hlen,mC,bZ,cD,bD,bG,dW,bW,aM,cC,aV,aF,cE,b1,p1,aO,bF]
      |true=>
       have ex:=SD λx hx=>z6d (dv.mp q2 x hx);have hle:(xs.filterMap sX).length<=900:=by have:=nu sX xs;have:=(hb.2 xs rfl).1;lia
       have:=RV (H:=H) (n:=n) (ps:=xs.filterMap sX) hle;rw[<-ex]at this;rw[this];simp[hW,q2]
     |_=>simp[hW,kQ,sM,bA,bY,aI,bK,eR,cJ,bJ,m1,aB,e,b2,pK,fO,mB,m2,aD,aA,aC,hlen,mC,bZ,cD,bD,bG,dW,bW,aM,cC,aV,aF,cE,b1,aO,bF]
    |_=>cases q1
  |[],hl,hx,e,h=>exact(II (by simp)).trans (by rw[IJ (by simp)])
  |[a],hl,hx,e,h=>exact(II (by simp)).trans (by rw[IJ (by simp)])
  |a::b::c::r,hl,hx,e,h=>exact(II (by simp)).trans (by rw[IJ (by simp)])
 |_=>simp[kQ,sM,bA,bY,aI,bK,eR,cJ,bJ,m1,aB,e,pK,fO,mC,aO,bF,hW]
end
def T0.fr0(h:T0 H d)(f:Fr [] H H'):T0 H' d:=by
 cases d with
 |ref i=>let⟨xs,e⟩:=h;exact⟨xs,f.getL e (by simp)⟩
 |_=>exact h
theorem TK.fr0(f:Fr [] H H'):∀{k:Nat}{d:Dv},TK k H d->TK k H' d
 |0,_,h=>T0.fr0 h f
 |k+1,_,h=>⟨h.1.fr0 f,λds e=>⟨(h.2 ds e).1,λx hx=>TK.fr0 f ((h.2 ds e).2 x hx)⟩⟩
def SE(P:Ev->Hs->Prop):Prop:=∀ρ H H',P ρ H->Fr [] H H'->P ρ H'
def Wr(P:Ev->Hs->Prop)(k:Nat)(m:M Dv):Prop:=∀ρ H,P ρ H->∃d H',m ρ H=.ok d H'/\Fr [] H H'/\TK k H' d
def oI(P:Ev->Hs->Prop)(k n:Nat)(ms:M Bj ):Prop:=∀ρ H,P ρ H->∃ds H',ms ρ H=.ok ds H'/\Fr [] H H'/\ds.length=n/\∀x∈ds,TK k H' x
section
variable{P:Ev->Hs->Prop}{k n m':Nat}{m:M Dv}{ms:M Bj}
def IK:oI P k 0 aC:=λρ H _=>⟨[],H,rfl,Gy,rfl,λx hx=>by cases hx⟩
def IL(hP:SE P)(h:Wr P k m)(hs:oI P k n ms):oI P k (n+1) (aA m ms):=λρ H p=>by
 let⟨d,H1,e1,f1,t1⟩:=h ρ H p;let⟨ds,H2,e2,f2,l2,t2⟩:=hs ρ H1 (hP ρ H H1 p f1);refine⟨d::ds,H2,?_,f1.trans f2 (by simp),by simp[l2],λx hx=>?_⟩
 ·unfold aA;rw[e1,Rs.bind_ok,e2,Rs.bind_ok]
 ·rcases az.mp hx with rfl|hx
  ·exact t1.fr0 f2
  ·exact t2 x hx
def yD(h:∀ρ H,P ρ H->∃d,m ρ H=.ok d H/\TK k H d):Wr P k m:=λρ H p=>let ⟨d,e,t⟩:=h ρ H p;⟨d,H,e,Gy,t⟩
def IM:Wr P k (mC (.int i)):=yD λρ H _=>⟨_,rfl,TK.of trivial λ_ e=>by cases e⟩
def IP:Wr P k (mC (.bl i)):=yD λρ H _=>⟨_,rfl,TK.of trivial λ_ e=>by cases e⟩
def IQ:Wr P k (mC .non):=yD λρ H _=>⟨_,rfl,TK.of trivial λ_ e=>by cases e⟩
def IS{s}:Wr P k (mC (.str s)):=yD λρ H _=>⟨_,rfl,TK.of trivial λ_ e=>by cases e⟩
def IT:Wr P k (mC .edc):=yD λρ H _=>⟨_,rfl,TK.of trivial λ_ e=>by cases e⟩
def CO(h:oI P k n ms)(hn:n<=500):Wr P (k+1) (aL ms):=λρ H p=>by let⟨ds,H1,e1,f1,l1,t1⟩:=h ρ H p;refine⟨.tup ds,H1,?_,f1,TK.tup (by lia) t1⟩;unfold aL lim;rw[e1,Rs.bind_ok,if_pos (by lia)]
def IU(h:oI P 0 n ms)(hn:n<=500):Wr P 0 (aL ms):=λρ H p=>let ⟨d,H',e,f,t⟩:=CO h hn ρ H p;⟨d,H',e,f,t.1⟩
def IV(h:oI P 0 n ms)(hn:n<=500):Wr P k (aQ ms):=λρ H p=>by let⟨ds,H1,e1,f1,l1,t1⟩:=h ρ H p;refine⟨.ref H1.length,H1++[.lst ds],?_,f1.trans (T:=[]) Gj (by simp),TK.of ⟨ds,by simp[getL]⟩ λ_ e=>by cases e⟩;unfold aQ lim;rw[e1,Rs.bind_ok,if_pos (by lia)]
end
def yE:M Bj:=(aA (mC .non) (aA (mC (.int 0)) (aA (aL aC) (aA (aL (aA (mC (.int 0)) (aA (aL aC) aC))) (aA (aL (aA (mC (.int 7)) (aA (aL aC) aC))) (aA (aL (aA (mC (.bl true)) (aA (aL aC) aC))) (aA (aL (aA (mC (.int 2)) (aA (aQ aC) aC))) (aA (aQ (aA (mC (.int 2)) (aA (aL aC) aC))) (aA (aL (aA (mC (.int 2)) (aA (aL (aA (aL (aA (mC (.int 0)) (aA (mC (.int 1)) aC))) (aA (aL (aA (mC (.int 0)) (aA (mC (.int 1)) aC))) aC))) aC))) (aA (aL (aA (mC (.int 2)) (aA (aL (aA (aL (aA (mC (.int 1)) (aA (mC (.int 0)) aC))) (aA (aL (aA (mC (.int 0)) (aA (mC (.int 1)) aC))) aC))) aC))) aC))))))))))
def yF:M Bj:=(aA (aL (aA (mC (.int 3)) (aA (aL (aA (aL (aA (mC (.int 0)) (aA (mC (.int 1)) aC))) (aA (aL (aA (mC (.int 1)) (aA (mC (.int 2)) aC))) aC))) aC))) (aA (aL (aA (mC (.int 2)) (aA (aL (aA (aL (aA (mC (.int 0)) (aA (mC (.int 0)) aC))) aC)) aC))) (aA (aL (aA (mC (.int 2)) (aA (aL (aA (aL (aA (mC (.int 0)) (aA (mC (.int 2)) aC))) aC)) aC))) (aA (aL (aA (mC (.int 2)) (aA (aL (aA (aL (aA (mC (.int 0)) (aA (mC (.bl true)) aC))) aC)) aC))) (aA (aL (aA (mC (.int 2)) (aA (aL (aA (aL (aA (mC (.int 0)) (aA (mC (.int 1)) (aA (mC (.int 1)) aC)))) aC)) aC))) (aA (mC .edc) aC))))))
def yG:M Bj:=(aA (mC (.str "2:")) (aA (aL (aA (mC (.int 2)) (aA (aL (aA (mC (.int 0)) (aA (mC (.int 1)) aC))) aC))) (aA (aL (aA (mC (.int 3)) (aA (aL (aA (aL (aA (mC (.int 0)) (aA (mC (.int 2)) aC))) (aA (aL (aA (mC (.int 0)) (aA (mC (.int 1)) aC))) aC))) aC))) (aA (aL (aA (mC (.int 2)) (aA (mC .non) aC))) (aA (aL (aA (mC (.int 2)) (aA (aL aC) (aA (aL aC) aC)))) (aA (aL (aA (mC (.int 2)) aC)) (aA (aL (aA (mC (.int 2)) (aA (aL (aA (aQ (aA (mC (.int 0)) (aA (mC (.int 1)) aC))) aC)) aC))) (aA (aL (aA (mC (.int 2)) (aA (aL (aA (mC .non) aC)) aC))) aC))))))))
def z6f:kJ=aI (aM (aQ yE) (aF 1)) (aI (aM (m2 aU (aB 1) (aQ yF)) (aF 1)) (aI (aM (m2 aU (aB 1) (aQ yG)) (aF 1)) (aO (m2 aN (aB 1) (aD cA (aA (aB 0) (aA (mC (.int 24)) aC))))))):=rfl
def CP{st i j:Nat}{ml:M Dv}(hv:aB st ρ H=.ok (.ref i) H)(e1:ml ρ H=.ok (.ref j) H1)(e2:aU (.ref i) (.ref j) H1=.ok (.ref H1.length) H2):m2 aU (aB st) ml ρ H=.ok (.ref H1.length) H2:=by unfold m2;rw[hv,Rs.bind_ok,e1,Rs.bind_ok,e2]
end L2.Mr.Com
namespace L2.Mr.Cod
open L2.Mr.Com hiding kG gD kH gE kJ iY oB oC oD oE kU lR o1 o2 o3 o4 o5 o6 lS o8 o9 oF oG oH cI
section
variable{H:Hs}
def addL(e1:getL H i=some xs)(e2:getL H j=some ys)(hl:xs.length+ys.length<=500):aU (.ref i) (.ref j) H=.ok (.ref H.length) (H++[.lst (xs++ys)]):=by simp[aU,lZ,e1,e2,lim];lia
def ixL(e:getL H i=some ds)(hj:j<ds.length):aN (.ref i) (.int j) H=.ok ds[j] H:=by
 have h1:eO ds.length (j:Int)=some j:=by unfold eO;rw[if_pos (by lia),if_pos (by lia)];simp
 have h2:gQ ds (j:Int)=some ds[j]:=by unfold gQ;rw[h1];simp[hj]
 simp only[aN,gA,gS,e,lA,h2,if_true]
def last_get:getL (H++[.lst x]) H.length=some x:=by simp[getL]
end
end L2.Mr.Cod
namespace L2.Mr
end L2.Mr
namespace L2.Mr.Cod
open L2.Mr.Com hiding kG gD kH gE kJ iY oB oC oD oE kU lR o1 o2 o3 o4 o5 o6 lS o8 o9 oF oG oH cI
section
variable{n:Nat}{ps:wo}{r:Int}{H:Hs}{i j:Nat}{fs:y'}{nd:List (Int×Int×Int)}{d:Dv}
def need_ok(o:Bt n ps):dY [aH n ps] H=.ok .non H:=by simp[dY,mK,bA,bY,bK,cJ,bJ,aD,aA,aB,aC,z5m o,fO,bW,bF]
def need_bad(h:TK 3 H d)(hb:hW d=false):dY [d] H=.ex 0 H:=by have e:=z6e h;rw[hb]at e;simp[dY,mK,bA,bY,bK,cJ,bJ,aD,aA,aB,aC,e,fO,rQ,mC,bF]
end
end L2.Mr.Cod
namespace L2.Mr.Com
end L2.Mr.Com
namespace L2.Mr.Gen
open L2.Mr.Com
def IW{t u:M Bool}(e:t ρ h=.ok true h1):eR t u ρ h=.ok true h1:=by unfold eR;rw[e];rfl
def vL{t u:M Bool}(e:t ρ h=.ok false h1):eR t u ρ h=u ρ h1:=by unfold eR;rw[e];rfl
def qV{t:M Bool}(e:t ρ h=.ok b h1):cJ t ρ h=.ok (!b) h1:=by unfold cJ;rw[e];rfl
def qW(xs ys:Bj)(hl:xs.length+ys.length<=1000):aU (.tup xs) (.tup ys) H=.ok (.tup (xs++ys)) H:=by
 cases xs with
 |nil=>rfl
 |cons x xs=>
  have:(x::xs).length+ys.length<=1000000:=by lia
  have:xs.length+1+ys.length<=1000000:=by simp at this;lia
  simp[aU,lZ,lim,this]
def z6g(ds:Bj)(k:Nat):lE ds none (some (k:Int))=ds.take k:=by unfold lE;rw[HT.sIx_none,HT.sIx_nat];simp
def SF(ds:Bj)(k:Nat):lE ds (some (k:Int)) none=ds.drop k:=by
 unfold lE;rw[HT.sIx_none,HT.sIx_nat]
 by_cases h:k<=ds.length
 ·rw[Nat.min_eq_left h];exact um (by simp)
 ·rw[Nat.min_eq_right (by lia),Ac (aq _),Ac (by lia)];simp
section
variable{H:Hs}{xs:y'}
def vM(ns:y'):bE fI (ns.map Gh)=some ns:=by
 induction ns with
 |nil=>rfl
 |cons x xs ih=>simp[bE,fI,ih]
theorem CQ:∀{ds:Bj},ds.all (L2.Mr.Com.tB n)=true->∃ns:y',ds=ns.map Gh/\∀x∈ns,0<=x/\x<n
 |[],_=>⟨[],rfl,λ_ z=>nomatch z⟩
 |d::ds,h=>by
  rw[List.all_cons,cq]at h;obtain⟨ns,rfl,h2⟩:=CQ h.2
  cases d with
  |int i=>
   have h1:=h.1;simp only[L2.Mr.Com.tB,qU,cq,decide_eq_true_eq]at h1;refine⟨i::ns,rfl,λx hx=>?_⟩
   rcases az.mp hx with rfl|hx
   ·lia
   ·exact h2 x hx
  |_=>simp[L2.Mr.Com.tB,qU]at h
theorem z6h{n:Int}{ns:y'}(h:∀x∈ns,0<=x/\x<n):(ns.map Gh).all (L2.Mr.Com.tB n)=true:=by
 rw[dv];intro d hd;obtain⟨x,hx,rfl⟩:=cf.mp hd;have:=h x hx;simp only[L2.Mr.Com.tB,qU,cq,decide_eq_true_eq]
 lia
def yH{m:M Dv}(e:m ρ H=.ok (.int L) H)(h0:0<=L)(h1:L<=1000):aT dI (aA m aC) ρ H=.ok (cX 0 L) H:=by
 have hr:jL L=true:=by simp[jL];lia
 simp[aT,aA,e,aC,dI,hr]
def z6i(ea:bQ m ρ H=.ok (.ref i) H1)(q:bR (.ref i) (.ref H1.length) (H1++[.lst []])=.ok (.bl b) (H1++[.lst []])):bF (aO (m2 bR (bQ m) (aQ aC)) ρ H)=.ok (.bl b) (H1++[.lst []]):=by generalize bQ m=M at ea;simp[aO,m2,ea,aQ,aC,lim,q,bF]
def IX(e:aB i ρ H=.ok (.tup ds) H):aD (f1 cQ) (aA (aB i) aC) ρ H=.ok (.int ds.length) H:=by simp[aD,aA,e,aC,f1,cQ,gA,jK,gK]
def CS{α:Type}(p:α->Bool)(f:α->Dv)(l:List α):(l.filterMap λq=>if p q then some (f q)else none)=(l.filter p).map f:=by
 induction l with
 |nil=>rfl
 |cons k l ih=>
  rw[ck,ku]
  cases c:p k with
  |true=>simp only[if_true,da];rw[ih]
  |false=>simp only[cy,if_false];exact ih
def z6j{mi:M Src}(e:mi ρ H=.ok src H1)(h:eS src sg t m src.n 0 (iP cap ρ) H1 []=.ok (ρ',acc) H'):bO mi cap sg t m ρ H=.ok acc H':=by unfold bO;rw[e,Rs.bind_ok,h]
def qX{m:M Dv}{v:Dv}(e:m ρ H=.ok v H')(hs:aF i v ρ=some ρ1):aM m (aF i) ρ H=.nx ρ1 H':=by simp[aM,e,hs]
def IY{m:M Bj}(e:m ρ H=.ok ds H')(hs:aF i (.ref H'.length) ρ=some ρ1):aM (bQ m) (aF i) ρ H=.nx ρ1 (H'++[.lst ds]):=by
 have ea:bQ m ρ H=.ok (.ref H'.length) (H'++[.lst ds]):=by unfold bQ;rw[e];rfl
 exact qX ea hs
def jG{f:Dv->Dv->Hs->Rs Dv}{ma mb:M Dv}(ha:ma ρ H=.ok x H1)(hb:mb ρ H1=.ok y H2)(hf:f x y H2=.ok z H3):m2 f ma mb ρ H=.ok z H3:=by unfold m2;rw[ha,Rs.bind_ok,hb,Rs.bind_ok,hf]
def TK.upd{xs ys:Bj}(e:getL H j=some xs):∀{k:Nat}{d:Dv},TK k H d->TK k (H.set j (.lst ys)) d:=by
 have t0:∀d,T0 H d->T0 (H.set j (.lst ys)) d:=λd h=>by
  cases d with
  |ref i=>
   let⟨zs,ez⟩:=h
   by_cases c:j=i
   ·subst c;exact⟨_,lJ e⟩
   ·exact⟨zs,by rw[uO c];exact ez⟩
  |_=>exact h
 intro k
 induction k with
 |zero=>exact λ{d}h=>t0 d h
 |succ k ih=>exact λ{d}h=>⟨t0 d h.1,λds e=>⟨(h.2 ds e).1,λx hx=>ih ((h.2 ds e).2 x hx)⟩⟩
end
end L2.Mr.Gen
namespace L2.Mr.K05
open L2.Mr.Com L2.Mr.Gen
def need_ok(o:Bt n ps):dY [aH n ps] H=.ok .non H:=Cod.need_ok o
def ix(ns:y')(k:Int):Nat:=(fP k ns).getD 0
theorem yI:∀{ns:y'},k∈ns->fP k ns=some (ix ns k)
 |[],h=>nomatch h
 |n::ns,h=>by
  unfold ix fP
  by_cases c:n=k
  ·rw[if_pos c];rfl
  ·rw[if_neg c];have hm:k∈ns:=(az.mp h).elim (λz=>absurd z.symm c) id;rw[yI hm];rfl
def sY(h:k∈ns):ix ns k<ns.length:=(bf.mp (xI (yI h)).1).1
def vN(ha:a∈ns)(hb:b∈ns)(e:ix ns a=ix ns b):a=b:=by have h1:=(xI (yI ha)).1;have h2:=(xI (yI hb)).1;rw[e,h2]at h1;exact(cw h1).symm
def qY(h:k∈ns):ix (ns++ms) k=ix ns k:=by
 have key:∀{ns:y'},k∈ns->fP k (ns++ms)=fP k ns:=by
  intro ns
  induction ns with
  |nil=>intro h;cases h
  |cons x xs ih=>
   intro h;show fP k (x::(xs++ms))=_;unfold fP
   by_cases c:x=k
   ·rw[if_pos c,if_pos c]
   ·rw[if_neg c,if_neg c,ih ((az.mp h).elim (λz=>absurd z.symm c) id)]
 unfold ix;rw[key h]
def CT(h:k∉ns):ix (ns++[k]) k=ns.length:=by
 have key:∀{ns:y'},k∉ns->fP k (ns++[k])=some ns.length:=by
  intro ns
  induction ns with
  |nil=>intro _;show fP k [k]=some 0;unfold fP;rw[if_pos rfl]
  |cons x xs ih=>intro h;show fP k (x::(xs++[k]))=_;unfold fP;rw[if_neg (λz=>h (by rw[z];exact bh ..)),ih (λz=>h (au _ z))];rfl
 unfold ix;rw[key h];rfl
section
variable{n:Nat}{ps:wo}{H:Hs}{ns:y'}{ρ:Ev}
def sZ{me:M Dv}(h1:aB a ρ=λH=>.ok (.tup (ns.map Gh)) H)(h2:me ρ H=.ok (.int k) H)(hk:k∈ns):iV (aB a) me ρ H=.ok (.int (ix ns k)) H:=by simp[iV,h1,N2,h2,F2,vM,yI hk]
def Cg:x∈cO n↔0<=x/\x<n:=by
 unfold cO;rw[cf];constructor
 ·rintro ⟨k,hk,rfl⟩
  have:=bx.mp hk
  lia
 ·intro h;exact⟨x.toNat,bx.mpr (by lia),by lia⟩
def rng_up:(cO n).Pairwise (·<·):=by unfold cO;exact sv.mpr ((pb).imp λh=>by lia)
def Co:(cO n).Nodup:=rng_up.imp λh=>by lia
theorem mQ(hr:∀x∈ns,0<=x/\x<n)(nd:ns.Nodup)(hl:ns.length=n){x:Int}(h0:0<=x)(h1:x<n):x∈ns:=by
 by_cases c:x∈ns
 ·exact c
 ·exfalso
  have nd':(x::ns).Nodup:=jr.mpr ⟨c,nd⟩;have:=nd'.length_le_of_subset (l₂:=cO n) λy hy=>by
   rcases az.mp hy with rfl|hy
   ·exact Cg.mpr ⟨h0,h1⟩
   ·exact Cg.mpr (hr y hy)
  simp[cO]at this
  lia
theorem pL(hr:∀x∈ns,0<=x/\x<n)(nd:ns.Nodup)(hl:ns.length=n):ns.Perm (cO n):=by
 refine List.perm_iff_count.mpr λa=>?_;rw[nd.count,Co.count];have:a∈ns↔a∈cO n:=⟨λz=>Cg.mpr (hr a z),λz=>mQ hr nd hl (Cg.mp z).1 (Cg.mp z).2⟩
 by_cases c:a∈ns
 ·rw[if_pos c,if_pos (this.mp c)]
 ·rw[if_neg c,if_neg λz=>c (this.mpr z)]
def rowP(n:Nat)(ps:wo)(ns:y'):Bool:=decide (ns.length=n)&&decide ns.Nodup&&ps.all λq=>decide (ix ns q.1<ix ns q.2)
def dQ(n:Nat)(ps:wo)(d:Dv):Bool:=match d with
 |.tup ds=>lT n d&&(match bE fI ds with
  |some ns=>rowP n ps ns
  |none=>false)
 |_=>false
def rowB_ints(hr:∀x∈ns,0<=x/\x<n):dQ n ps (.tup (ns.map Gh))=rowP n ps ns:=by have:lT n (.tup (ns.map Gh))=true:=z6h hr;simp[dQ,this,vM]
def rC:M Bool:=eR (cJ (bJ (aD mI (aA (aB 2) (aA (aB 1) aC))))) (eR (mB (m2 bZ (aD (f1 cQ) (aA (aB 1) aC)) (aB 2))) (mB (m2 bZ (aD (f1 pA) (aA (aB 1) aC)) (aB 2))))
def rL:M Bj:=bO (bP dH (aB 3)) [none,none,some 1] (cC 2 (aV (aF 0) (aV (aF 1) cE))) cH (bB (m2 gC (iV (aB 2) (aB 0)) (iV (aB 2) (aB 1))))
def SG:nV=aI (bN (aD dY (aA (aB 0) aC))) (aI (aM (aB 0) (cC 2 (aV (aF 2) (aV (aF 3) cE)))) (aI (bK rC (aO (mC (.bl false))) bW) (aO (mL kB rL)))):=rfl
abbrev jW(n:Nat)(ps:wo)(d:Dv):Ev:=[some (aH n ps),some d,some (.int n),some (.tup (ps.map aG))]
def z6k(o:Bt n ps)(hm:∀x:Int,0<=x->x<n->x∈ns):mL kB rL (jW n ps (.tup (ns.map Gh))) H=.ok (.bl (ps.all λq=>decide (ix ns q.1<ix ns q.2))) H:=by
 refine sU (H1:=H) (xs:=ps) (f:=λq=>decide (ix ns q.1<ix ns q.2)) ?_;refine gN ps _ (λρ=>∃a b,ρ=[a,b,some (.tup (ns.map Gh))]) (src:=cG (ps.map aG)) rfl (by simp[cG]) ⟨_,_,rfl⟩ rfl (λk hk ρ⟨a,b,e⟩=>by
  subst e;refine⟨aG ps[k],[some (.int ps[k].1),some (.int ps[k].2),some (.tup (ns.map Gh))],by simp[cG,hk],rfl,⟨_,_,rfl⟩,rfl,?_⟩;have r:=o.rng ps[k] (dj hk);have i1:=sZ (H:=H) (ns:=ns) (a:=2) (me:=aB 0) (ρ:=[some (.int ps[k].1),some (.int ps[k].2),some (.tup (ns.map Gh))]) rfl rfl (hm _ r.1 r.2.1);have i2:=sZ (H:=H) (ns:=ns) (a:=2) (me:=aB 1) (ρ:=[some (.int ps[k].1),some (.int ps[k].2),some (.tup (ns.map Gh))]) rfl rfl (hm _ r.2.2.1 r.2.2.2);have hd:decide ((ix ns ps[k].1:Int)<(ix ns ps[k].2:Int))=decide (ix ns ps[k].1<ix ns ps[k].2):=by rw[dk];simp
  have hl:gC (.int (ix ns ps[k].1:Int)) (.int (ix ns ps[k].2:Int)) H=.ok (.bl (decide (ix ns ps[k].1<ix ns ps[k].2))) H:=by simp only[gC,hd]
  exact jG i1 i2 hl) (by have:=o.len;lia)
theorem z6l(o:Bt n ps){d:Dv}(h:TK 1 H d):lO [aH n ps,d] H=.ok (.bl (dQ n ps d)) H:=by
 have hn:=need_ok (H:=H) o;have ha:=SA (n:=(n:Int)) h;have w1:bN (aD dY (aA (aB 0) aC)) [some (aH n ps),some d,none,none] H=.nx [some (aH n ps),some d,none,none] H:=by generalize aH n ps=z at hn;simp[bN,aD,aA,aB,aC,hn]
 have w2:aM (aB 0) (cC 2 (aV (aF 2) (aV (aF 3) cE))) [some (aH n ps),some d,none,none] H=.nx (jW n ps d) H:=rfl;have t1:bJ (aD mI (aA (aB 2) (aA (aB 1) aC))) (jW n ps d) H=.ok (lT n d) H:=by generalize aH n ps=z;simp[jW,bJ,aD,aA,aB,aC,ha,fO]
 have stop:rC (jW n ps d) H=.ok true H->dQ n ps d=false->lO [aH n ps,d] H=.ok (.bl (dQ n ps d)) H:=λe z=>by show bF (nV [some (aH n ps),some d,none,none] H)=_;rw[SG,aX w1,aX w2,z];unfold aI;rw[nJ e];rfl
 cases ht:lT n d with
 |false=>
  rw[ht]at t1;refine stop (IW (qV t1)) ?_
  cases d with
  |tup ds=>simp[dQ,ht]
  |_=>rfl
 |true=>
  rw[ht]at t1
  cases d with
  |tup ds=>
   obtain⟨hl,_⟩:=h.2 ds rfl;obtain⟨ns,rfl,hr⟩:=CQ (show ds.all (Com.tB n)=true from ht);have hl':ns.length<=500:=by simpa using hl
   have hB:=rowB_ints (ps:=ps) hr;have sl:pA (.tup (ns.map Gh)) H=.ok (.int (nU ns)) H:=by
    have:ns.length<1000:=by lia
    simp[pA,vM,this]
   have hm:=z2m ns;have ne:∀a b:Nat,bZ (.int (a:Int)) (.int (b:Int)) H=.ok (.bl (!decide (a=b))) H:=λa b=>by
    have:((a:Int)==(b:Int))=decide (a=b):=by rw[dk];simp;lia
    simp[bZ,cD,bD,bG,this]
   have t2:mB (m2 bZ (aD (f1 cQ) (aA (aB 1) aC)) (aB 2)) (jW n ps (.tup (ns.map Gh))) H=.ok (!decide (ns.length=n)) H:=by
    have e:=IX (H:=H) (ds:=ns.map Gh) (i:=1) (ρ:=jW n ps (.tup (ns.map Gh))) rfl;have hz:(ns.map Gh).length=ns.length:=by simp
    rw[hz]at e;have q:=ne ns.length n;have v2:aB 2 (jW n ps (.tup (ns.map Gh))) H=.ok (.int n) H:=rfl;generalize aD (f1 cQ) (aA (aB 1) aC)=M at e;generalize jW n ps (.tup (ns.map Gh))=r at e v2;simp[mB,m2,e,v2,q,dW]
   have t3:mB (m2 bZ (aD (f1 pA) (aA (aB 1) aC)) (aB 2)) (jW n ps (.tup (ns.map Gh))) H=.ok (!decide (nU ns=n)) H:=by
    have e:aD (f1 pA) (aA (aB 1) aC) (jW n ps (.tup (ns.map Gh))) H=.ok (.int (nU ns)) H:=by generalize aH n ps=z;generalize ns.map Gh=ys at sl;simp[jW,aD,aA,aB,aC,f1,sl]
    have q:=ne (nU ns) n;have v2:aB 2 (jW n ps (.tup (ns.map Gh))) H=.ok (.int n) H:=rfl;generalize aD (f1 pA) (aA (aB 1) aC)=M at e;generalize jW n ps (.tup (ns.map Gh))=r at e v2;simp[mB,m2,e,v2,q,dW]
   by_cases c:ns.length=n/\ns.Nodup
   ·have c1:(!decide (ns.length=n))=false:=by simp[c.1]
    have c2:(!decide (nU ns=n))=false:=by have:=hm.mpr c.2;simp;lia
    rw[c1]at t2;rw[c2]at t3;have e:rC (jW n ps (.tup (ns.map Gh))) H=.ok false H:=by unfold rC;rw[vL (qV t1),vL t2,t3]
    have hall:=z6k (H:=H) o (λx h0 h1=>mQ hr c.2 c.1 h0 h1);show bF (nV [some (aH n ps),some (.tup (ns.map Gh)),none,none] H)=_;rw[SG,aX w1,aX w2,aX (m:=bK _ _ _) (by rw[jQ e];rfl),hB];unfold aO;rw[hall];simp[rowP,c.1,c.2,bF]
   ·refine stop ?_ ?_
    ·unfold rC;rw[vL (qV t1)]
     by_cases c1:ns.length=n
     ·have c1':(!decide (ns.length=n))=false:=by simp[c1]
      rw[c1']at t2;rw[vL t2,t3];have:nU ns≠n:=λz=>c ⟨c1,hm.mp (by lia)⟩;simp[this]
     ·have c1':(!decide (ns.length=n))=true:=by simp[c1]
      rw[c1']at t2;exact IW t2
    ·rw[hB];unfold rowP
     by_cases c1:ns.length=n
     ·have c3:¬ns.Nodup:=λz=>c ⟨c1,z⟩;simp[c3]
     ·simp[c1]
  |_=>cases ht
end
def PU(x:Dv):Prop:=∀H:Hs,∃t,bD 29 H x=some t
section
variable{n:Nat}{ps:wo}{H:Hs}{ns:y'}
def z6m(h:∀x∈xs,PU x)(H:Hs):∃ts,bE (bD 29 H) xs=some ts/\(ts=[]↔xs=[]):=by
 induction xs with
 |nil=>exact⟨[],rfl,by simp⟩
 |cons x xs ih=>let⟨t,e⟩:=h x (bh ..) H;let⟨ts,e2,_⟩:=ih λy hy=>h y (au _ hy);exact⟨t::ts,by simp[bE,e,e2],by simp⟩
def yJ(e:getL H i=some xs)(e2:bE (bD k H) xs=some ts):bD (k+1) H (.ref i)=some (.lst ts):=by simp only[bD,e,e2]
def z6n(e:getL H i=some xs)(h:∀x∈xs,PU x):bZ (.ref i) (.ref H.length) (H++[.lst []])=.ok (.bl (!decide (xs=[]))) (H++[.lst []]):=by
 have e1:=iW (l:=[Gi []]) e;have e2:getL (H++[Gi []]) H.length=some []:=Cod.last_get;let⟨ts,e3,e4⟩:=z6m h (H++[Gi []]);have p1:bD cD (H++[Gi []]) (.ref i)=some (.lst ts):=yJ (k:=29) e1 e3;have p2:bD cD (H++[Gi []]) (.ref H.length)=some (.lst []):=yJ (k:=29) (ts:=[]) e2 rfl;have hd:bG (.lst ts) (.lst [])=decide (xs=[]):=by
  rw[dk,decide_eq_true_eq,<-e4]
  cases ts with
  |nil=>simp[bG,eG]
  |cons _ _=>simp[bG,eG]
 simp only[bZ,p1,p2,hd]
def z6o(e:bR x y H=.ok (.bl b) H):bZ x y H=.ok (.bl (!b)) H:=by
 unfold bR at e;unfold bZ
 cases p1:bD cD H x with
 |none=>rw[p1]at e;cases e
 |some s=>
  rw[p1]at e
  cases p2:bD cD H y with
  |none=>rw[p2]at e;cases e
  |some t=>
   rw[p2]at e;dsimp only at e⊢;have:bG s t=b:=by injection e with e;injection e
   rw[this]
def z6p(h:T0 H d):mM [d] H=.ok (.bl (Com.isInt d)) H:=by
 have a:=R7 h;have b:=R8 h
 cases d<;>simp[mM,qS,bA,bY,aO,fH,m1,aB,a,b,pT,Com.isInt,bF]
def vO:M Bj:=bO (bP dH (aB 1)) [none] (aF 0) (cJ (bJ (aD mM (aA (aB 0) aC)))) (bB (aB 0))
def vP:M Bool:=mB (m2 bZ (aD (f1 sO) (aA (aB 1) aC)) (aD (f1 nQ) (aA (m2 aN (aB 0) (mC (.int 0))) aC)))
def IZ:M Bj:=bO (bP dH (m2 aN (aB 0) (mC (.int 1)))) [none,none,some 1] (cC 2 (aV (aF 0) (aV (aF 1) cE))) (mB (m2 hJ (iV (aB 2) (aB 0)) (iV (aB 2) (aB 1)))) (bB (mC (.int 1)))
def CU:lQ=aI (bK (eR (cJ (bJ (m1 (bI gH) (aB 1)))) (mB (m2 bZ (bQ vO) (aQ aC)))) (aO (mC (.bl false))) bW) (aI (bK vP (aO (mC (.bl false))) bW) (aO (m2 bR (bQ IZ) (aQ aC)))):=rfl
def z6q{F:Bi}(e:F [d] H=.ok (.bl b) H):cJ (bJ (aD F (aA (aB 0) aC))) [some d] H=.ok (!b) H:=by refine qV ?_;simp[bJ,aD,aA,aB,aC,e,fO]
def z6r(h:TK 1 H (.tup ds)):vO [x0,some (.tup ds)] H=.ok (ds.filter λx=>!Com.isInt x) H:=by
 let⟨hl,hx⟩:=h.2 ds rfl;have w:vO [x0,some (.tup ds)] H=.ok (ds.filterMap λx=>if !Com.isInt x then some (id x)else none) H:=
  gN ds _ (λρ=>∃a,ρ=[a]) (src:=cG ds) rfl (by simp[cG]) ⟨_,rfl⟩ rfl (λk hk ρ⟨a,e⟩=>by
   subst e;refine⟨ds[k],[some ds[k]],by simp[cG,hk],rfl,⟨_,rfl⟩,?_⟩;have t:=z6q (z6p (hx ds[k] (dj hk)).t0)
   cases c:!Com.isInt ds[k]with
   |true=>rw[c]at t;exact⟨t,rfl⟩
   |false=>rw[c]at t;exact t) (by lia)
 have:=w.trans (congrArg (λl=>Gz l _) (CS _ _ _));rw[List.map_id]at this;exact this
def z6s{m:M Bj}(e:m ρ H=.ok xs H)(h:∀x∈xs,PU x):∃H',mB (m2 bZ (bQ m) (aQ aC)) ρ H=.ok (!decide (xs=[])) H'/\Fr [] H H':=by
 have ea:bQ m ρ H=.ok (.ref H.length) (H++[.lst xs]):=by unfold bQ;rw[e];rfl
 have g:getL (H++[Gi xs]) H.length=some xs:=Cod.last_get;have f:Fr [] H (H++[Gi xs]):=Gj;generalize H++[Gi xs]=H1 at ea g f;have q:=z6n g h;refine⟨H1++[.lst []],?_,f.trans (T:=[]) Gj (by simp)⟩;generalize bQ m=M at ea;simp[mB,m2,ea,aQ,aC,lim,q,dW]
def z6t(hn:n<=6)(hl:ns.length<64):∃H',vP [some (aH n ps),some (.tup (ns.map Gh))] H=.ok (!decide (gB ns=cO n)) H'/\Fr [] H H':=by
 have e1:aD (f1 sO) (aA (aB 1) aC) [some (aH n ps),some (.tup (ns.map Gh))] H=.ok (.ref H.length) (H++[.lst ((gB ns).map Gh)]):=by generalize aH n ps=z;simp[aD,aA,aB,aC,f1,sO,vM,hl]
 have g1:getL (H++[Gi ((gB ns).map Gh)]) H.length=some ((gB ns).map Gh):=Cod.last_get;have f1':Fr [] H (H++[Gi ((gB ns).map Gh)]):=Gj;generalize H++[Gi ((gB ns).map Gh)]=H1 at e1 g1 f1';generalize H.length=i1 at e1 g1;have e2:aD (f1 nQ) (aA (m2 aN (aB 0) (mC (.int 0))) aC) [some (aH n ps),some (.tup (ns.map Gh))] H1=.ok (.ref H1.length) (H1++[.lst ((cO n).map Gh)]):=by
  have h0:=RT (n:=n) (ps:=ps) H1;have a0:(0:Int)<=(n:Int):=by lia
  have a1:(n:Int)<=1000:=by lia
  generalize aH n ps=z at h0;generalize (n:Int)=N at h0 a0 a1;simp[aD,aA,m2,aB,mC,aC,h0,f1,nQ,a0,a1]
 have g2:getL (H1++[Gi ((cO n).map Gh)]) H1.length=some ((cO n).map Gh):=Cod.last_get;have f2:Fr [] H1 (H1++[Gi ((cO n).map Gh)]):=Gj;have g1':=f2.getL g1 (by simp);generalize H1++[Gi ((cO n).map Gh)]=H2 at e2 g2 f2 g1';generalize H1.length=i2 at e2 g2;have q:=z6o (L2.Mr.eq_ints g1' g2);refine⟨H2,?_,f1'.trans f2 (by simp)⟩;unfold vP mB;rw[jG e1 e2 q];rfl
def z6u{mi:M Src}(o:Bt n ps)(hm:∀x:Int,0<=x->x<n->x∈ns)(hi:mi ρ H=.ok (cG (ps.map aG)) H)(hc:iP cap ρ=[none,none,some (.tup (ns.map Gh))]):bO mi cap (cC 2 (aV (aF 0) (aV (aF 1) cE))) (mB (m2 hJ (iV (aB 2) (aB 0)) (iV (aB 2) (aB 1)))) (bB (mC (.int 1))) ρ H=.ok ((ps.filter λq=>decide (ix ns q.1>ix ns q.2)).map λ_=>Gh 1) H:=by
 have w:=gN (sg:=cC 2 (aV (aF 0) (aV (aF 1) cE))) (t:=mB (m2 hJ (iV (aB 2) (aB 0)) (iV (aB 2) (aB 1)))) (e:=mC (.int 1)) ps (λq=>if decide (ix ns q.1>ix ns q.2)then some ((λ_=>Gh 1) q)else none) (λρ=>∃a b,ρ=[a,b,some (.tup (ns.map Gh))]) hi (by simp[cG]) ⟨_,_,hc⟩ rfl (λk hk ρ⟨a,b,e⟩=>by
   subst e;refine⟨aG ps[k],[some (.int ps[k].1),some (.int ps[k].2),some (.tup (ns.map Gh))],by simp[cG,hk],rfl,⟨_,_,rfl⟩,?_⟩;have r:=o.rng ps[k] (dj hk);have i1:=sZ (H:=H) (ns:=ns) (a:=2) (me:=aB 0) (ρ:=[some (.int ps[k].1),some (.int ps[k].2),some (.tup (ns.map Gh))]) rfl rfl (hm _ r.1 r.2.1);have i2:=sZ (H:=H) (ns:=ns) (a:=2) (me:=aB 1) (ρ:=[some (.int ps[k].1),some (.int ps[k].2),some (.tup (ns.map Gh))]) rfl rfl (hm _ r.2.2.1 r.2.2.2);have hd:decide ((ix ns ps[k].1:Int)>(ix ns ps[k].2:Int))=decide (ix ns ps[k].1>ix ns ps[k].2):=by rw[dk];simp
   have hg:hJ (.int (ix ns ps[k].1:Int)) (.int (ix ns ps[k].2:Int)) H=.ok (.bl (decide (ix ns ps[k].1>ix ns ps[k].2))) H:=by show iA _ _ _ H=_;simp only[iA,hd]
   have t:mB (m2 hJ (iV (aB 2) (aB 0)) (iV (aB 2) (aB 1))) [some (.int ps[k].1),some (.int ps[k].2),some (.tup (ns.map Gh))] H=.ok (decide (ix ns ps[k].1>ix ns ps[k].2)) H:=by unfold mB;rw[jG i1 i2 hg];rfl
   cases c:decide (ix ns ps[k].1>ix ns ps[k].2)with
   |true=>rw[c]at t;exact⟨t,rfl⟩
   |false=>rw[c]at t;exact t) (by have:=o.len;lia)
 exact w.trans (congrArg (λl=>Gz l _) (CS _ _ _))
def z6v(o:Bt n ps)(hm:∀x:Int,0<=x->x<n->x∈ns):IZ [some (aH n ps),some (.tup (ns.map Gh))] H=.ok ((ps.filter λq=>decide (ix ns q.1>ix ns q.2)).map λ_=>Gh 1) H:=z6u o hm rfl rfl
def z6w{ds:Bj}(h:(ds.filter λx=>!Com.isInt x)=[]):∃ns:y',ds=ns.map Gh:=by
 induction ds with
 |nil=>exact⟨[],rfl⟩
 |cons d ds ih=>
  rw[ly]at h;obtain⟨ns,rfl⟩:=ih (ly.mpr λx hx=>h x (au _ hx));have:=h d (bh ..)
  cases d with
  |int i=>exact⟨i::ns,rfl⟩
  |_=>simp[Com.isInt]at this
theorem lisrow_any(o:Bt n ps){d:Dv}(h:TK 1 H d)(hl:∀ds,d=.tup ds->ds.length<64/\∀x∈ds,PU x):∃H',kR [aH n ps,d] H=.ok (.bl (dQ n ps d)) H'/\Fr [] H H':=by
 have ht:=CN h.1
 by_cases nt:pK d=false
 ·refine⟨H,?_,Gy⟩;have t:bJ (m1 (bI gH) (aB 1)) [some (aH n ps),some d] H=.ok false H:=by rw[nt]at ht;simp[bJ,m1,aB,ht,fO]
  have z:dQ n ps d=false:=by
   cases d with
   |tup _=>cases nt
   |_=>rfl
  show bF (lQ [some (aH n ps),some d] H)=_;rw[CU,z];unfold aI;rw[nJ (IW (qV t))];rfl
 obtain⟨ds,rfl⟩:∃ds,d=.tup ds:=by
  cases d with
  |tup ds=>exact⟨ds,rfl⟩
  |_=>exact absurd rfl nt
 ·obtain⟨l64,pu⟩:=hl ds rfl;have t1:bJ (m1 (bI gH) (aB 1)) [some (aH n ps),some (.tup ds)] H=.ok true H:=by simp[bJ,m1,aB,ht,pK,fO]
  obtain⟨H1,e1,f1'⟩:=z6s (z6r h (x0:=some (aH n ps))) λx hx=>pu x (ie.mp hx).1
  by_cases c:(ds.filter λx=>!Com.isInt x)=[]
  ·obtain⟨ns,rfl⟩:=z6w c;have w1:bK (eR (cJ (bJ (m1 (bI gH) (aB 1)))) (mB (m2 bZ (bQ vO) (aQ aC)))) (aO (mC (.bl false))) bW [some (aH n ps),some (.tup (ns.map Gh))] H=.nx [some (aH n ps),some (.tup (ns.map Gh))] H1:=by
    have e:eR (cJ (bJ (m1 (bI gH) (aB 1)))) (mB (m2 bZ (bQ vO) (aQ aC))) [some (aH n ps),some (.tup (ns.map Gh))] H=.ok false H1:=by rw[vL (qV t1),e1];simp[c]
    rw[jQ e];rfl
   obtain⟨H2,e2,f2⟩:=z6t (ps:=ps) (ns:=ns) (H:=H1) o.n6 (by simpa using l64)
   by_cases c2:gB ns=cO n
   ·have hp:ns.Perm (cO n):=by rw[<-c2];exact(AN ns).symm
    have hr:∀x∈ns,0<=x/\x<n:=λx hx=>Cg.mp (hp.mem_iff.mp hx);have nd:ns.Nodup:=hp.nodup_iff.mpr Co;have hlen:ns.length=n:=by rw[hp.length_eq];simp[cO]
    have w2:bK vP (aO (mC (.bl false))) bW [some (aH n ps),some (.tup (ns.map Gh))] H1=.nx [some (aH n ps),some (.tup (ns.map Gh))] H2:=by
     have e:vP [some (aH n ps),some (.tup (ns.map Gh))] H1=.ok false H2:=by rw[e2];simp[c2]
     rw[jQ e];rfl
    have e3:=z6v (H:=H2) o (ns:=ns) (λx h0 h1=>mQ hr nd hlen h0 h1);have hone:∀(l:wo),(l.map λ_=>Gh 1)=(l.map λ_=>(1:Int)).map Gh:=λl=>by simp
    rw[hone]at e3;generalize hxs:(ps.filter λq=>decide (ix ns q.1>ix ns q.2))=xs at e3;have ea:bQ IZ [some (aH n ps),some (.tup (ns.map Gh))] H2=.ok (.ref H2.length) (H2++[.lst ((xs.map λ_=>(1:Int)).map Gh)]):=by unfold bQ;rw[e3];rfl
    have g3:getL (H2++[Gi ((xs.map λ_=>(1:Int)).map Gh)]) H2.length=some ((xs.map λ_=>(1:Int)).map Gh):=Cod.last_get;have f3:Fr [] H2 (H2++[Gi ((xs.map λ_=>(1:Int)).map Gh)]):=Gj;generalize H2++[Gi ((xs.map λ_=>(1:Int)).map Gh)]=H3 at ea g3 f3;have g4:getL (H3++[Gi []]) H3.length=some (([]:y').map Gh):=Cod.last_get;have q:=L2.Mr.eq_ints (iW (l:=[Gi []]) g3) g4;have hv:decide ((xs.map λ_=>(1:Int))=[])=dQ n ps (.tup (ns.map Gh)):=by
     rw[rowB_ints hr,rowP,dk];simp only[decide_eq_true_eq,List.map_eq_nil_iff,<-hxs,ly,hlen,nd,decide_true,wg,dv];constructor
     ·intro z p hp';have a:=z p hp';have r:=o.rng p hp';have m1:=mQ hr nd hlen r.1 r.2.1;have m2':=mQ hr nd hlen r.2.2.1 r.2.2.2;have:ix ns p.1≠ix ns p.2:=λz=>o.irr p hp' (vN m1 m2' z)
      lia
     ·intro z p hp';have a:=z p hp'
      lia
    rw[hv]at q;refine⟨H3++[.lst []],?_,((f1'.trans f2 (by simp)).trans f3 (by simp)).trans (T:=[]) Gj (by simp)⟩;show bF (lQ [some (aH n ps),some (.tup (ns.map Gh))] H)=_;rw[CU,aX w1,aX w2];exact z6i ea q
   ·refine⟨H2,?_,f1'.trans f2 (by simp)⟩;have e:vP [some (aH n ps),some (.tup (ns.map Gh))] H1=.ok true H2:=by rw[e2];simp[c2]
    have z:dQ n ps (.tup (ns.map Gh))=false:=by
     cases ha:lT n (.tup (ns.map Gh))with
     |false=>simp[dQ,ha]
     |true=>
      obtain⟨ms,em,hr⟩:=CQ (show(ns.map Gh).all (Com.tB n)=true from ha);have:ns=ms:=by have:=congrArg (bE fI) em;rw[vM,vM]at this;exact cw this
      subst this;rw[rowB_ints hr];unfold rowP
      by_cases c3:ns.length=n/\ns.Nodup
      ·exfalso
       apply c2
       exact(FZ (pL hr c3.2 c3.1).symm (rng_up.imp λh=>by lia)).symm
      ·by_cases c4:ns.length=n
       ·have c5:¬ns.Nodup:=λy=>c3 ⟨c4,y⟩;simp[c5]
       ·simp[c4]
    show bF (lQ [some (aH n ps),some (.tup (ns.map Gh))] H)=_;rw[CU,aX w1,z];unfold aI;rw[nJ e];rfl
  ·refine⟨H1,?_,f1'⟩;have z:dQ n ps (.tup ds)=false:=by
    cases ha:lT n (.tup ds)with
    |false=>simp[dQ,ha]
    |true=>
     obtain⟨ms,rfl,_⟩:=CQ (show ds.all (Com.tB n)=true from ha)
     exfalso
     apply c
     rw[ly];intro x hx;obtain⟨y,_,rfl⟩:=cf.mp hx;simp[Com.isInt]
   have e:eR (cJ (bJ (m1 (bI gH) (aB 1)))) (mB (m2 bZ (bQ vO) (aQ aC))) [some (aH n ps),some (.tup ds)] H=.ok true H1:=by rw[vL (qV t1),e1];simp[c]
   show bF (lQ [some (aH n ps),some (.tup ds)] H)=_;rw[CU,z];unfold aI;rw[nJ e];rfl
end
section
variable{n:Nat}{ps:wo}{H:Hs}{ns:y'}
def rng2M{ma mb:M Dv}(ea:ma ρ H=.ok (.int A) H)(eb:mb ρ H=.ok (.int B) H)(a0:0<=A)(a1:A<=1000)(b0:0<=B)(b1:B<=1000):aT lB (aA ma (aA mb aC)) ρ H=.ok (cX A B) H:=by
 have h1:jL A=true:=by simp[jL];lia
 have h2:jL B=true:=by simp[jL];lia
 simp[aT,aA,ea,eb,aC,lB,h1,h2]
def z6x{F:Bi}{a b v:Dv}(ha:aB x ρ=λH=>.ok a H)(hb:aB y ρ=λH=>.ok b H)(e:F [a,b] H=.ok v H):aD F (aA (aB x) (aA (aB y) aC)) ρ H=.ok v H:=by simp[aD,aA,ha,hb,aC,e]
def need_row_ok(o:Bt n ps)(h:TK 1 H d):fS [aH n ps,d] H=if dQ n ps d then .ok .non H else .ex 5 H:=by
 have e:=z6l o h;have t:cJ (bJ (aD lO (aA (aB 0) (aA (aB 1) aC)))) [some (aH n ps),some d] H=.ok (!dQ n ps d) H:=by refine qV ?_;have:=z6x (F:=lO) (x:=0) (y:=1) (ρ:=[some (aH n ps),some d]) rfl rfl e;unfold bJ;rw[this];rfl
 show bF (pE [some (aH n ps),some d] H)=_;unfold pE
 cases hb:dQ n ps d with
 |true=>rw[hb]at t;rw[jQ t];rfl
 |false=>rw[hb]at t;rw[nJ t];rfl
end
section
variable{n:Nat}{ps:wo}{H:Hs}{ns:y'}
def eq_int(a b:Int):bR (.int a) (.int b) H=.ok (.bl (decide (a=b))) H:=by
 have:(a==b)=decide (a=b):=by rw[dk];simp
 simp[bR,cD,bD,bG,this]
def z6y{F:Bi}{a v:Dv}(ha:aB x ρ=λH=>.ok a H)(e:F [a] H=.ok v H')(hs:aF i v ρ=some ρ1):aM (aD F (aA (aB x) aC)) (aF i) ρ H=.nx ρ1 H':=by simp[aM,aD,aA,ha,aC,e,hs]
end
theorem SH{α:Type}{p q:α->Bool}:∀{l:List α},(∀x∈l,p x=true->q x=true)->(∃a∈l,q a=true/\p a=false)->(l.filter p).length<(l.filter q).length
 |[],_,⟨_,h,_⟩=>nomatch h
 |x::l,h,⟨a,ha,hq,hp⟩=>by
  have le:(l.filter p).length<=(l.filter q).length:=by
   clear hq hp ha
   have h':∀x∈l,p x=true->q x=true:=λy hy=>h y (au _ hy)
   clear h
   induction l with
   |nil=>exact aq _
   |cons y l ih=>
    have i:=ih λz hz=>h' z (au _ hz);have hy:=h' y (bh ..);rw[ku,ku]
    cases c:p y with
    |true=>rw[hy c];simpa using i
    |false=>
     cases c2:q y with
     |true=>simp;lia
     |false=>simpa using i
  rw[ku,ku]
  rcases az.mp ha with rfl|ha
  ·rw[hq,hp];simp;lia
  ·have i:=SH (l:=l) (λy hy=>h y (au _ hy)) ⟨a,ha,hq,hp⟩;have hx:=h x (bh ..)
   cases c:p x with
   |true=>rw[hx c];simpa using i
   |false=>
    cases c2:q x with
    |true=>simp;lia
    |false=>simpa using i
section
variable{n st:Nat}{ps:wo}{H:Hs}{xs:y'}
theorem JA(o:Bt n ps){left:y'}:∀(m:Nat)(x:Int),x∈left->(left.filter λa=>decide ((a,x)∈ps)).length<=m->∃z∈left,∀a∈left,(a,z)∉ps
 |m,x,hx,hm=>by
  by_cases c:∃a∈left,(a,x)∈ps
  ·let⟨a,ha,hp⟩:=c;have lt:=SH (l:=left) (p:=λb=>decide ((b,a)∈ps)) (q:=λb=>decide ((b,x)∈ps)) (λb _ hb=>by simp only[decide_eq_true_eq]at hb⊢;exact o.tr _ hb _ hp rfl) ⟨a,ha,by simpa using hp,by simp;exact λz=>o.irr _ z rfl⟩
   match m,hm with
   |0,hm=>lia
   |m+1,hm=>exact JA o m a ha (by lia)
  ·exact⟨x,hx,λa ha hp=>c ⟨a,ha,hp⟩⟩
def CV:M Bj:=bO (aT dI (aA (m2 aN (aB 1) (mC (.int 0))) aC)) [none,some 2] (aF 0) (mB (m2 (kP true) (aB 0) (aB 1))) (bB (aB 0))
def yK:M Bj:=bO (bP dH (m2 aN (aB 1) (mC (.int 1)))) [none,none,some 0,some 2] (cC 2 (aV (aF 0) (aV (aF 1) cE))) (jX (mB (m2 bR (aB 1) (aB 2))) (mB (m2 (kP true) (aB 0) (aB 3)))) (bB (aB 0))
def JB:M Bj:=bO (bP dX (aB 4)) [none,some 1,some 2] (aF 0) (mB (m2 bR (bQ yK) (aQ aC))) (bB (aB 0))
def SI:MS:=aM (m2 aU (aB 2) (aL (aA (m2 aN (aB 5) (aD cA (aA (aB 0) (aA (aD (f1 cQ) (aA (aB 5) aC)) aC)))) aC))) (aF 2)
def sB:MS:=aI (aM (bQ CV) (aF 4)) (aI (aM (bQ JB) (aF 5)) SI)
def z6z:pF=aI (aM (aL aC) (aF 2)) (aI (gX (aT dI (aA (m2 aN (aB 1) (mC (.int 0))) aC)) (aF 3) sB) (aO (aB 2))):=rfl
def SJ(e:aB 1 ρ=λH=>.ok (aH n ps) H):m2 aN (aB 1) (mC (.int 0)) ρ H=.ok (.int n) H:=by have h0:=RT (n:=n) (ps:=ps) H;generalize aH n ps=z at h0 e;simp[m2,e,mC,h0]
def iG(n:Nat)(xs:y'):y':=(cO n).filter λx=>!decide (x∈xs)
def z70(hn:n<=6):CV [x0,some (aH n ps),some (.tup (xs.map Gh)),x3,x4,x5] H=.ok ((iG n xs).map Gh) H:=by
 have w:CV [x0,some (aH n ps),some (.tup (xs.map Gh)),x3,x4,x5] H=.ok ((cO n).filterMap λx=>if !decide (x∈xs)then some (Gh x)else none) H:=
  gN (cO n) _ (λρ=>∃a,ρ=[a,some (.tup (xs.map Gh))]) (src:=cX 0 n) (yH (SJ rfl) (by lia) (by lia)) (by simp[cX,cO]) ⟨_,rfl⟩ rfl (λk hk ρ⟨a,e1⟩=>by
   subst e1;have gk:(cO n)[k]=(k:Int):=by simp[cO]
   refine⟨.int (0+k),[some (.int (0+k)),some (.tup (xs.map Gh))],rfl,rfl,⟨_,rfl⟩,?_⟩;have h00:(0+(k:Int))=(k:Int):=by lia
   rw[gk,h00];have t:=N9 true H (k:Int) xs;simp only[if_true]at t
   cases c:!decide ((k:Int)∈xs)with
   |true=>rw[c]at t;simp[mB,m2,aB,t,dW]
   |false=>rw[c]at t;simp[mB,m2,aB,t,dW]) (by simp[cO];lia)
 exact w.trans (congrArg (λl=>Gz l _) (CS _ _ _))
def jH(ps:wo)(xs:y')(x:Int):wo:=ps.filter λq=>decide (q.2=x)&&!decide (q.1∈xs)
def z71(o:Bt n ps):yK [some (.int x),some (aH n ps),some (.tup (xs.map Gh))] H=.ok (((jH ps xs x).map λq=>q.1).map Gh) H:=by
 have w:yK [some (.int x),some (aH n ps),some (.tup (xs.map Gh))] H=.ok (ps.filterMap λq=>if(decide (q.2=x)&&!decide (q.1∈xs))then some ((λq:Int×Int=>Gh q.1) q)else none) H:=
  gN ps _ (λρ=>∃a b,ρ=[a,b,some (.int x),some (.tup (xs.map Gh))]) (src:=cG (ps.map aG)) rfl (by simp[cG]) ⟨_,_,rfl⟩ rfl (λk hk ρ⟨a,b,e⟩=>by
   subst e;refine⟨aG ps[k],[some (.int ps[k].1),some (.int ps[k].2),some (.int x),some (.tup (xs.map Gh))],by simp[cG,hk],rfl,⟨_,_,rfl⟩,?_⟩;have t1:=eq_int (H:=H) ps[k].2 x;have t2:=N9 true H ps[k].1 xs;simp only[if_true]at t2;generalize xs.map Gh=ys at t2
   cases c1:decide (ps[k].2=x)with
   |false=>rw[c1]at t1;simp[jX,mB,m2,aB,t1,dW]
   |true=>
    rw[c1]at t1
    cases c2:!decide (ps[k].1∈xs)with
    |true=>rw[c2]at t2;simp[jX,mB,m2,aB,t1,t2,dW]
    |false=>rw[c2]at t2;simp[jX,mB,m2,aB,t1,t2,dW]) (by have:=o.len;lia)
 have:=w.trans (congrArg (λl=>Gz l _) (CS _ _ _));rw[jf];exact this
def CW{m:M Bj}{zs:y'}(e:m ρ H=.ok (zs.map Gh) H):∃H',mB (m2 bR (bQ m) (aQ aC)) ρ H=.ok (decide (zs=[])) H'/\Fr [] H H':=by
 have ea:bQ m ρ H=.ok (.ref H.length) (H++[.lst (zs.map Gh)]):=by unfold bQ;rw[e];rfl
 have g:getL (H++[Gi (zs.map Gh)]) H.length=some (zs.map Gh):=Cod.last_get;have f:Fr [] H (H++[Gi (zs.map Gh)]):=Gj;generalize H++[Gi (zs.map Gh)]=H1 at ea g f;have g2:getL (H1++[Gi []]) H1.length=some (([]:y').map Gh):=Cod.last_get;have q:=eq_ints (iW (l:=[Gi []]) g) g2;refine⟨H1++[.lst []],?_,f.trans (T:=[]) Gj (by simp)⟩;generalize bQ m=M at ea;simp[mB,m2,ea,aQ,aC,lim,q,dW]
def z72(o:Bt n ps){ys:y'}{mi:M Src}(g:getL H i=some (ys.map Gh))(hl:ys.length<=6)(hi:mi ρ H=.ok (eJ i (ys.map Gh).length) H)(hc:iP cap ρ=[none,some (aH n ps),some (.tup (xs.map Gh))]):∃H',bO mi cap (aF 0) (mB (m2 bR (bQ yK) (aQ aC))) (bB (aB 0)) ρ H=.ok ((ys.filter λy=>decide (jH ps xs y=[])).map Gh) H'/\Fr [] H H':=by
 have fl:∀l:y',(l.flatMap λy=>if decide (jH ps xs y=[])then[Gh y]else[])=(l.filter λy=>decide (jH ps xs y=[])).map Gh:=λl=>by
  induction l with
  |nil=>rfl
  |cons y l ih=>
   rw[jq,ku,ih]
   cases c:decide (jH ps xs y=[])<;>simp
 let⟨ρ',H',h,_,f⟩:=HU (mi:=mi) (cap:=cap) (src:=eJ i (ys.map Gh).length) (sg:=aF 0) (t:=mB (m2 bR (bQ yK) (aQ aC))) (m:=bB (aB 0)) (ρ:=ρ) (H:=H) (H1:=H) ys (λy=>if decide (jH ps xs y=[])then[Gh y]else[]) (λρ Hx=>(∃a,ρ=[a,some (aH n ps),some (.tup (xs.map Gh))])/\Fr [] H Hx) hi (by simp[eJ]) ⟨⟨_,hc⟩,Gy⟩ (λρ Hx s=>by have gx:=s.2.getL g (by simp);simp[eJ,gx])
  (λk hk ρ Hx⟨⟨a,e⟩,f⟩=>by
   subst e;have gx:=f.getL g (by simp);refine⟨.int ys[k],[some (.int ys[k]),some (aH n ps),some (.tup (xs.map Gh))],by simp[eJ,gx,hk],rfl,?_⟩;let⟨Hy,t,fy⟩:=CW (z71 (H:=Hx) (xs:=xs) o (x:=ys[k]));have hd:decide (((jH ps xs ys[k]).map λq=>q.1)=[])=decide (jH ps xs ys[k]=[]):=by rw[dk];simp
   rw[hd]at t
   cases c:decide (jH ps xs ys[k]=[])with
   |false=>rw[c]at t;exact .inl ⟨Hy,t,by simp,⟨_,rfl⟩,f.trans fy (by simp)⟩
   |true=>rw[c]at t;refine .inr ⟨Hy,t,λacc hl=>⟨[some (.int ys[k]),some (aH n ps),some (.tup (xs.map Gh))],Hy,?_,⟨_,rfl⟩,f.trans fy (by simp)⟩⟩;simp only[if_true]at hl⊢;exact HV rfl hl) (by
   rw[fl,bo];have:=pq (λy=>decide (jH ps xs y=[])) ys
   lia)
 refine⟨H',?_,f⟩;rw[<-fl];exact h
def z73(o:Bt n ps){ys:y'}(g:getL H i=some (ys.map Gh))(hl:ys.length<=6):∃H',JB [x0,some (aH n ps),some (.tup (xs.map Gh)),x3,some (.ref i),x5] H=.ok ((ys.filter λy=>decide (jH ps xs y=[])).map Gh) H'/\Fr [] H H':=z72 (mi:=bP dX (aB 4)) (cap:=[none,some 1,some 2]) (ρ:=[x0,some (aH n ps),some (.tup (xs.map Gh)),x3,some (.ref i),x5]) o g hl (by simp[bP,aB,dX,g]) rfl
def z74{zs:y'}{ρ ρ1:Ev}(s:Com.St st H)(ht:aB 0 ρ=λH=>.ok (.ref st) H)(hx:aB 2 ρ=λH=>.ok (.tup (xs.map Gh)) H)(h5:aB 5 ρ=λH=>.ok (.ref i) H)(is:i≠st)(g:getL H i=some (zs.map Gh))(l1:1<=zs.length)(l2:zs.length<=50)(hl:xs.length<=50)(hs:∀v,aF 2 v ρ=some (ρ.set 2 (some v))):∃z H',z∈zs/\SI ρ H=.nx (ρ.set 2 (some (.tup ((xs++[z]).map Gh)))) H'/\Com.St st H'/\Fr [st] H H':=by
 let⟨r,H1,r0,r1,t1,f1',s1⟩:=jV (zs.length:Int) s (by lia) (by lia);have g1:=f1'.getL g (by simpa using is);obtain⟨k,rfl⟩:∃k:Nat,r=k:=⟨r.toNat,by lia⟩
 have hk:k<zs.length:=by lia
 have x:=Cod.ixL g1 (show k<(zs.map Gh).length by simpa using hk);rw[List.getElem_map]at x;refine⟨zs[k],H1,dj hk,?_,s1,f1'⟩;have eL:aD (f1 cQ) (aA (aB 5) aC) ρ H=.ok (.int zs.length) H:=by simp[aD,aA,h5,aC,f1,cQ,gA,jK,gK,g]
 have e1:m2 aN (aB 5) (aD cA (aA (aB 0) (aA (aD (f1 cQ) (aA (aB 5) aC)) aC))) ρ H=.ok (.int zs[k]) H1:=by generalize aD (f1 cQ) (aA (aB 5) aC)=M at eL;generalize (zs.length:Int)=L at eL t1;simp[m2,h5,aD,aA,ht,eL,aC,t1,x]
 have e2:aL (aA (m2 aN (aB 5) (aD cA (aA (aB 0) (aA (aD (f1 cQ) (aA (aB 5) aC)) aC)))) aC) ρ H=.ok (.tup [.int zs[k]]) H1:=by generalize m2 aN (aB 5) (aD cA (aA (aB 0) (aA (aD (f1 cQ) (aA (aB 5) aC)) aC)))=M at e1;simp[aL,aA,e1,aC,lim]
 have a:=qW (xs.map Gh) [.int zs[k]] (by simp;lia) (H:=H1);have e3:=jG (ma:=aB 2) (H1:=H) (x:=.tup (xs.map Gh)) (by rw[hx]) e2 a;have hc:xs.map Gh++[.int zs[k]]=(xs++[zs[k]]).map Gh:=by simp
 rw[hc]at e3;exact qX e3 (hs _)
structure Part(n:Nat)(ps:wo)(k:Nat)(xs:y'):Prop where
 len:xs.length=k
 nd:xs.Nodup
 rng:∀x∈xs,0<=x/\x<n
 cl:∀p∈ps,p.2∈xs->p.1∈xs/\ix xs p.1<ix xs p.2
theorem some_draw(o:Bt n ps)(s:Com.St st H):∃(ns:y')(H':Hs),jS [.ref st,aH n ps] H=.ok (.tup (ns.map Gh)) H'/\(∀x∈ns,0<=x/\x<n)/\dQ n ps (.tup (ns.map Gh))=true/\ns.length<=6/\Com.St st H'/\Fr [st] H H':=by
 have n6:=o.n6;have w1:aM (aL aC) (aF 2) [some (.ref st),some (aH n ps),none,none,none,none] H=.nx [some (.ref st),some (aH n ps),some (.tup (([]:y').map Gh)),none,none,none] H:=rfl;obtain⟨ρ',H1,w2,xs,y3,y4,y5,e,P,s1,f1'⟩:=uP (mi:=aT dI (aA (m2 aN (aB 1) (mC (.int 0))) aC)) (sg:=aF 3) (b:=sB) (ρ:=[some (.ref st),some (aH n ps),some (.tup (([]:y').map Gh)),none,none,none]) (H:=H) (yH (SJ rfl) (by lia) (by lia))
  (λk ρ Hx=>∃(xs:y')(y3 y4 y5:Bk),ρ=[some (.ref st),some (aH n ps),some (.tup (xs.map Gh)),y3,y4,y5]/\Part n ps k xs/\Com.St st Hx/\Fr [st] H Hx)
  (λk ρ Hx hk⟨xs,y3,y4,y5,e,P,s,fr⟩=>by
   subst e;have Ei:k<n:=by have:k<(cX 0 (n:Int)).n:=hk;simp[cX]at this;exact this
   have hll:(iG n xs).length<=6:=by
    have:=pq (λx=>!decide (x∈xs)) (cO n);simp[cO]at this;unfold iG;simp[cO]
    lia
   have a1:=z70 (ps:=ps) (xs:=xs) (H:=Hx) (x0:=some (.ref st)) (x3:=some (.int (0+(k:Int)))) (x4:=y4) (x5:=y5) n6;have wa:aM (bQ CV) (aF 4) [some (.ref st),some (aH n ps),some (.tup (xs.map Gh)),some (.int (0+(k:Int))),y4,y5] Hx=.nx [some (.ref st),some (aH n ps),some (.tup (xs.map Gh)),some (.int (0+(k:Int))),some (.ref Hx.length),y5] (Hx++[.lst ((iG n xs).map Gh)]):=IY a1 rfl;have ga:getL (Hx++[Gi ((iG n xs).map Gh)]) Hx.length=some ((iG n xs).map Gh):=Cod.last_get;have fa:Fr [] Hx (Hx++[Gi ((iG n xs).map Gh)]):=Gj;have sa:=s.fr fa (by simp);generalize Hx++[Gi ((iG n xs).map Gh)]=Ha at wa ga fa sa;generalize Hx.length=ia at wa ga;obtain⟨Hb,a2,fb⟩:=z73 (xs:=xs) (x0:=some (.ref st)) (x3:=some (.int (0+(k:Int)))) (x5:=y5) o ga hll;generalize hzs:((iG n xs).filter λy=>decide (jH ps xs y=[]))=zs at a2;have wb:aM (bQ JB) (aF 5) [some (.ref st),some (aH n ps),some (.tup (xs.map Gh)),some (.int (0+(k:Int))),some (.ref ia),y5] Ha=.nx [some (.ref st),some (aH n ps),some (.tup (xs.map Gh)),some (.int (0+(k:Int))),some (.ref ia),some (.ref Hb.length)] (Hb++[.lst (zs.map Gh)]):=IY a2 rfl;have gb:getL (Hb++[Gi (zs.map Gh)]) Hb.length=some (zs.map Gh):=Cod.last_get;have sb0:=sa.fr fb (by simp);have lb:=sb0.lt;have nb:Hb.length≠st:=by lia
   have fb2:Fr [] Ha (Hb++[Gi (zs.map Gh)]):=fb.trans (T:=[]) Gj (by simp);have sb:=sa.fr fb2 (by simp);generalize Hb++[Gi (zs.map Gh)]=Hc at wb gb fb2 sb;generalize Hb.length=ib at wb gb nb;have ex:∃x,x∈iG n xs:=by
    by_cases c:∃x,x∈iG n xs
    ·exact c
    ·exfalso
     have sub:∀x∈cO n,x∈xs:=λx hx=>by
      by_cases d:x∈xs
      ·exact d
      ·exact absurd ⟨x,ie.mpr ⟨hx,by simpa using d⟩⟩ c
     have:=(Co (n:=n)).length_le_of_subset sub;rw[P.len]at this;simp[cO]at this
     lia
   obtain⟨x0,hx0⟩:=ex;obtain⟨z0,hz0,hmin⟩:=JA o (left:=iG n xs) _ x0 hx0 (aq _);have hz:z0∈zs:=by rw[<-hzs];refine ie.mpr ⟨hz0,?_⟩;simp only[decide_eq_true_eq,jH,ly];intro q hq hc;simp only[cq,decide_eq_true_eq,Bool.not_eq_true',decide_eq_false_iff_not]at hc;have r:=o.rng q hq;refine hmin q.1 (ie.mpr ⟨Cg.mpr ⟨r.1,r.2.1⟩,by simpa using hc.2⟩) ?_;rw[<-hc.1];exact hq
   have l1:1<=zs.length:=by
    cases zs with
    |nil=>cases hz
    |cons _ _=>simp
   have l2:zs.length<=50:=by
    rw[<-hzs];have:=pq (λy=>decide (jH ps xs y=[])) (iG n xs)
    lia
   obtain⟨z,Hd,mz,wd,sd,fd⟩:=z74 (xs:=xs) (ρ:=[some (.ref st),some (aH n ps),some (.tup (xs.map Gh)),some (.int (0+(k:Int))),some (.ref ia),some (.ref ib)]) (ρ1:=[]) sb rfl rfl rfl nb gb l1 l2 (by have:=P.len;lia) (λ_=>rfl);rw[<-hzs]at mz;have m1:=ie.mp mz;have m2':=ie.mp m1.1;have zr:=Cg.mp m2'.1;have zx:z∉xs:=by simpa using m2'.2
   have zo:jH ps xs z=[]:=by simpa using m1.2
   refine⟨.int (0+k),[some (.ref st),some (aH n ps),some (.tup (xs.map Gh)),some (.int (0+(k:Int))),y4,y5],_,Hd,rfl,rfl,(by unfold sB;rw[aX wa,aX wb];exact wd),xs++[z],_,_,_,rfl,⟨by simp[P.len],?_,λx hx=>?_,λp hp hx=>?_⟩,sd,((fr.trans fa (by simp)).trans fb2 (by simp)).trans fd (by simp)⟩
   ·rw[xh];refine⟨P.nd,by simp,λa ha b hb e=>?_⟩;have:b=z:=by simpa using hb
    subst this;subst e;exact zx ha
   ·rcases cj.mp hx with hx|hx
    ·exact P.rng x hx
    ·have:x=z:=by simpa using hx
     rw[this];exact zr
   ·by_cases c:p.2∈xs
    ·obtain⟨q1,q2⟩:=P.cl p hp c;exact⟨ja _ q1,by rw[qY q1,qY c];exact q2⟩
    ·have e2:p.2=z:=by
      rcases cj.mp hx with hx|hx
      ·exact absurd hx c
      ·simpa using hx
     have q1:p.1∈xs:=by
      by_cases d:p.1∈xs
      ·exact d
      ·exfalso
       have:p∈jH ps xs z:=ie.mpr ⟨hp,by simp[e2,d]⟩;rw[zo]at this;cases this
     refine⟨ja _ q1,?_⟩;rw[qY q1,e2,CT zx];exact sY q1)
  (λρ Hx _=>rfl) ⟨[],none,none,none,rfl,⟨rfl,.nil,by simp,by simp⟩,s,Gy⟩
 subst e;have hn:(cX 0 (n:Int)).n=n:=by simp[cX]
 rw[hn]at P;refine⟨xs,H1,?_,P.rng,?_,by have:=P.len;lia,s1,f1'⟩
 ·show bF (pF [some (.ref st),some (aH n ps),none,none,none,none] H)=_;rw[z6z,aX w1,aX w2];rfl
 ·rw[rowB_ints P.rng];unfold rowP;simp only[P.len,P.nd,decide_true,wg,dv,decide_eq_true_eq];intro p hp;have r:=o.rng p hp;exact(P.cl p hp (mQ P.rng P.nd P.len r.2.2.1 r.2.2.2)).2
end
open L2.Mr.Cod (last_get addL ixL)
def Ox(x:Dv):Prop:=(∀H,T0 H x)/\PU x
def Gd(H:Hs)(d:Dv):Prop:=TK 1 H d/\∀ds,d=.tup ds->ds.length<64/\∀x∈ds,PU x
def Gd.tup{zs:Bj}(hl:zs.length<64)(h:∀x∈zs,Ox x):Gd H (.tup zs):=⟨TK.tup (by lia) λx hx=>(h x hx).1 H,λds e=>by cases e;exact⟨hl,λx hx=>(h x hx).2⟩⟩
def Gd.of0(h:T0 H d)(hn:∀ds,d≠.tup ds):Gd H d:=⟨TK.of h hn,λds e=>absurd e (hn ds)⟩
def Gd.fr{st:Nat}(g:Gd H d)(f:Fr [st] H H')(s:Com.St st H'):Gd H' d:=⟨g.1.fr f s,g.2⟩
def Gd.fr0(g:Gd H d)(f:Fr [] H H'):Gd H' d:=⟨g.1.fr0 f,g.2⟩
def Gd.upd(e:getL H j=some xs)(g:Gd H d):Gd (H.set j (.lst ys)) d:=⟨TK.upd e g.1,g.2⟩
def CY(k:Int):Ox (.int k):=⟨λ_=>trivial,λ_=>⟨_,rfl⟩⟩
def yL{ns:y'}:∀x∈ns.map Gh,Ox x:=λx hx=>by obtain⟨y,_,rfl⟩:=cf.mp hx;exact CY y
def uQ(ns:y'):∃ts,bE (bD (k+1) H) (ns.map Gh)=some ts:=by
 induction ns with
 |nil=>exact⟨[],rfl⟩
 |cons x xs ih=>let⟨ts,e⟩:=ih;have e0:bD (k+1) H (.int x)=some (.int x):=rfl;exact⟨.int x::ts,by simp only[da,bE,e0,e]⟩
def z75(e:bE (bD k H) xs=some ts):bD (k+1) H (.tup xs)=some (.tup ts):=by simp only[bD,e]
def SK{ns:y'}:Ox (.tup (ns.map Gh)):=⟨λ_=>trivial,λH=>by let⟨ts,e⟩:=uQ (H:=H) (k:=27) ns;exact⟨.tup ts,z75 e⟩⟩
def JC{ds:Bj}{k:Nat}(hk:k<ds.length):aN (.tup ds) (.int (k:Int)) H=.ok ds[k] H:=by
 have h1:eO ds.length (k:Int)=some k:=by unfold eO;rw[if_pos (by lia),if_pos (by lia)];simp
 have h2:gQ ds (k:Int)=some ds[k]:=by unfold gQ;rw[h1];simp[hk]
 simp only[aN,gA,gS,lA,h2,if_true]
section
variable{st:Nat}{H:Hs}{ρ:Ev}{ds:Bj}{a b:Nat}{y:Dv}
def yM:M Bj:=(aA (m2 aN (aB 1) (aB 3)) (aA (aD (f1 cQ) (aA (aB 1) aC)) (aA (m1 oS (mC (.int 1))) (aA (mC (.bl true)) (aA (mC .non) (aA (mC (.str "0")) (aA (aL (aA (mC (.int 0)) aC)) (aA (m2 qG (mC (.int 10)) (mC (.int 29))) (aA (mC (.bl false)) aC)))))))))
def pM(x:Dv)(L:Int):Bj:=[x,.int L,.int (-1),.bl true,.non,.str "0",.tup [.int 0],.int (10^29),.bl false]
def z76(h:Ox x):∀y∈pM x L,Ox y:=by
 intro y hy;simp only[pM,az,qc,or_false]at hy
 rcases hy with rfl|rfl|rfl|rfl|rfl|rfl|rfl|rfl|rfl
 ·exact h
 ·exact CY _
 ·exact CY _
 ·exact⟨λ_=>trivial,λ_=>⟨_,rfl⟩⟩
 ·exact⟨λ_=>trivial,λ_=>⟨_,rfl⟩⟩
 ·exact⟨λ_=>trivial,λ_=>⟨_,rfl⟩⟩
 ·exact SK (ns:=[0])
 ·exact CY _
 ·exact⟨λ_=>trivial,λ_=>⟨_,rfl⟩⟩
def z77(s:Com.St st H)(hx:∀x∈ds,Ox x)(hb:b<ds.length)(h0:aB 0 ρ=λH=>.ok (.ref st) H)(h1:aB 1 ρ=λH=>.ok (.tup ds) H)(h3:aB 3 ρ=λH=>.ok (.int (b:Int)) H):∃y H',m2 aN (aQ yM) (aD cA (aA (aB 0) (aA (mC (.int 9)) aC))) ρ H=.ok y H'/\Ox y/\Com.St st H'/\Fr [st] H H':=by
 have ox:=z76 (L:=(ds.length:Int)) (hx _ (dj hb));have e1:aQ yM ρ H=.ok (.ref H.length) (H++[.lst (pM ds[b] ds.length)]):=by have hp:∀H,qG (.int 10) (.int 29) H=.ok (.int (10^29)) H:=λH=>rfl;have hg:oS (.int 1) H=.ok (.int (-1)) H:=rfl;have hi:=JC (H:=H) hb;have hl:=IX (H:=H) (ds:=ds) (i:=1) (ρ:=ρ) (by rw[h1]);unfold yM pM;generalize (ds.length:Int)=L at hl;generalize ds[b]=z at hi;generalize aD (f1 cQ) (aA (aB 1) aC)=M at hl;simp[aQ,aA,m2,m1,mC,h1,h3,hi,hl,aL,aC,hp,hg,lim]
 have f1':Fr [] H (H++[Gi (pM ds[b] ds.length)]):=Gj;have g1:getL (H++[Gi (pM ds[b] ds.length)]) H.length=some (pM ds[b] ds.length):=last_get;have lt:=s.lt;have i1:H.length≠st:=by lia
 have l9:(pM ds[b] (ds.length:Int)).length=9:=rfl;generalize pM ds[b] (ds.length:Int)=ol at e1 f1' g1 l9 ox;generalize H++[Gi ol]=H1 at e1 f1' g1;generalize H.length=i at e1 g1 i1;have s1:=s.fr f1' (by simp);let⟨r,H2,r0,r1,t2,f2,s2⟩:=jV 9 s1;have g2:=f2.getL g1 (by simpa using i1);obtain⟨j,rfl⟩:∃j:Nat,r=j:=⟨r.toNat,by lia⟩
 have hj:j<ol.length:=by lia
 refine⟨ol[j],H2,?_,ox _ (dj hj),s2,(f1'.mono (T:=[st]) (by simp)).trans f2 (by simp)⟩;have e3:aD cA (aA (aB 0) (aA (mC (.int 9)) aC)) ρ H1=.ok (.int j) H2:=by simp[aD,aA,h0,mC,aC,t2]
 have e4:=ixL g2 hj;unfold m2;rw[e1,Rs.bind_ok,e3,Rs.bind_ok,e4]
def qZ:M Dv:=hV (aB 1) gY (fZ (aB 2))
def yN:M Dv:=hV (aB 1) (fZ (m2 aU (aB 2) (mC (.int 1)))) gY
def vQ:M Dv:=hV (aB 1) (fZ (aB 2)) gY
def SN(h1:aB 1 ρ=λH=>.ok (.tup ds) H)(h2:aB 2 ρ=λH=>.ok (.int (a:Int)) H):qZ ρ H=.ok (.tup (ds.take a)) H:=by simp[qZ,hV,h1,gY,fZ,h2,uJ,sJ,z6g]
def SO(h1:aB 1 ρ=λH=>.ok (.tup ds) H)(h2:aB 2 ρ=λH=>.ok (.int (a:Int)) H):vQ ρ H=.ok (.tup (ds.drop a)) H:=by simp[vQ,hV,h1,gY,fZ,h2,uJ,sJ,SF]
def z78(h1:aB 1 ρ=λH=>.ok (.tup ds) H)(h2:aB 2 ρ=λH=>.ok (.int (a:Int)) H):yN ρ H=.ok (.tup (ds.drop (a+1))) H:=by have ha:aU (.int (a:Int)) (.int 1) H=.ok (.int ((a+1:Nat):Int)) H:=rfl;have hc:=SF ds (a+1);generalize ((a+1:Nat):Int)=L at ha hc;simp[yN,hV,h1,gY,fZ,m2,h2,mC,ha,uJ,sJ,hc]
def SQ(hl:ds.length<=100):f1 eV [.tup ds] H=.ok (.ref H.length) (H++[.lst ds]):=by
 have hz:ds.length<=1000000:=by lia
 simp[f1,eV,gA,rN,gK,lim,hz]
def CZ:M Bj:=(aA (m2 aU (m2 aU qZ (aL (aA (aB 4) aC))) yN) (aA (m2 aU qZ yN) (aA (m2 aU (m2 aU qZ (aL (aA (aB 4) aC))) vQ) (aA (aD (f1 eV) (aA (aB 1) aC)) (aA (mC .non) aC)))))
def vR(ds:Bj)(a:Nat)(y:Dv)(i:Nat):Bj:=[.tup (ds.take a++[y]++ds.drop (a+1)),.tup (ds.take a++ds.drop (a+1)),.tup (ds.take a++[y]++ds.drop a),.ref i,.non]
def z79(hl:ds.length<=30)(h1:aB 1 ρ=λH=>.ok (.tup ds) H)(h2:aB 2 ρ=λH=>.ok (.int (a:Int)) H)(h4:aB 4 ρ=λH=>.ok y H):aQ CZ ρ H=.ok (.ref (H++[Gi ds]).length) ((H++[.lst ds])++[.lst (vR ds a y H.length)]):=by have a':=SN (H:=H) h1 h2;have b:=z78 (H:=H) h1 h2;have c:=SO (H:=H) h1 h2;have p1:=qW (ds.take a) [y] (by simp;lia) (H:=H);have p2:=qW (ds.take a++[y]) (ds.drop (a+1)) (by simp;lia) (H:=H);have p3:=qW (ds.take a++[y]) (ds.drop a) (by simp;lia) (H:=H);have p4:=qW (ds.take a) (ds.drop (a+1)) (by simp;lia) (H:=H);have l:=SQ (H:=H) (ds:=ds) (by lia);unfold vR CZ;generalize ds.take a++[y]++ds.drop (a+1)=z1 at p2;generalize ds.take a++[y]++ds.drop a=z2 at p3;generalize ds.take a++ds.drop (a+1)=z3 at p4;generalize ds.take a++[y]=z4 at p1 p2 p3;generalize ds.take a=z5 at a' p1 p4;generalize ds.drop a=z6 at c p3;generalize ds.drop (a+1)=z7 at b p2 p4;generalize qZ=A at a';generalize yN=B at b;generalize vQ=C at c;generalize f1 eV=F at l;simp[aQ,aA,aC,m2,a',b,c,aL,h4,lim,p1,p2,p3,p4,aD,h1,l,mC]
theorem SS{x:Dv}(hx:∀x∈ds,Ox x)(hy:Ox y){k l:Nat}(h:x∈ds.take k++[y]++ds.drop l):Ox x:=by
 simp only[cj,cz]at h
 rcases h with(z|z)|z
 ·exact hx x (vj z)
 ·rw[z];exact hy
 ·exact hx x (qk z)
theorem z7a{i:Nat}(g:getL H i=some ds)(hx:∀x∈ds,Ox x)(hy:Ox y)(hl:ds.length<=30):∀d∈vR ds a y i,Gd H d:=by
 intro d hd;simp only[vR,az,qc,or_false]at hd
 rcases hd with rfl|rfl|rfl|rfl|rfl
 ·exact Gd.tup (by simp;lia) λx h=>SS hx hy h
 ·exact Gd.tup (by simp;lia) λx h=>(cj.mp h).elim (λz=>hx x (vj z)) λz=>hx x (qk z)
 ·exact Gd.tup (by simp;lia) λx h=>SS hx hy h
 ·exact Gd.of0 ⟨_,g⟩ (λ_ z=>by cases z)
 ·exact Gd.of0 trivial (λ_ z=>by cases z)
def JD:MS:=BH (aL (aA (m2 aN (aB 1) (aB 3)) (aA (m2 aN (aB 1) (aB 2)) aC))) (aB 6) (aB 2) (aB 6) (aB 3)
def z7b(ha:a<ds.length)(hb:b<ds.length)(g:getL H i=some ds)(h1:aB 1 ρ=λH=>.ok (.tup ds) H)(h2:aB 2 ρ=λH=>.ok (.int (a:Int)) H)(h3:aB 3 ρ=λH=>.ok (.int (b:Int)) H)(h6:aB 6 ρ=λH=>.ok (.ref i) H):
  ∃H',JD ρ H=.nx ρ H'/\getL H' i=some ((ds.set a ds[b]).set b ds[a])/\Fr [i] H H'/\∀d,Gd H d->Gd H' d:=by
 have ia:=JC (H:=H) ha;have ib:=JC (H:=H) hb;have s1:kD (.ref i) (.int (a:Int)) ds[b] H=some (H.set i (.lst (ds.set a ds[b]))):=by simp[kD,g,eO,ha]
 have g1:getL (H.set i (.lst (ds.set a ds[b]))) i=some (ds.set a ds[b]):=lJ g;have f1':Fr [i] H (H.set i (.lst (ds.set a ds[b]))):=Hf;have u1:∀d,Gd H d->Gd (H.set i (.lst (ds.set a ds[b]))) d:=λd z=>Gd.upd g z;generalize H.set i (.lst (ds.set a ds[b]))=H1 at s1 g1 f1' u1;have s2:kD (.ref i) (.int (b:Int)) ds[a] H1=some (H1.set i (.lst ((ds.set a ds[b]).set b ds[a]))):=by
  have hb':b<(ds.set a ds[b]).length:=by simpa using hb
  simp[kD,g1,eO,hb]
 refine⟨_,?_,lJ g1,f1'.trans (T:=[i]) Hf (by simp),λd z=>Gd.upd g1 (u1 d z)⟩;generalize (ds.set a ds[b]).set b ds[a]=es at s2;generalize ds[a]=xa at ia s2;generalize ds[b]=xb at ib s1;simp[JD,BH,aL,aA,m2,h1,h2,h3,ia,ib,aC,lim,Rs.thenS,h6,s1,s2]
def DC:M Bj:=(aA (aD (f1 dS) (aA (aB 6) aC)) (aA (aD (f1 dS) (aA (aB 6) aC)) (aA (aD (f1 dS) (aA (aB 6) aC)) (aA (A5 (aB 1) (fZ (m1 oS (mC (.int 1))))) (aA (m2 aU vQ qZ) (aA (mC .edc) (aA (mC (.int 0)) (aA (aL (aA (aB 1) aC)) (aA (aB 1) aC)))))))))
def vS(ds es:Bj)(a:Nat):Bj:=[.tup es,.tup es,.tup es,.tup ds.reverse,.tup (ds.drop a++ds.take a),.edc,.int 0,.tup [.tup ds],.tup ds]
def z7c(hl:ds.length<=30)(g:getL H i=some es)(h1:aB 1 ρ=λH=>.ok (.tup ds) H)(h2:aB 2 ρ=λH=>.ok (.int (a:Int)) H)(h6:aB 6 ρ=λH=>.ok (.ref i) H):aQ DC ρ H=.ok (.ref H.length) (H++[.lst (vS ds es a)]):=by
 have a':=SN (H:=H) h1 h2;have c:=SO (H:=H) h1 h2;have p:=qW (ds.drop a) (ds.take a) (by simp;lia) (H:=H);have hg:∀H,oS (.int 1) H=.ok (.int (-1)) H:=λH=>rfl;have ht:f1 dS [.ref i] H=.ok (.tup es) H:=by simp[f1,dS,g]
 unfold DC vS;generalize ds.drop a++ds.take a=z at p;generalize qZ=A at a';generalize vQ=C at c;generalize f1 dS=F at ht;simp[aQ,aA,aC,aD,h6,ht,A5,h1,fZ,m1,mC,hg,uJ,GO,m2,a',c,p,aL,lim]
def z7d{ns:y'}(hd:ds=ns.map Gh)(he:∀x∈es,x∈ds)(le:es.length=ds.length)(hl:ds.length<=30):∀d∈vS ds es a,Gd H d:=by
 have hx:∀x∈ds,Ox x:=by rw[hd];exact yL
 have hes:Gd H (.tup es):=Gd.tup (by lia) λx h=>hx x (he x h);intro d Ej;simp only[vS,az,qc,or_false]at Ej
 rcases Ej with rfl|rfl|rfl|rfl|rfl|rfl|rfl|rfl|rfl
 ·exact hes
 ·exact hes
 ·exact hes
 ·exact Gd.tup (by simp;lia) λx h=>hx x (by simpa using h)
 ·exact Gd.tup (by simp;lia) λx h=>(cj.mp h).elim (λz=>hx x (qk z)) λz=>hx x (vj z)
 ·exact Gd.of0 trivial (λ_ z=>by cases z)
 ·exact Gd.of0 trivial (λ_ z=>by cases z)
 ·exact Gd.tup (by simp) λx h=>by
   have:x=.tup ds:=by simpa using h
   rw[this,hd];exact SK
 ·exact Gd.tup (by lia) hx
end
def z7e:pG=aI (xQ 2 3 (aA (aD cA (aA (aB 0) (aA (aD (f1 cQ) (aA (aB 1) aC)) aC))) (aA (aD cA (aA (aB 0) (aA (aD (f1 cQ) (aA (aB 1) aC)) aC))) aC))) (aI (aM (m2 aN (aQ yM) (aD cA (aA (aB 0) (aA (mC (.int 9)) aC)))) (aF 4)) (aI (aM (aQ CZ) (aF 5)) (aI (aM (aD (f1 eV) (aA (aB 1) aC)) (aF 6)) (aI JD (aI (aM (m2 aU (aB 5) (aQ DC)) (aF 5)) (aO (m2 aN (aB 5) (aD cA (aA (aB 0) (aA (mC (.int 14)) aC))))))))) ):=rfl
def bent_ok{st:Nat}{ns:y'}(s:Com.St st H)(hl:ns.length<=6)(hp:1<=ns.length):∃d H',jT [.ref st,.tup (ns.map Gh)] H=.ok d H'/\Gd H' d/\Com.St st H'/\Fr [st] H H':=by
 have hx:∀x∈ns.map Gh,Ox x:=yL;have hz:(ns.map Gh).length=ns.length:=by simp
 generalize hds:ns.map Gh=ds at hx hz;let⟨r1,H1,p1,q1,t1,f1',s1⟩:=jV (ds.length:Int) s (by lia) (by lia);let⟨r2,H2,p2,q2,t2,f2,s2⟩:=jV (ds.length:Int) s1 (by lia) (by lia);have w1:xQ 2 3 (aA (aD cA (aA (aB 0) (aA (aD (f1 cQ) (aA (aB 1) aC)) aC))) (aA (aD cA (aA (aB 0) (aA (aD (f1 cQ) (aA (aB 1) aC)) aC))) aC)) [some (.ref st),some (.tup ds),none,none,none,none,none] H=.nx [some (.ref st),some (.tup ds),some (.int r1),some (.int r2),none,none,none] H2:=by
  have e:∀H,aD (f1 cQ) (aA (aB 1) aC) [some (.ref st),some (.tup ds),none,none,none,none,none] H=.ok (.int ds.length) H:=λH=>IX rfl;generalize aD (f1 cQ) (aA (aB 1) aC)=M at e;generalize (ds.length:Int)=L at e t1 t2;have c:(aA (aD cA (aA (aB 0) (aA M aC))) (aA (aD cA (aA (aB 0) (aA M aC))) aC)) [some (.ref st),some (.tup ds),none,none,none,none,none] H=.ok [.int r1,.int r2] H2:=by simp[aD,aA,aB,e,aC,t1,t2]
  unfold xQ;rw[c];rfl
 obtain⟨a,rfl⟩:∃k:Nat,r1=k:=⟨r1.toNat,by lia⟩
 obtain⟨b,rfl⟩:∃k:Nat,r2=k:=⟨r2.toNat,by lia⟩
 have ha:a<ds.length:=by lia
 have hb:b<ds.length:=by lia
 let⟨y,H3,w3,oy,s3,f3⟩:=z77 (ρ:=[some (.ref st),some (.tup ds),some (.int (a:Int)),some (.int (b:Int)),none,none,none]) s2 hx hb rfl rfl rfl;have w3':aM (m2 aN (aQ yM) (aD cA (aA (aB 0) (aA (mC (.int 9)) aC)))) (aF 4) [some (.ref st),some (.tup ds),some (.int (a:Int)),some (.int (b:Int)),none,none,none] H2=.nx [some (.ref st),some (.tup ds),some (.int (a:Int)),some (.int (b:Int)),some y,none,none] H3:=qX w3 rfl;have e4:=z79 (H:=H3) (ds:=ds) (a:=a) (y:=y) (ρ:=[some (.ref st),some (.tup ds),some (.int (a:Int)),some (.int (b:Int)),some y,none,none]) (by lia) rfl rfl rfl;have g4a:getL (H3++[Gi ds]) H3.length=some ds:=last_get;have f4a:Fr [] H3 (H3++[Gi ds]):=Gj;generalize H3++[Gi ds]=H3a at e4 g4a f4a;generalize H3.length=i3 at e4 g4a;have gd4:=z7a (H:=H3a) (a:=a) g4a hx oy (by lia);have l5:(vR ds a y i3).length=5:=rfl;generalize vR ds a y i3=L1 at e4 gd4 l5;have g4:getL (H3a++[Gi L1]) H3a.length=some L1:=last_get;have f4b:Fr [] H3a (H3a++[Gi L1]):=Gj;have f4:Fr [] H3 (H3a++[Gi L1]):=f4a.trans f4b (by simp);have w4:aM (aQ CZ) (aF 5) [some (.ref st),some (.tup ds),some (.int (a:Int)),some (.int (b:Int)),some y,none,none] H3=.nx [some (.ref st),some (.tup ds),some (.int (a:Int)),some (.int (b:Int)),some y,some (.ref H3a.length),none] (H3a++[.lst L1]):=qX e4 rfl;have gd4':∀d∈L1,Gd (H3a++[Gi L1]) d:=λd hd=>(gd4 d hd).fr0 f4b;have s4:=s3.fr f4 (by simp);generalize H3a++[Gi L1]=H4 at w4 g4 f4 gd4' s4;generalize H3a.length=i4 at w4 g4;have w5:aM (aD (f1 eV) (aA (aB 1) aC)) (aF 6) [some (.ref st),some (.tup ds),some (.int (a:Int)),some (.int (b:Int)),some y,some (.ref i4),none] H4=.nx [some (.ref st),some (.tup ds),some (.int (a:Int)),some (.int (b:Int)),some y,some (.ref i4),some (.ref H4.length)] (H4++[.lst ds]):=z6y rfl (SQ (by lia)) rfl;have g5:getL (H4++[Gi ds]) H4.length=some ds:=last_get;have f5:Fr [] H4 (H4++[Gi ds]):=Gj;have lt4:=s4.lt;have n5:H4.length≠st:=by lia
 have n54:i4≠H4.length:=by have:=qL g4;lia
 have s5:=s4.fr f5 (by simp);have g4':=f5.getL g4 (by simp);have vG:H.length<=H4.length:=cp ((f1'.trans f2 (by simp)).trans f3 (by simp):Fr [st] H H3).le f4.le;generalize H4++[Gi ds]=H5 at w5 g5 f5 s5 g4';generalize H4.length=i5 at w5 g5 n5 n54 vG;let⟨H6,w6,g6,f6,u6⟩:=z7b (ρ:=[some (.ref st),some (.tup ds),some (.int (a:Int)),some (.int (b:Int)),some y,some (.ref i4),some (.ref i5)]) ha hb g5 rfl rfl rfl rfl;have g4'':=f6.getL g4' (by simpa using n54);have s6:Com.St st H6:=by let⟨u,v,es'⟩:=s5;exact⟨u,v,f6.getL es' (by simpa using dh n5)⟩
 have gd6:∀d∈L1,Gd H6 d:=λd hd=>u6 d ((gd4' d hd).fr0 f5);have hes:∀x∈(ds.set a ds[b]).set b ds[a],x∈ds:=λx Fz=>by
  rcases zf Fz with z|z
  ·rcases zf z with z|z
   ·exact z
   ·rw[z];exact dj hb
  ·rw[z];exact dj ha
 have les:((ds.set a ds[b]).set b ds[a]).length=ds.length:=by simp
 generalize (ds.set a ds[b]).set b ds[a]=es at g6 hes les;have e7:=z7c (H:=H6) (ρ:=[some (.ref st),some (.tup ds),some (.int (a:Int)),some (.int (b:Int)),some y,some (.ref i4),some (.ref i5)]) (a:=a) (ds:=ds) (by lia) g6 rfl rfl rfl;have gd7:=z7d (H:=H6) (a:=a) hds.symm hes les (by lia);have l9:(vS ds es a).length=9:=rfl;generalize vS ds es a=L2 at e7 gd7 l9;have g7:getL (H6++[Gi L2]) H6.length=some L2:=last_get;have f7:Fr [] H6 (H6++[Gi L2]):=Gj;have g47:=f7.getL g4'' (by simp);generalize H6++[Gi L2]=H7 at e7 g7 f7 g47;have a7:=addL (H:=H7) g47 g7 (by lia);have w7:aM (m2 aU (aB 5) (aQ DC)) (aF 5) [some (.ref st),some (.tup ds),some (.int (a:Int)),some (.int (b:Int)),some y,some (.ref i4),some (.ref i5)] H6=.nx [some (.ref st),some (.tup ds),some (.int (a:Int)),some (.int (b:Int)),some y,some (.ref H7.length),some (.ref i5)] (H7++[.lst (L1++L2)]):=qX (CP rfl e7 a7) rfl;have f8:Fr [] H7 (H7++[Gi (L1++L2)]):=Gj;have g8:getL (H7++[Gi (L1++L2)]) H7.length=some (L1++L2):=last_get;have f78:=f7.trans f8 (T:=[]) (by simp);have s8:=s6.fr f78 (by simp);have lt7:=(s6.fr f7 (by simp)).lt;have n8:H7.length≠st:=by lia
 have gd8:∀d∈L1++L2,Gd (H7++[Gi (L1++L2)]) d:=λd hd=>by
  rcases cj.mp hd with z|z
  ·exact(gd6 d z).fr0 f78
  ·exact(gd7 d z).fr0 f78
 have l14:(L1++L2).length=14:=by rw[bw,l5,l9]
 generalize L1++L2=L at w7 f8 g8 f78 s8 gd8 l14;generalize H7++[Gi L]=H8 at w7 f8 g8 f78 s8 gd8;generalize H7.length=i7 at w7 g8 n8;let⟨q,H9,q0,q9,t9,f9,s9⟩:=jV 14 s8;have g9:=f9.getL g8 (by simpa using n8);obtain⟨j,rfl⟩:∃j:Nat,q=j:=⟨q.toNat,by lia⟩
 have hj:j<L.length:=by lia
 have x9:=ixL g9 hj;have f03:Fr [st] H H3:=(f1'.trans f2 (by simp)).trans f3 (by simp);have f05:Fr [st] H H5:=(f03.trans f4 (by simp)).trans f5 (by simp);have f06:Fr [st] H H6:=f05.trans f6 (by simpa using Or.inr vG);refine⟨L[j],H9,?_,(gd8 _ (dj hj)).fr f9 s9,s9,(f06.trans f78 (by simp)).trans f9 (by simp)⟩;show bF (pG [some (.ref st),some (.tup ds),none,none,none,none,none] H)=_;rw[z7e,aX w1,aX w3',aX w4,aX w5,aX w6,aX w7];simp[aO,m2,aB,aD,aA,mC,aC,t9,x9,bF]
def z7f(e:yE ρ H=.ok ds H'):∀x∈ds,hW x=false:=by
 have e2:Gz _ _=Gz ds H':=e;injection e2 with e3 e4;subst e3
 repeat' (first|exact vv _|refine vk.mpr ⟨rfl,?_⟩)
def z7g(e:yF ρ H=.ok ds H'):∀x∈ds,hW x=false:=by
 have e2:Gz _ _=Gz ds H':=e;injection e2 with e3 e4;subst e3
 repeat' (first|exact vv _|refine vk.mpr ⟨rfl,?_⟩)
def z7h(e:yG ρ H=.ok ds H'):∀x∈ds,hW x=false:=by
 have e2:Gz _ _=Gz ds H':=e;injection e2 with e3 e4;subst e3
 repeat' (first|exact vv _|refine vk.mpr ⟨rfl,?_⟩)
def MnB(n:Nat)(H:Hs)(i:Nat):Prop:=∃ds,getL H i=some ds/\ds.length=n/\(∀x∈ds,TK 3 H x)/\∀x∈ds,hW x=false
section
variable{n m:Nat}{H H':Hs}{i j:Nat}
def MnB.fr0(h:MnB n H i)(f:Fr [] H H'):MnB n H' i:=by let⟨ds,e,l,t,b⟩:=h;exact⟨ds,f.getL e (by simp),l,λx hx=>(t x hx).fr0 f,b⟩
def MnB.fr{st:Nat}(h:MnB n H i)(f:Fr [st] H H')(s:Com.St st H')(hi:i≠st):MnB n H' i:=by let⟨ds,e,l,t,b⟩:=h;exact⟨ds,f.getL e (by simpa using hi),l,λx hx=>(t x hx).fr f s,b⟩
def JE{ms:M Bj}(h:oI (λ_ _=>True) 3 n ms)(hb:∀{ρ:Ev}{H H':Hs}{ds:Bj},ms ρ H=.ok ds H'->∀x∈ds,hW x=false)(hn:n<=500):∃i H',aQ ms ρ H=.ok (.ref i) H'/\MnB n H' i/\Fr [] H H'/\H.length<=i:=by let⟨ds,H1,e1,f1,l1,t1⟩:=h ρ H trivial;refine⟨H1.length,H1++[.lst ds],?_,⟨ds,last_get,l1,λx hx=>(t1 x hx).fr0 Gj,hb e1⟩,f1.trans (T:=[]) Gj (by simp),f1.le⟩;unfold aQ lim;rw[e1,Rs.bind_ok,if_pos (by lia)]
def SU(a:MnB n H i)(b:MnB m H j)(hn:n+m<=500):∃H',aU (.ref i) (.ref j) H=.ok (.ref H.length) H'/\MnB (n+m) H' H.length/\Fr [] H H':=by
 let⟨ds,e1,l1,t1,b1⟩:=a;let⟨es,e2,l2,t2,b2⟩:=b;refine⟨_,addL e1 e2 (by lia),⟨ds++es,last_get,by simp[l1,l2],λx hx=>?_,λx hx=>?_⟩,Gj⟩
 ·rcases cj.mp hx with hx|hx
  ·exact(t1 x hx).fr0 Gj
  ·exact(t2 x hx).fr0 Gj
 ·rcases cj.mp hx with hx|hx
  ·exact b1 x hx
  ·exact b2 x hx
end
theorem bad_no{st:Nat}{H:Hs}(s:Com.St st H):∃d H',iY [.ref st] H=.ok d H'/\TK 3 H' d/\hW d=false/\Com.St st H'/\Fr [st] H H':=by
 have hP:SE λ_ _=>True:=λ_ _ _ _ _=>trivial;have lt:=s.lt;have k1:oI (λ_ _=>True) 3 10 yE:=(by
   unfold yE
   repeat' (first|exact IK|apply IL hP|exact IM|exact IP|exact IQ|exact IS|exact IT|apply CO|apply IU|apply IV)
   all_goals decide)
 have k2:oI (λ_ _=>True) 3 6 yF:=(by
   unfold yF
   repeat' (first|exact IK|apply IL hP|exact IM|exact IP|exact IQ|exact IS|exact IT|apply CO|apply IU|apply IV)
   all_goals decide)
 have k3:oI (λ_ _=>True) 3 8 yG:=(by
   unfold yG
   repeat' (first|exact IK|apply IL hP|exact IM|exact IP|exact IQ|exact IS|exact IT|apply CO|apply IU|apply IV)
   all_goals decide)
 obtain⟨i1,H1,e1,m1,f1,l1⟩:=JE (ρ:=[some (.ref st),none]) (H:=H) k1 z7f (by decide);obtain⟨j2,H2,e2,m2',f2,l2⟩:=JE (ρ:=[some (.ref st),some (.ref i1)]) (H:=H1) k2 z7g (by decide);obtain⟨H3,e3,m3,f3⟩:=SU (m1.fr0 f2) m2' (by decide);obtain⟨j4,H4,e4,m4,f4,l4⟩:=JE (ρ:=[some (.ref st),some (.ref H2.length)]) (H:=H3) k3 z7h (by decide);obtain⟨H5,e5,m5,f5⟩:=SU (m3.fr0 f4) m4 (by decide);have g:Fr [] H H5:=(((f1.trans f2 (by simp)).trans f3 (by simp)).trans f4 (by simp)).trans f5 (by simp);obtain⟨r,H6,r0,r1,t6,f6,s6⟩:=jV 24 (s.fr g (by simp));have hle:H.length<=H4.length:=((f1.trans (f2.trans (f3.trans f4 (by simp)) (by simp)) (by simp)):Fr [] H H4).le;obtain⟨ds,e7,l7,t7,b7⟩:=m5.fr f6 s6 (by lia);obtain⟨j,rfl⟩:∃j:Nat,r=j:=⟨r.toNat,by lia⟩
 have hj:j<ds.length:=by lia
 have e8:=ixL e7 hj;refine⟨ds[j],H6,?_,t7 _ (dj hj),b7 _ (dj hj),s6,(g.mono (T:=[st]) (by simp)).trans f6 (by simp)⟩;show bF (kJ [some (.ref st),none] H)=_;have w1:aM (aQ yE) (aF 1) [some (.ref st),none] H=.nx [some (.ref st),some (.ref i1)] H1:=by unfold aM;rw[e1];rfl
 have w2:aM (L2.Mr.m2 aU (aB 1) (aQ yF)) (aF 1) [some (.ref st),some (.ref i1)] H1=.nx [some (.ref st),some (.ref H2.length)] H3:=by unfold aM;rw[CP rfl e2 e3];rfl
 have w3:aM (L2.Mr.m2 aU (aB 1) (aQ yG)) (aF 1) [some (.ref st),some (.ref H2.length)] H3=.nx [some (.ref st),some (.ref H4.length)] H5:=by unfold aM;rw[CP rfl e4 e5];rfl
 rw[z6f,aX w1,aX w2,aX w3];simp[aO,L2.Mr.m2,aB,aD,aA,mC,aC,t6,e8,bF]
end L2.Mr.K05
namespace L2.Mr.Sam
open L2.Mr.Gen
open L2.Mr.Com hiding dM iZ
end L2.Mr.Sam
namespace L2.Mr.K04
open L2.Mr.Gen
open L2.Mr.Com hiding dM iZ
open L2.Mr.Sam
open L2.Mr.Cod (last_get addL ixL)
open L2.Mr.K05 (ix iG qY CT sY vN Cg Co mQ CW sZ)
abbrev cF(r:y'):Dv:=.tup (r.map Gh)
section
variable{n st:Nat}{ps:wo}{H:Hs}{ρ:Ev}{r:y'}
def mS{C:M Bj}(e:C ρ H=.ok xs H1):bQ C ρ H=.ok (.ref H1.length) (H1++[.lst xs]):=by unfold bQ;rw[e];rfl
end
open L2.Mr.Cod (last_get ixL)
end L2.Mr.K04
namespace L2.Mr.Gen
abbrev At(ρ:Ev)(i:Nat)(d:Dv):Prop:=ρ[i]?=some (some d)
section
variable{ρ:Ev}{i j:Nat}{d:Dv}{H H':Hs}
def At.v(h:At ρ i d):aB i ρ=λH=>.ok d H:=by funext H;unfold aB;rw[h]
def At.new(h:i<ρ.length):At (ρ.set i (some d)) i d:=by simp[At,h]
def At.o(h:At ρ j d)(hn:i≠j:=by decide):At (ρ.set i x) j d:=(fj hn).trans h
def JF{m:M Dv}{v:Dv}(e:m ρ H=.ok v H'):aM m (aF i) ρ H=.nx (ρ.set i (some v)) H':=qX e rfl
end
end L2.Mr.Gen
namespace L2.Mr.K06
open L2.Mr.Gen
open L2.Mr.Com hiding dM iZ
open L2.Mr.Sam
open L2.Mr.Cod (last_get ixL)
open L2.Mr.K04 (cF mS)
open L2.Mr.K05 (ix sY iG Cg Co mQ JA)
end L2.Mr.K06
namespace L2.Mr.Sp
open L2.Mr.Com
open L2.Mr.K05 (ix sY vN qY iG Cg Co mQ pL)
section
variable{n m:Nat}{ps qs:wo}{r l:y'}
structure RowL(n:Nat)(ps:wo)(r:y'):Prop where
 rng:∀x∈r,0<=x/\x<n
 nd:r.Nodup
 len:r.length=n
 up:∀q∈ps,ix r q.1<ix r q.2
end
end L2.Mr.Sp
namespace L2.Mr.K03
open L2.Mr.Com hiding dM iZ
open L2.Mr.Sam
open L2.Mr.Gen
open L2.Mr.Cod (last_get addL ixL)
section
variable{n:Nat}{ps qs:wo}{H:Hs}{ρ:Ev}
def z7i(qs:wo):bE nO (qs.map aG)=some (qs.map hO):=by
 induction qs with
 |nil=>rfl
 |cons q qs ih=>simp[bE,ih,aG,nO,fI,hO]
def SV(g:getL H i=some (qs.map aG))(hl:qs.length<64):lN (.ref i) H=.ok (.ref H.length) (H++[.lst ((fG cP qs).map aG)]):=by
 cases qs with
 |nil=>
  have h1:qK (.ref i) H=.ok (.ref H.length) (H++[.lst []]):=by simp[qK,g,bE,gB]
  unfold lN;rw[h1];rfl
 |cons q qs=>
  have h1:qK (.ref i) H=.bad:=by simp[qK,g,bE,aG,fI]
  have hk:=z7i (q::qs);have hn:sH ((q::qs).map hO)=true:=by unfold sH;rw[dv];intro k hk;obtain⟨z,_,rfl⟩:=cf.mp hk;rfl
  have hs:(fG cR ((q::qs).map hO)).map sG=(fG cP (q::qs)).map aG:=by rw[OM uR,jf];rfl
  have hl':((q::qs).map hO).length<64:=by simpa using hl
  have h2:uT (.ref i) H=.ok (.ref H.length) (H++[.lst ((fG cR ((q::qs).map hO)).map sG)]):=by simp only[uT,g,hk,hn,decide_eq_true hl',Bool.and_self,if_true]
  unfold lN;rw[h1];show uT (.ref i) H=_;rw[h2,hs]
def tD{mn ma:M Dv}(h0:mn ρ H=.ok (.int n) H)(ha:ma ρ H=.ok (.ref i) H1)(g:getL H1 i=some (qs.map aG))(hl:qs.length<64):
  aL (aA mn (aA (aD (f1 dS) (aA (aD (f1 lN) (aA ma aC)) aC)) aC)) ρ H=.ok (aH n (fG cP qs)) (H1++[.lst ((fG cP qs).map aG)]):=by
 have s:=SV g hl;have g2:getL (H1++[Gi ((fG cP qs).map aG)]) H1.length=some ((fG cP qs).map aG):=last_get;have t:dS (.ref H1.length) (H1++[Gi ((fG cP qs).map aG)])=.ok (.tup ((fG cP qs).map aG)) (H1++[Gi ((fG cP qs).map aG)]):=by simp[dS,g2]
 simp[aL,aA,h0,aD,ha,aC,f1,s,t,lim,aH]
end
end L2.Mr.K03
namespace L2.Mr.K81
open L2.Mr.Com
section
variable{H:Hs}
def same_int:dM (n+1) [.int x,.int x] H=.ok (.bl true) H:=by simp[dM,iZ,bA,bY,aI,bK,bJ,m1,bI,aB,jN,xF,fO,bW,aO,fH,m2,bR,cD,bD,bG,nG,bF]
def same_tup{xs:Bj}(hl:xs.length<=1000)(h:∀x∈xs,dM n [x,x] H=.ok (.bl true) H):dM (n+1) [.tup xs,.tup xs] H=.ok (.bl true) H:=by
 have hc:bO (aT qA (aA (aB 0) (aA (aB 1) aC))) [none,none] (cC 2 (aV (aF 0) (aV (aF 1) cE))) cH (bB (aD (dM n) (aA (aB 0) (aA (aB 1) aC)))) [some (.tup xs),some (.tup xs)] H=.ok (xs.filterMap λx=>some (.bl ((λ_=>true) x))) H:=gN xs (λx=>some (.bl ((λ_=>true) x))) (λρ=>∃a b,ρ=[a,b]) rfl (by simp[pZ,cG]) ⟨_,_,rfl⟩ rfl (λk hk ρ⟨a,b,e⟩=>by subst e;refine⟨.tup [xs[k],xs[k]],[some xs[k],some xs[k]],by simp[pZ,cG,hk],rfl,⟨_,_,rfl⟩,rfl,?_⟩;simp[aD,aA,aB,aC,h xs[k] (dj hk)]) (by lia);have hz:=sU hc;have ht:xs.all (λ_=>true)=true:=by simp
 rw[ht]at hz;have e1:bI xF (.tup xs) H=.ok (.bl true) H:=rfl;have e2:bI gH (.tup xs) H=.ok (.bl true) H:=rfl;have e3:bI xE (.tup xs) H=.ok (.bl false) H:=rfl;have e4:f1 cQ [.tup xs] H=.ok (.int xs.length) H:=rfl;have n1:bZ (.bl true) (.bl true) H=.ok (.bl false) H:=rfl;have n2:bZ (.bl false) (.bl false) H=.ok (.bl false) H:=rfl;have n3:∀i:Int,bZ (.int i) (.int i) H=.ok (.bl false) H:=λi=>by simp[bZ,cD,bD,bG]
 simp[dM,iZ,bA,bY,aI,bK,bJ,m1,aB,e1,e2,e3,fO,eR,mB,m2,n1,n2,dW,bW,aD,aA,aC,e4,n3,aO,hz,bF]
def z7j(p:Int×Int):dM (n+2) [aG p,aG p] H=.ok (.bl true) H:=
 same_tup (by simp) λx hx=>by
  simp only[az,qc,or_false]at hx
  rcases hx with rfl|rfl<;>exact same_int
def same_ord{ps:wo}(hl:ps.length<=1000):dM 6 [.tup [.int m,.tup (ps.map aG)],.tup [.int m,.tup (ps.map aG)]] H=.ok (.bl true) H:=
 same_tup (by simp) λx hx=>by
  simp only[az,qc,or_false]at hx
  rcases hx with rfl|rfl
  ·exact same_int
  ·exact same_tup (by simpa using hl) λy hy=>by obtain⟨p,_,rfl⟩:=cf.mp hy;exact z7j p
end
end L2.Mr.K81
namespace L2.Mr.Sp
open L2.Mr.Com
open L2.Mr.K05 (ix sY vN qY)
def gO(n:Nat)(qs:wo):wo:=qs.map λq=>((n:Int)+q.1,(n:Int)+q.2)
def gJ(n m:Nat):wo:=(ba n).flatMap λa:Nat=>(ba m).map λj:Nat=>((a:Int),(n:Int)+(j:Int))
def iH(n:Nat)(ps qs:wo):wo:=ps++gO n qs
def rA(n:Nat)(ps:wo)(m:Nat)(qs:wo):wo:=fG cP (iH n ps qs++gJ n m)
section
variable{n m:Nat}{ps qs:wo}{r:y'}{a b x:Int}
def mem_sh:(a,b)∈gO n qs↔(a-n,b-n)∈qs:=by
 unfold gO;rw[cf];constructor
 ·rintro ⟨q,hq,e⟩
  injection e with e1 e2;rw[<-e1,<-e2,show(n:Int)+q.1-n=q.1 by lia,show(n:Int)+q.2-n=q.2 by lia];exact hq
 ·intro h;exact⟨_,h,by simp only[Prod.mk.injEq];lia⟩
def mem_bt:(a,b)∈gJ n m↔0<=a/\a<n/\n<=b/\b<n+m:=by
 unfold gJ;simp only[ue,bx,cf,Prod.mk.injEq];constructor
 ·rintro ⟨i,hi,j,hj,rfl,rfl⟩;lia
 ·intro h;exact⟨a.toNat,by lia,(b-n).toNat,by lia,by lia,by lia⟩
def z7k:(gJ n m).length=n*m:=by
 unfold gJ;have:∀l:A',(l.flatMap λa:Nat=>(ba m).map λj:Nat=>((a:Int),(n:Int)+(j:Int))).length=l.length*m:=λl=>by
  induction l with
  |nil=>simp
  |cons a l ih=>rw[jq,bw,ih,di,qw];simp;lia
 rw[this];simp
def Dl:(a,b)∈iH n ps qs↔(a,b)∈ps∨(a-n,b-n)∈qs:=by unfold iH;rw[cj,mem_sh]
def Dy:(a,b)∈rA n ps m qs↔(a,b)∈ps∨(a-n,b-n)∈qs∨(0<=a/\a<n/\n<=b/\b<n+m):=by unfold rA;rw[(rZ _).mem_iff,cj,Dl,mem_bt,or_assoc]
def SX:cP p q=true↔p.1<q.1∨(p.1=q.1/\p.2<q.2):=by
 unfold cP
 by_cases c:p.1=q.1
 ·simp[c]
 ·simp[c]
def z7l{l:wo}(h:l.Nodup):eW cP (fG cP l):=by rw[<-z0i Dh l h];exact qM Dh l
def z7m(o:Bt m qs):eW cP (gO n qs):=by
 unfold gO eW;refine vf _ (λp q h=>?_) o.rise;rw[SX]at *;simp only
 lia
def rg(o:Bt n ps)(h:(a,b)∈ps):0<=a/\a<n/\0<=b/\b<n:=o.rng _ h
def SY(o:Bt n ps)(o':Bt m qs):eW cP (iH n ps qs):=by refine Ay.mpr ⟨o.rise,z7m o',λp hp q hq=>?_⟩;let⟨a,b⟩:=p;let⟨c,d⟩:=q;have h1:=rg o hp;have h2:=rg o' (mem_sh.mp hq);rw[SX];left;simp only;lia
def z7n(o:Bt n ps)(o':Bt m qs)(h:n+m<=6):Bt (n+m) (iH n ps qs):=by
 refine⟨by have:=o.n1;lia,h,λ⟨a,b⟩hp=>?_,SY o o',λ⟨a,b⟩hp=>?_,λ⟨a,b⟩hp⟨c,d⟩hq e=>?_⟩
 ·simp only
  rcases Dl.mp hp with k|k
  ·have:=rg o k;lia
  ·have:=rg o' k;lia
 ·simp only
  rcases Dl.mp hp with k|k
  ·exact o.irr _ k
  ·have:=o'.irr _ k;simp only at this;lia
 ·simp only at e⊢;subst e;rw[Dl]
  rcases Dl.mp hp with k|k<;>rcases Dl.mp hq with k'|k'
  ·exact .inl (o.tr _ k _ k' rfl)
  ·have:=rg o k;have:=rg o' k';lia
  ·have:=rg o' k;have:=rg o k';lia
  ·exact .inr (o'.tr _ k _ k' rfl)
def z7o(o:Bt n ps)(o':Bt m qs):(iH n ps qs++gJ n m).Nodup:=by
 refine xh.mpr ⟨sC Dh (SY o o'),?_,λp hp q hq e=>?_⟩
 ·unfold gJ List.Nodup;rw[List.pairwise_flatMap];refine⟨λa _=>vf _ (λi j(h:i<j)=>by simp;lia) pb,pb.imp λ{a b}h p hp q hq e=>?_⟩;obtain⟨i,_,rfl⟩:=cf.mp hp;obtain⟨j,_,rfl⟩:=cf.mp hq;injection e with e1 e2
  lia
 ·subst e;let⟨a,b⟩:=p;have h1:=mem_bt.mp hq
  rcases Dl.mp hp with k|k
  ·have:=rg o k;lia
  ·have:=rg o' k;lia
def S0(o:Bt n ps)(o':Bt m qs)(h:n+m<=6):Bt (n+m) (rA n ps m qs):=by
 refine⟨by have:=o.n1;lia,h,λ⟨a,b⟩hp=>?_,z7l (z7o o o'),λ⟨a,b⟩hp=>?_,λ⟨a,b⟩hp⟨c,d⟩hq e=>?_⟩
 ·simp only
  rcases Dy.mp hp with k|k|k
  ·have:=rg o k;lia
  ·have:=rg o' k;lia
  ·lia
 ·simp only
  rcases Dy.mp hp with k|k|k
  ·exact o.irr _ k
  ·have:=o'.irr _ k;simp only at this;lia
  ·lia
 ·simp only at e⊢;subst e;rw[Dy]
  rcases Dy.mp hp with k|k|k<;>rcases Dy.mp hq with k'|k'|k'
  ·exact .inl (o.tr _ k _ k' rfl)
  ·have:=rg o k;have:=rg o' k';lia
  ·have:=rg o k;right;right;lia
  ·have:=rg o' k;have:=rg o k';lia
  ·exact .inr (.inl (o'.tr _ k _ k' rfl))
  ·have:=rg o' k;lia
  ·have:=rg o k';lia
  ·have:=rg o' k';right;right;lia
  ·lia
def JG(n:Nat)(r r':y'):y':=r++r'.map λx=>(n:Int)+x
end
end L2.Mr.Sp
namespace L2.Mr.K06
open L2.Mr.Gen
open L2.Mr.Com hiding dM iZ
open L2.Mr.Sam
open L2.Mr.Cod (last_get ixL)
open L2.Mr.K04 (cF mS)
section
variable{n:Nat}{ps:wo}{r:y'}{H:Hs}{ρ:Ev}
def vT{F:Bi}{a v:Dv}(ha:aB x ρ=λH=>.ok a H)(e:F [a] H=.ok v H'):aD F (aA (aB x) aC) ρ H=.ok v H':=by simp[aD,aA,ha,aC,e]
def tE{F:Bi}{m:M Dv}{a v:Dv}(ha:m ρ H=.ok a H1)(e:F [a] H1=.ok v H'):aD F (aA m aC) ρ H=.ok v H':=by simp[aD,aA,ha,aC,e]
end
end L2.Mr.K06
namespace L2.Mr.Com
section
variable{st:Nat}
theorem S1{H:Hs}{m:Int}(m1:1<=m)(m6:m<=6)(s:St st H):∃(n:Nat)(cs:wo)(H':Hs),gE [.ref st,.int m] H=.ok (aH n cs) H'/\Bt n cs/\(n:Int)<=m/\St st H'/\Fr [st] H H':=by
 have lt:=s.lt;obtain⟨v,H1,v0,v1,w1,s1,f1'⟩:=oG (m:=m) (x2:=none) (x3:=none) (x4:=none) (x5:=none) (x6:=none) (x7:=none) (x8:=none) (x9:=none) s;obtain⟨n,n1,hnm,hn⟩:∃n:Nat,1<=n/\(n:Int)<=m/\(if m-v>1 then m-v else 1)=(n:Int):=by
  by_cases c:m-v>1
  ·exact⟨(m-v).toNat,by lia,by lia,by rw[if_pos c];lia⟩
  ·exact⟨1,by lia,by lia,by rw[if_neg c];rfl⟩
 have n6:n<=6:=by lia
 have w2:o2 [some (.ref st),some (.int m),some (.int (m-v)),none,none,none,none,none,none,none] H1=.nx [some (.ref st),some (.int m),some (.int n),none,none,none,none,none,none,none] H1:=by
  have hm:oP [.int 1,.int (m-v)] H1=.ok (.int n) H1:=by rw[<-hn];rfl
  simp[o2,aM,aD,aA,mC,aB,aC,hm,aF]
 have hL:nQ (.int n) H1=.ok (.ref H1.length) (H1++[.lst ((cO n).map Gh)]):=by
  have c:(decide (0<=(n:Int))&&decide ((n:Int)<=1000))=true:=by simp;lia
  simp only[nQ,c,if_true]
 have fL:Fr [] H1 (H1++[Gi ((cO n).map Gh)]):=Gj;obtain⟨ir,ys,H2,t2,er,pm,hir,s2,f2⟩:=z5r (s1.fr fL (by simp)) (j:=H1.length) (xs:=cO n) (by simp[getL]) (by simp[cO];lia);have l1:=s1.lt;have hir':H1.length+1<=ir:=by simpa using hir
 have w3:o3 [some (.ref st),some (.int m),some (.int n),none,none,none,none,none,none,none] H1=.nx [some (.ref st),some (.int m),some (.int n),some (.ref ir),none,none,none,none,none,none] H2:=by simp[o3,aM,aD,aA,aB,aC,f1,hL,t2,aF]
 have hy:ys.length=n:=by rw[pm.length_eq];simp[cO]
 obtain⟨w,H3,w0,w5,t3,f3,s3⟩:=jV 5 s2;have er3:=f3.getL er (by simp;lia);have w4:o4 [some (.ref st),some (.int m),some (.int n),some (.ref ir),none,none,none,none,none,none] H2=.nx [some (.ref st),some (.int m),some (.int n),some (.ref ir),some (.int w),none,none,none,none,none] H3:=by simp[o4,aM,aD,aA,aB,mC,aC,t3,aF]
 have w5':o5 [some (.ref st),some (.int m),some (.int n),some (.ref ir),some (.int w),none,none,none,none,none] H3=.nx [some (.ref st),some (.int m),some (.int n),some (.ref ir),some (.int w),some (.ref H3.length),none,none,none,none] (H3++[.lst []]):=rfl;have fM:Fr [] H3 (H3++[Gi []]):=Gj;have eP:getL (H3++[Gi []]) H3.length=some (([]:wo).map aG):=by simp[getL]
 have l2:=qL er;have l3:=qL er3;have l4:=s3.lt;obtain⟨ms,H4,hms,w6,s4,f4⟩:=oH (x1:=some (.int m)) (x2:=some (.int n)) (x4:=some (.int w)) (x5:=some (.ref H3.length)) (x6:=none) (x7:=none) (x8:=none) (x9:=none) (s3.fr fM (by simp)) (fM.getL er3 (by simp)) (by lia) (by lia);have eP4:=f4.getL eP (by simp;lia);have er4:=f4.getL (fM.getL er3 (by simp)) (by simp;lia);have hle:H3.length+1<=H4.length:=by have:=f4.le;simpa using this
 have fN:Fr [] H4 (H4++[Gi (ms.map Gh)]):=Gj;have D:Std st ir H4.length ys ms (H4++[Gi (ms.map Gh)]):=⟨s4.fr fN (by simp),fN.getL er4 (by simp),by simp[getL]⟩
 obtain⟨x7,x8,x9,H5,ps,w7,eP5,hb,D5,f5⟩:=oE (d1:=.int m) (w:=w) (ip:=H3.length) (n:=n) (x7:=none) (x8:=none) (x9:=none) D (fN.getL eP4 (by simp)) ⟨w0,w5⟩ n6 hy (by lia) (by lia) (by lia) (by lia) (by lia) (by lia);have fall:Fr [st] H H5:=by
  have g1:Fr [st] H H2:=(f1'.trans fL (by simp)).trans f2 (by simp);have g2:Fr [st] H (H3++[Gi []]):=(g1.trans f3 (by simp)).trans fM (by simp);have g3:Fr [st] H (H4++[Gi (ms.map Gh)]):=(g2.trans f4 (by simp)).trans fN (by simp);refine g3.trans f5 λj hj=>?_
  rcases az.mp hj with rfl|hj
  ·exact .inl (by simp)
  ·rw[cz.mp hj];have:=f1'.le;have:=f2.le;have:=f3.le;right;lia
 have fin:∀(q:Nat)(y7:Bk)(H6:Hs)(qs:wo),getL H6 q=some (qs.map aG)->CL n qs->Fr [] H5 H6->o8 (cI st ir H3.length H4.length n w (.int m) x7 x8 x9) H5=.nx (cI st ir q H4.length n w (.int m) y7 x8 x9) H6->
   ∃(cs:wo)(H':Hs),gE [.ref st,.int m] H=.ok (aH n cs) H'/\Bt n cs/\(n:Int)<=m/\St st H'/\Fr [st] H H':=λq y7 H6 qs eq6 g6 f6 w8=>by
  obtain⟨cs,j,H7,hc,tc,ec,f7⟩:=z61 n6 g6.1 (R4 eq6);refine⟨cs,H7,?_,z62 n1 n6 g6 hc,hnm,(D5.s.fr f6 (by simp)).fr f7 (by simp),(fall.trans f6 (by simp)).trans f7 (by simp)⟩;have w9:o9 (cI st ir q H4.length n w (.int m) y7 x8 x9) H6=.rt (aH n cs) H7:=by
   have h1:aD gD (aA (aB 5) aC) (cI st ir q H4.length n w (.int m) y7 x8 x9) H6=.ok (.ref j) H7:=by simp[aD,aA,aB,aC,tc]
   have h2:aD (f1 dS) (aA (aD gD (aA (aB 5) aC)) aC) (cI st ir q H4.length n w (.int m) y7 x8 x9) H6=.ok (.tup (cs.map aG)) H7:=by
    have h0:aA (aD gD (aA (aB 5) aC)) aC (cI st ir q H4.length n w (.int m) y7 x8 x9) H6=.ok [.ref j] H7:=by show(aD gD (aA (aB 5) aC) (cI st ir q H4.length n w (.int m) y7 x8 x9) H6).bind _=_;rw[h1];rfl
    show(aA (aD gD (aA (aB 5) aC)) aC (cI st ir q H4.length n w (.int m) y7 x8 x9) H6).bind _=_;rw[h0];simp[f1,dS,ec]
   unfold o9 aO aL;rw[show aA (aB 2) (aA (aD (f1 dS) (aA (aD gD (aA (aB 5) aC)) aC)) aC) (cI st ir q H4.length n w (.int m) y7 x8 x9) H6=.ok [.int n,.tup (cs.map aG)] H7 by unfold aA;show((Gz (Gh n) H6).bind _)=_;rw[Rs.bind_ok];show((aD (f1 dS) (aA (aD gD (aA (aB 5) aC)) aC) (cI st ir q H4.length n w (.int m) y7 x8 x9) H6).bind _).bind _=_;rw[h2];rfl];rfl
  show bF (kH [some (.ref st),some (.int m),none,none,none,none,none,none,none,none] H)=_;rw[oF,aX w1,aX w2,aX w3,aX w4,aX w5',aX w6,aX w7,aX w8,w9];rfl
 have t8:mB (m2 bR (aB 4) (mC (.int 3))) (cI st ir H3.length H4.length n w (.int m) x7 x8 x9) H5=.ok (w==3) H5:=by simp[mB,m2,aB,mC,eq_int,dW]
 by_cases h3:w=3
 ·have fQ:Fr [] H5 (H5++[Gi []]):=Gj;obtain⟨q,y7,H6,qs,k1,k2,k3,k4⟩:=z67 (st:=st) (ir:=ir) (im:=H4.length) (n:=n) (w:=w) (d1:=.int m) (ip0:=H5.length) (x7:=x7) (x8:=x8) (x9:=x9) (D5.fr fQ (D5.s.fr fQ (by simp)) (by simp) (by simp)) (by simp[getL]) n6 (by lia);obtain⟨cs,H',r⟩:=fin q y7 H6 qs k2 (z65 k3) (fQ.trans k4 (by simp)) (by unfold o8;have wA:aM (aQ aC) (aF 5) (cI st ir H3.length H4.length n w (.int m) x7 x8 x9) H5=.nx (cI st ir H5.length H4.length n w (.int m) x7 x8 x9) (H5++[Gi []]):=rfl;rw[nJ (t8.trans (by rw[h3];rfl)),aX wA,k1]);exact⟨n,cs,H',r⟩
 ·obtain⟨cs,H',r⟩:=fin H3.length x7 H5 ps eP5 (z64 pm hb) Gy (by
   unfold o8;have:(w==3)=false:=by simpa using h3
   rw[jQ (t8.trans (by rw[this]))];rfl)
  exact⟨n,cs,H',r⟩
end
end L2.Mr.Com
namespace L2.Mr.K82
open L2.Mr.Gen
open L2.Mr.Com
open L2.Mr.Cod (last_get ixL)
open L2.Mr.K04 (cF mS)
open L2.Mr.K05 (dQ)
open L2.Mr.K06 (vT tE)
open L2.Mr.Sp
open L2.Mr.K03 (SV tD)
section
variable{n m:Nat}{ps qs:wo}{r:y'}{H:Hs}{ρ:Ev}{x:Int}
def yO(h:r.length<=500):TK 1 H (cF r):=.tup (by simpa using h) λx hx=>by
 obtain⟨y,_,rfl⟩:=cf.mp hx
 trivial
theorem RowL.l6(h:RowL n ps r)(o:Bt n ps):r.length<=6:=by rw[h.len];exact o.n6
def yP(h:RowL n ps r):dQ n ps (cF r)=true:=by rw[K05.rowB_ints h.rng];unfold K05.rowP;simp only[cq,decide_eq_true_eq,dv];exact⟨⟨h.len,h.nd⟩,λq hq=>by simpa using h.up q hq⟩
theorem vU{F:Bi}{a v:Dv}{x:Nat}(ha:aB x ρ=λH=>.ok a H)(e:F [a] H=.ok v H):bN (aD F (aA (aB x) aC)) ρ H=.nx ρ H:=by simp[bN,aD,aA,ha,aC,e]
def S3{F:Bi}{m:M Dv}{a v:Dv}(ha:m ρ H=.ok a H)(e:F [a] H=.ok v H):bN (aD F (aA m aC)) ρ H=.nx ρ H:=by simp[bN,aD,aA,ha,aC,e]
theorem pN{F:Bi}{a b v:Dv}{x y:Nat}(ha:aB x ρ=λH=>.ok a H)(hb:aB y ρ=λH=>.ok b H)(e:F [a,b] H=.ok v H):bN (aD F (aA (aB x) (aA (aB y) aC))) ρ H=.nx ρ H:=by simp[bN,aD,aA,ha,hb,aC,e]
theorem lU{F:Bi}{a b v:Dv}{x y:Nat}{H':Hs}(ha:aB x ρ=λH=>.ok a H)(hb:aB y ρ=λH=>.ok b H)(e:F [a,b] H=.ok v H'):aD F (aA (aB x) (aA (aB y) aC)) ρ H=.ok v H':=by simp[aD,aA,ha,hb,aC,e]
abbrev nm:M Dv:=m2 aU (m2 aN (aB 0) (mC (.int 0))) (m2 aN (aB 1) (mC (.int 0)))
def yQ(h0:aB 0 ρ=λH=>.ok (aH n ps) H)(h1:aB 1 ρ=λH=>.ok (aH m qs) H):nm ρ H=.ok (.int ((n+m:Nat):Int)) H:=by unfold nm m2;rw[h0,h1];rfl
abbrev pC:M Bj:=bO (bP dH (m2 aN (aB 1) (mC (.int 1)))) [none,none,some 2] (cC 2 (aV (aF 0) (aV (aF 1) cE))) cH (bB (aL (aA (m2 aU (aB 2) (aB 0)) (aA (m2 aU (aB 2) (aB 1)) aC))))
def S4(hl:qs.length<=900):pC [x0,some (aH m qs),some (.int N)] H=.ok ((qs.map λq=>(N+q.1,N+q.2)).map aG) H:=by have w:pC [x0,some (aH m qs),some (.int N)] H=.ok (qs.filterMap λq=>some (aG (N+q.1,N+q.2))) H:=gN qs (λq=>some (aG (N+q.1,N+q.2))) (λρ=>∃a b,ρ=[a,b,some (.int N)]) (src:=cG (qs.map aG)) rfl (by simp[cG]) ⟨_,_,rfl⟩ rfl (λk hk ρ⟨a,b,e⟩=>by subst e;exact⟨aG qs[k],[some (.int qs[k].1),some (.int qs[k].2),some (.int N)],by simp[cG,hk],rfl,⟨_,_,rfl⟩,rfl,rfl⟩) (by lia);rw[w,jf,jv];rfl
def addL(g:getL H i=some xs)(g':getL H j=some ys)(hl:xs.length+ys.length<=1000000):aU (.ref i) (.ref j) H=.ok (.ref H.length) (H++[.lst (xs++ys)]):=by simp[aU,lZ,g,g',lim,hl]
def pob_ok(o:Bt n ps)(o':Bt m qs):∃i H',jA [aH n ps,aH m qs] H=.ok (.ref i) H'/\getL H' i=some ((iH n ps qs).map aG)/\Fr [] H H'/\H.length<=i:=by
 have l1:=o.len;have l2:=o'.len;have w1:aM (m2 aN (aB 0) (mC (.int 0))) (aF 2) [some (aH n ps),some (aH m qs),none] H=.nx [some (aH n ps),some (aH m qs),some (.int n)] H:=rfl;have e1:aD (f1 eV) (aA (m2 aN (aB 0) (mC (.int 1))) aC) [some (aH n ps),some (aH m qs),some (.int n)] H=.ok (.ref H.length) (H++[.lst (ps.map aG)]):=rfl;have g1:getL (H++[Gi (ps.map aG)]) H.length=some (ps.map aG):=last_get;have f1':Fr [] H (H++[Gi (ps.map aG)]):=Gj;have lt:H.length<(H++[Gi (ps.map aG)]).length:=by simp
 generalize H++[Gi (ps.map aG)]=H1 at e1 g1 f1' lt;have e2:=mS (S4 (H:=H1) (m:=m) (qs:=qs) (x0:=some (aH n ps)) (N:=(n:Int)) (by lia));have g2:getL (H1++[Gi ((gO n qs).map aG)]) H1.length=some ((gO n qs).map aG):=last_get;have f2:Fr [] H1 (H1++[Gi ((gO n qs).map aG)]):=Gj;change bQ pC _ H1=.ok (.ref H1.length) (H1++[Gi ((gO n qs).map aG)])at e2;have g1':=f2.getL g1 (by simp);have sT:=f2.le;generalize H1++[Gi ((gO n qs).map aG)]=H2 at e2 g2 f2 g1' sT;have e3:=addL g1' g2 (by simp[gO];lia);refine⟨H2.length,H2++[.lst (ps.map aG++(gO n qs).map aG)],?_,?_,(f1'.trans f2 (by simp)).trans (T:=[]) Gj (by simp),by lia⟩
 ·show bF (aI (aM (m2 aN (aB 0) (mC (.int 0))) (aF 2)) (aO (m2 aU (aD (f1 eV) (aA (m2 aN (aB 0) (mC (.int 1))) aC)) (bQ pC))) [some (aH n ps),some (aH m qs),none] H)=_;rw[aX w1];unfold aO;rw[jG e1 e2 e3];rfl
 ·rw[last_get,iH,fh]
def rB{ma mb:M Dv}(h0:ma ρ H=.ok a H1)(h1:mb ρ H1=.ok b H2):aL (aA ma (aA mb aC)) ρ H=.ok (.tup [a,b]) H2:=by simp[aL,aA,h0,h1,aC,lim]
abbrev bC:M Bj:=bO (aT dI (aA (m2 aN (aB 0) (mC (.int 0))) aC)) [none,none,some 2,some 0] (aF 0) cH (lC (aT lB (aA (m2 aN (aB 3) (mC (.int 0))) (aA (aB 2) aC))) (aF 1) cH (bB (aL (aA (aB 0) (aA (aB 1) aC)))))
def S5(h:n+m<=6):bC [some (aH n ps),x1,some (.int ((n+m:Nat):Int)),x3] H=.ok ((gJ n m).map aG) H:=by
 have e:((ba n).flatMap λa:Nat=>(ba m).filterMap λj:Nat=>some (aG ((a:Int),(n:Int)+(j:Int))))=(gJ n m).map aG:=by
  unfold gJ;rw[List.map_flatMap]
  congr 1
  funext a
  rw[jv,jf];rfl
 have hlen:((ba n).flatMap λa:Nat=>(ba m).filterMap λj:Nat=>some (aG ((a:Int),(n:Int)+(j:Int)))).length<=900000:=by
  rw[e,bo,z7k];have:=lh (show n<=6 by lia) (show m<=6 by lia)
  lia
 have w:=RR (mi:=aT dI (aA (m2 aN (aB 0) (mC (.int 0))) aC)) (mj:=aT lB (aA (m2 aN (aB 3) (mC (.int 0))) (aA (aB 2) aC))) (cap:=[none,none,some 2,some 0]) (sg:=aF 0) (sg2:=aF 1) (t2:=cH) (e:=aL (aA (aB 0) (aA (aB 1) aC))) (ρ:=[some (aH n ps),x1,some (.int ((n+m:Nat):Int)),x3]) (H:=H) (H1:=H) (ba n) (λ_=>ba m) (λa j=>some (aG ((a:Int),(n:Int)+(j:Int)))) (λρ=>∃x y,ρ=[x,y,some (.int ((n+m:Nat):Int)),some (aH n ps)]) (src:=cX 0 n) (yH (L:=(n:Int)) rfl (by lia) (by lia)) (by simp[cX]) ⟨_,_,rfl⟩ rfl (λk hk ρ⟨x,y,e⟩=>by
   subst e;have gk:(ba n)[k]=k:=oj ..;have h00:(0+(k:Int))=(k:Int):=by lia
   refine⟨.int (0+k),[some (.int (0+k)),y,some (.int ((n+m:Nat):Int)),some (aH n ps)],cX (n:Int) ((n+m:Nat):Int),λρ=>∃y,ρ=[some (.int (k:Int)),y,some (.int ((n+m:Nat):Int)),some (aH n ps)],rfl,rfl,⟨y,by rw[h00]⟩,λρ⟨y,e⟩=>⟨_,y,e⟩,?_,?_,rfl,?_⟩
   ·exact K05.rng2M (A:=(n:Int)) (B:=((n+m:Nat):Int)) rfl rfl (by lia) (by lia) (by lia) (by lia)
   ·simp[cX];lia
   ·intro j hj ρ ⟨y,e⟩;subst e;have gj:(ba m)[j]=j:=oj ..;refine⟨.int ((n:Int)+j),[some (.int (k:Int)),some (.int ((n:Int)+j)),some (.int ((n+m:Nat):Int)),some (aH n ps)],rfl,rfl,⟨_,rfl⟩,?_⟩;rw[gj,gk];exact⟨rfl,rfl⟩) hlen
 rw[e]at w;exact w
abbrev rC:M Bj:=bO (bP dH (aB 3)) [none,some 0] (aF 0) cH (bB (m2 aU (m2 aN (aB 1) (mC (.int 0))) (aB 0)))
def S6(hl:r.length<=900):rC [some (aH n ps),x1,x2,some (cF r)] H=.ok ((r.map λx=>(n:Int)+x).map Gh) H:=by have w:rC [some (aH n ps),x1,x2,some (cF r)] H=.ok (r.filterMap λx=>some (.int ((n:Int)+x))) H:=gN r (λx=>some (.int ((n:Int)+x))) (λρ=>∃a,ρ=[a,some (aH n ps)]) (src:=cG (r.map Gh)) rfl (by simp[cG]) ⟨_,rfl⟩ rfl (λk hk ρ⟨a,e⟩=>by subst e;exact⟨.int r[k],[some (.int r[k]),some (aH n ps)],by simp[cG,hk],rfl,⟨_,rfl⟩,rfl,rfl⟩) (by lia);rw[w,jf,jv];rfl
end
end L2.Mr.K82
namespace L2.Mr.Rf
open L2.Mr.Gen
open L2.Mr.Com
open L2.Mr.Cod (last_get addL ixL)
open L2.Mr.K04 (mS)
def RefOk(nn ncl:Nat)(mb:MS)(c:Nat):Prop:=∀H:Hs,∃i H',qD nn ncl mb (.ex c H)=.ok (.ref i) H'/\getL H' i=some [.int c]/\Fr [] H H'
def Calls(p t:Nat)(ks:A')(H:Hs):Prop:=∃js:A',getL H p=some (js.map Gu)/\js.map (gM H)=ks.map λk=>some (k,t)
section
variable{nn ncl:Nat}{mb:MS}{H H':Hs}{ρ:Ev}{p t k c s:Nat}{ks js:A'}{lc:Nat->Option (A'×M Dv)}
def DD(e:gM H j=some q)(f:Fr S H H')(h:j∉S):gM H' j=some q:=by
 unfold gM at e⊢;have hj:j<H.length:=by
  cases z:H[j]? with
  |none=>rw[z]at e;cases e
  |some o=>exact(bf.mp z).1
 rw[f.at_ j hj h];exact e
def z7p(e:gM H j=some q):getL H j=none:=by
 unfold gM at e;unfold getL
 split at e
 ·rename_i k t h;rw[h]
 ·cases e
theorem S7{S:A'}(e:js.map (gM H)=ks.map λk=>some (k,t))(f:Fr S H H')(h:∀j∈js,j∉S):js.map (gM H')=ks.map λk=>some (k,t):=by
 rw[<-e];refine nr λj hj=>?_;have hs:∃q,gM H j=some q:=by
  have hm:gM H j∈ks.map λk=>some (k,t):=by rw[<-e];exact Bg hj
  obtain⟨k,_,e2⟩:=cf.mp hm;exact⟨_,e2.symm⟩
 obtain⟨q,hq⟩:=hs;rw[hq,DD hq f (h j hj)]
def Calls.cap(h:Calls p t ks H):∃js:A',getL H p=some (js.map Gu)/\js.map (gM H)=(ks.map λk=>some (k,t))/\js.length=ks.length:=by let⟨js,g,e⟩:=h;exact⟨js,g,e,by have:=congrArg qi e;simpa using this⟩
def JH:gM (H++[.clo k t]) H.length=some (k,t):=by simp[gM]
def yR(ht:t<=H.length)(h4:s<ρ.length):∃H',aM (aQ (aA (gL k t) aC)) (aF s) ρ H=.nx (ρ.set s (some (.ref (H.length+1)))) H'/\Calls (H.length+1) t [k] H'/\Fr [] H H':=by
 refine⟨(H++[.clo k t])++[.lst [.ref H.length]],?_,⟨[H.length],?_,?_⟩,Hh (T:=[]) Gj Gj (by simp)⟩
 ·have e:aQ (aA (gL k t) aC) ρ H=.ok (.ref (H.length+1)) ((H++[.clo k t])++[.lst [.ref H.length]]):=by simp[aQ,aA,gL,ht,aC,lim]
  exact qX e rfl
 ·have:(H++[Hg k t]).length=H.length+1:=by simp
  rw[<-this];exact last_get
 ·simp only[da,wz];rw[DD JH (Gj (S:=[])) (by simp)]
theorem tF(ht:t<=H.length)(h4:aB s ρ=λH=>.ok (.ref p) H)(h:Calls p t ks H)(hl:ks.length<=100):∃H',bN (iQ (aB s) (gL k t)) ρ H=.nx ρ H'/\Calls p t (ks++[k]) H'/\Fr [p] H H':=by
 obtain⟨js,g,e,le⟩:=h.cap;have g1:getL (H++[Hg k t]) p=some (js.map Gu):=iW g;have hx:(js.map Gu).length<1000000:=by simp;lia
 have f1:Fr [] H (H++[Hg k t]):=Gj;have f2:Fr [p] (H++[Hg k t]) ((H++[Hg k t]).set p (.lst (js.map Gu++[.ref H.length]))):=Hf;have e1:=S7 e f1 (by simp);have np:∀j,(∃q,gM (H++[Hg k t]) j=some q)->j∉[p]:=λj⟨q,hq⟩z=>by simp only[cz]at z;subst z;rw[z7p hq]at g1;cases g1
 refine⟨_,?_,⟨js++[H.length],?_,?_⟩,(f1.mono (T:=[p]) (by simp)).trans f2 (by simp)⟩
 ·simp only[bN,iQ,h4,Rs.bind_ok,kC,g,Av,if_true,gL,ht,rS,g1,hx,Rs.thenS_ok]
 ·rw[fh];exact lJ g1
 ·rw[fh,fh]
  congr 1
  ·refine S7 e1 f2 λj hj=>np j ?_;have hm:gM (H++[Hg k t]) j∈ks.map λk=>some (k,t):=by rw[<-e1];exact Bg hj
   obtain⟨k',_,e2⟩:=cf.mp hm;exact⟨_,e2.symm⟩
  ·simp only[da,wz];rw[DD JH f2 (np _ ⟨_,JH⟩)]
def yS(lc:Nat->Option (A'×M Dv))(ρ:Ev)(c:Nat)(H:Hs)(k:Nat):Prop:=∃caps me ds,lc k=some (caps,me)/\jO caps ρ=some ds/\∀H',Fr [] H H'->me (ds.map some) H'=.ex c H'
def z7q(h4:aB s ρ=λH=>.ok (.ref i) H)(g:getL H i=some xs):bP dX (aB s) ρ H=.ok (eJ i xs.length) H:=by simp[bP,h4,dX,g]
theorem z7r(R:RefOk nn ncl mb c)(h4:aB s ρ=λH=>.ok (.ref p) H)(h:Calls p t ks H)(hr:∀k∈ks,yS lc ρ c H k)(hl:ks.length<=100):
  ∃(rs:A')(H':Hs),pH (bP dX (aB s)) lc t nn ncl mb ρ H=.ok (rs.map Gu) H'/\Fr [] H H'/\rs.length=ks.length/\∀r∈rs,getL H' r=some [.int c]:=by
 obtain⟨js,g,e,le⟩:=h.cap;have hi:bP dX (aB s) ρ H=.ok (eJ p js.length) H:=by have:=z7q h4 g;rwa [bo]at this
 obtain⟨ρ',H',Fm,ec,hP⟩:=AR (src:=eJ p js.length) (sg:=aF 0) (t:=cH) (m:=bB (mP lc t nn ncl mb ρ)) (λk ρ' H' acc=>(∃a,ρ'=[a])/\Fr [] H H'/\∃rs:A',acc=rs.map Gu/\rs.length=k/\∀r∈rs,getL H' r=some [.int c])
  (λk ρ' H' acc hk⟨⟨a,ea⟩,f,rs,eacc,el,er⟩=>by
   subst ea;have Ei:k<js.length:=hk;refine⟨.ref js[k],[some (.ref js[k])],HZ (f.getL g (by simp)) Ei,rfl,.inr ?_⟩;have hkk:k<ks.length:=by lia
   have ej:gM H js[k]=some (ks[k],t):=by
    have h1:(js.map (gM H))[k]?=some (gM H js[k]):=by rw[du,bj Ei];rfl
    rw[e,du,bj hkk]at h1;exact(cw h1).symm
   obtain⟨caps,me,ds,l1,l2,l3⟩:=hr ks[k] (dj hkk);have ej':=DD ej f (by simp);obtain⟨i,H2,e2,g2,f2⟩:=R H';have em:mP lc t nn ncl mb ρ [some (.ref js[k])] H'=.ok (.ref i) H2:=by
    have:mP lc t nn ncl mb ρ [some (.ref js[k])] H'=qD nn ncl mb (me (ds.map some) H'):=by simp[mP,ej',l1,l2]
    rw[this,l3 H' f,e2]
   have hacc:acc.length<1000000:=by rw[eacc,bo];lia
   refine⟨H',[some (.ref js[k])],acc++[.ref i],H2,rfl,?_,⟨_,rfl⟩,f.trans f2 (by simp),rs++[i],by rw[eacc];simp,by simp[el],λr hr=>?_⟩
   ·unfold bB;rw[em];exact if_pos hacc
   ·rcases cj.mp hr with hr|hr
    ·exact f2.getL (er r hr) (by simp)
    ·simp only[cz]at hr;subst hr;exact g2) (λρ' H' acc⟨_,f,_⟩=>IA (f.getL g (by simp))) js.length 0 [none] H [] rfl ⟨⟨_,rfl⟩,Gy,[],rfl,rfl,by simp⟩
 obtain⟨_,f,rs,eacc,el,er⟩:=hP;refine⟨rs,H',?_,f,?_,er⟩
 ·show bO (bP dX (aB s)) [none] (aF 0) cH (bB (mP lc t nn ncl mb ρ)) ρ H=_;exact z6j (ρ':=ρ') hi (by show eS (eJ p js.length) (aF 0) cH (bB (mP lc t nn ncl mb ρ)) js.length 0 [none] H []=_;rw[ec,eacc])
 ·have:(eJ p js.length).n=js.length:=rfl
  lia
def yJ(g:getL H i=some xs)(h:bE (bD m H) xs=some ts):bD (m+1) H (.ref i)=some (.lst ts):=by unfold bD;dsimp only;rw[g];dsimp only;rw[h]
theorem S8{rs:A'}(m:Nat)(h:∀r∈rs,getL H r=some [.int c]):bE (bD (m+2) H) (rs.map Gu)=some (bu rs.length (.lst [.int c])):=by
 induction rs with
 |nil=>rfl
 |cons r rs ih=>
  have h1:bD (m+2) H (.ref r)=some (.lst [.int c]):=by simp[bD,h r (bh ..),bE]
  rw[da,bE,h1,ih λr hr=>h r (au _ hr)];rfl
def z7s(m:Nat)(a:Dt)(h:bG a a=true):eG (bu m a) (bu m a)=true:=by
 induction m with
 |zero=>rfl
 |succ m ih=>rw[iq,eG,h,ih];rfl
abbrev pO(c n:Int):M Dv:=m2 qI (aQ (aA (aQ (aA (mC (.int c)) aC)) aC)) (mC (.int n))
theorem z7t{n:Nat}(hn:n<=100):∃(L:Nat)(H':Hs),pO c n ρ H=.ok (.ref L) H'/\Fr [] H H'/\bD cD H' (.ref L)=some (.lst (bu n (.lst [.int c]))):=by
 obtain⟨H1,hH1⟩:∃H1,H1=H++[Gi [.int (c:Int)]]:=⟨_,rfl⟩
 obtain⟨H2,hH2⟩:∃H2,H2=H1++[Gi [.ref H.length]]:=⟨_,rfl⟩
 have e1:aQ (aA (aQ (aA (mC (.int c)) aC)) aC) ρ H=.ok (.ref H1.length) H2:=by rw[hH2,hH1];simp[aQ,aA,mC,aC,lim]
 have g2:getL H2 H1.length=some [.ref H.length]:=by rw[hH2];exact last_get
 have g1:getL H2 H.length=some [.int (c:Int)]:=by rw[hH2,hH1];exact iW last_get
 have hr:qI (.ref H1.length) (.int (n:Int)) H2=.ok (.ref H2.length) (H2++[.lst (bu n (Gu H.length))]):=by
  have c1:kK (n:Int)=true:=by simp[kK];lia
  have c2:decide ((n:Int)<9223372036854775808)=true:=decide_eq_true (by lia);have c3:decide ((-9223372036854775808:Int)<=(n:Int))=true:=decide_eq_true (by lia);have c4:decide ([Gu H.length].length*(n:Int).toNat<=1000000)=true:=decide_eq_true (by
   have:(n:Int).toNat=n:=fq n;rw[this];show 1*n<=1000000
   lia)
  have:∀m,(bu m [Gu H.length]).flatten=bu m (Gu H.length):=λm=>by
   induction m with
   |zero=>rfl
   |succ m ih=>rw[iq,kh,ih];rfl
  unfold qI;dsimp only;rw[g2];dsimp only;rw[c1,c2,c3,c4,fq,this];rfl
 refine⟨H2.length,_,jG e1 (mb:=mC (.int n)) rfl hr,?_,?_⟩
 ·have f1:Fr [] H H1:=by rw[hH1];exact Gj
  have f2:Fr [] H1 H2:=by rw[hH2];exact Gj
  exact(f1.trans f2 (by simp)).trans (T:=[]) Gj (by simp)
 ·have g3:getL (H2++[Gi (bu n (Gu H.length))]) H2.length=some ((bu n H.length).map Gu):=by rw[List.map_replicate];exact last_get
  have hp:=S8 (H:=H2++[Gi (bu n (Gu H.length))]) (rs:=bu n H.length) (c:=c) 27 (λr hr=>by rw[List.mem_replicate]at hr;rw[hr.2];exact iW g1);rw[Ah]at hp;exact yJ (m:=29) g3 hp
theorem both_ok{n:Nat}(R:RefOk nn ncl mb c)(h4:aB s ρ=λH=>.ok (.ref p) H)(h:Calls p t ks H)(hr:∀k∈ks,yS lc ρ c H k)(hn:ks.length=n)(hl:n<=100):
  ∃(a b:Nat)(H1 H2:Hs),bQ (pH (bP dX (aB s)) lc t nn ncl mb) ρ H=.ok (.ref a) H1/\pO c n ρ H1=.ok (.ref b) H2/\Fr [] H H2/\bZ (.ref a) (.ref b) H2=.ok (.bl false) H2/\bR (.ref a) (.ref b) H2=.ok (.bl true) H2:=by
 obtain⟨rs,H1,e1,f1,l1,g1⟩:=z7r R h4 h hr (by lia);have ea:=mS e1;obtain⟨b,H2,e2,f2,p2⟩:=z7t (c:=c) (ρ:=ρ) (H:=H1++[.lst (rs.map Gu)]) hl;have ga:=f2.getL (last_get (H:=H1) (x:=rs.map Gu)) (by simp);have hp:=S8 (H:=H2) (rs:=rs) (c:=c) 27 (λr hr=>f2.getL (iW (g1 r hr)) (by simp));have p1:bD cD H2 (.ref H1.length)=some (.lst (bu n (.lst [.int c]))):=by rw[l1,hn]at hp;exact yJ (m:=29) ga hp
 have hd:bG (.lst (bu n (.lst [.int (c:Int)]))) (.lst (bu n (.lst [.int (c:Int)])))=true:=by show eG _ _=true;exact z7s n _ (by simp[bG,eG])
 refine⟨H1.length,b,_,H2,ea,e2,(f1.trans (T:=[]) Gj (by simp)).trans f2 (by simp),?_,?_⟩
 ·simp[bZ,p1,p2,hd]
 ·simp[bR,p1,p2,hd]
def DE{me:M Dv}(R:RefOk nn ncl mb c)(hρ:jO caps ρ=some vs)(hm:me (vs.map some) H0=.ex c H)(f0:Fr [] H0 H):
  ∃H',mB (m2 bZ (qE caps nn ncl mb me) (aQ (aA (mC (.int c)) aC))) ρ H0=.ok false H'/\Fr [] H0 H':=by
 let⟨i,H1,e1,g1,f1⟩:=R H;refine⟨H1++[.lst [.int c]],?_,f0.trans (f1.trans (T:=[]) Gj (by simp)) (by simp)⟩;have a:qE caps nn ncl mb me ρ H0=.ok (.ref i) H1:=by unfold qE;rw[hρ];show qD nn ncl mb (me (vs.map some) H0)=_;rw[hm,e1]
 have b:aQ (aA (mC (.int c)) aC) ρ H1=.ok (.ref H1.length) (H1++[.lst [.int c]]):=rfl;have d:bZ (.ref i) (.ref H1.length) (H1++[.lst [.int c]])=.ok (.bl false) (H1++[.lst [.int c]]):=by have q1:=iW (l:=[.lst [.int c]]) g1;have q2:=last_get (H:=H1) (x:=[.int c]);simp[bZ,cD,bD,q1,q2,bE,bG,eG]
 unfold mB m2;rw[a,Rs.bind_ok,b,Rs.bind_ok,d];rfl
end
end L2.Mr.Rf
namespace L2.Mr.K80
open L2.Mr.Gen
open L2.Mr.Com
open L2.Mr.K05 (dY mK lO nV fS pE jS pF jT pG mM qS kR lQ)
open L2.Mr.K82 (jA sP)
open L2.Mr.Cod (last_get ixL)
open L2.Mr.K04 (cF mS)
open L2.Mr.K05 (dQ Gd)
open L2.Mr.K06 (vT tE)
open L2.Mr.K82 (yO yP vU S3 pN lU nm yQ pC S4 addL rB bC S5 rC S6)
open L2.Mr.Sp
open L2.Mr.K03 (tD)
section
variable{n m:Nat}{ps qs:wo}{r:y'}{H:Hs}{ρ:Ev}{x:Int}
def need_ok(o:Bt n ps):dY [aH n ps] H=.ok .non H:=K05.need_ok o
def need_bad(h:TK 3 H d)(hb:hW d=false):dY [d] H=.ex 0 H:=Cod.need_bad h hb
def S9(o:Bt n ps)(h:TK 1 H d):fS [aH n ps,d] H=(if dQ n ps d then .ok .non H else .ex 5 H):=K05.need_row_ok o h
theorem JI(o:Bt n ps)(h:RowL n ps r):fS [aH n ps,cF r] H=.ok .non H:=by rw[S9 o (yO (by have:=K82.RowL.l6 h o;lia)),yP h];rfl
def TB(o:Bt n ps)(h:TK 1 H d)(hb:dQ n ps d=false):fS [aH n ps,d] H=.ex 5 H:=by rw[S9 o h,hb];rfl
def z7u(h:k<=6):pI [.int k] H=.ok .non H:=by
 have:¬(k>6):=by lia
 simp[pI,GY,bA,bY,bK,mB,m2,aB,mC,hJ,iA,this,dW,bW,bF]
def z7v(h:6<k):pI [.int k] H=.ex 6 H:=by simp[pI,GY,bA,bY,bK,mB,m2,aB,mC,hJ,iA,h,dW,rQ,aA,aC,bF]
def tG{a b:MS}(e:a ρ H=.ex c H'):aI a b ρ H=.ex c H':=by unfold aI;rw[e]
theorem TF{F:Bi}{a:Dv}{x c:Nat}(ha:aB x ρ=λH=>.ok a H)(e:F [a] H=.ex c H):bN (aD F (aA (aB x) aC)) ρ H=.ex c H:=by simp[bN,aD,aA,ha,aC,e]
def z7w{F:Bi}{m:M Dv}(ha:m ρ H=.ok a H)(e:F [a] H=.ex c H):bN (aD F (aA m aC)) ρ H=.ex c H:=by simp[bN,aD,aA,ha,aC,e]
theorem yT{F:Bi}{a b:Dv}{x y c:Nat}(ha:aB x ρ=λH=>.ok a H)(hb:aB y ρ=λH=>.ok b H)(e:F [a,b] H=.ex c H):bN (aD F (aA (aB x) (aA (aB y) aC))) ρ H=.ex c H:=by simp[bN,aD,aA,ha,hb,aC,e]
abbrev nb:MS:=aI (bN (aD dY (aA (aB 0) aC))) (aI (bN (aD dY (aA (aB 1) aC))) (bN (aD pI (aA nm aC))))
def DF:dZ [a,b] H=bF (nb [some a,some b] H):=rfl
theorem both_ok(o:Bt n ps)(o':Bt m qs)(h:n+m<=6):dZ [aH n ps,aH m qs] H=.ok .non H:=by rw[DF,nb,aX (vU (F:=dY) rfl (need_ok o)),aX (vU (F:=dY) (x:=1) rfl (need_ok o')),S3 (F:=pI) (yQ rfl rfl) (z7u (by lia))];rfl
theorem JJ(o:Bt n ps)(o':Bt m qs)(h:6<n+m):dZ [aH n ps,aH m qs] H=.ex 6 H:=by rw[DF,nb,aX (vU (F:=dY) rfl (need_ok o)),aX (vU (F:=dY) (x:=1) rfl (need_ok o')),z7w (F:=pI) (yQ rfl rfl) (z7v (by lia))];rfl
theorem z7x{d e:Dv}(h:TK 3 H d)(hb:hW d=false):dZ [d,e] H=.ex 0 H:=by rw[DF,nb,tG (TF (F:=dY) rfl (need_bad h hb))];rfl
theorem z7y(o:Bt n ps){d:Dv}(h:TK 3 H d)(hb:hW d=false):dZ [aH n ps,d] H=.ex 0 H:=by rw[DF,nb,aX (vU (F:=dY) rfl (need_ok o)),tG (TF (F:=dY) (x:=1) rfl (need_bad h hb))];rfl
theorem TH{a b:Dv}{c:Nat}(h:dZ [a,b] H=.ex c H):nW [a,b] H=.ex c H:=by show bF (aI (bN (aD dZ (aA (aB 0) (aA (aB 1) aC)))) _ [some a,some b,none,none] H)=_;rw[tG (yT (F:=dZ) rfl rfl h)];rfl
theorem TJ{a b:Dv}{c:Nat}(h:dZ [a,b] H=.ex c H):nX [a,b] H=.ex c H:=by show bF (aI (bN (aD dZ (aA (aB 0) (aA (aB 1) aC)))) _ [some a,some b] H)=_;rw[tG (yT (F:=dZ) rfl rfl h)];rfl
theorem TL{a b d e:Dv}{c:Nat}(h:dZ [a,b] H=.ex c H):jF [a,b,d,e] H=.ex c H:=by show bF (aI (bN (aD dZ (aA (aB 0) (aA (aB 1) aC)))) _ [some a,some b,some d,some e] H)=_;rw[tG (yT (F:=dZ) rfl rfl h)];rfl
theorem z7z(o:Bt n ps)(o':Bt m qs)(h:n+m<=6){d e:Dv}(hd:TK 1 H d)(hb:dQ n ps d=false):jF [aH n ps,aH m qs,d,e] H=.ex 5 H:=by show bF (aI (bN (aD dZ (aA (aB 0) (aA (aB 1) aC)))) (aI (bN (aD fS (aA (aB 0) (aA (aB 2) aC)))) _) [some (aH n ps),some (aH m qs),some d,some e] H)=_;rw[aX (pN (F:=dZ) rfl rfl (both_ok o o' h)),tG (yT (F:=fS) (x:=0) (y:=2) rfl rfl (TB o hd hb))];rfl
theorem z80(o:Bt n ps)(o':Bt m qs)(h:n+m<=6)(hr:RowL n ps r){e:Dv}(he:TK 1 H e)(hb:dQ m qs e=false):jF [aH n ps,aH m qs,cF r,e] H=.ex 5 H:=by show bF (aI (bN (aD dZ (aA (aB 0) (aA (aB 1) aC)))) (aI (bN (aD fS (aA (aB 0) (aA (aB 2) aC)))) (aI (bN (aD fS (aA (aB 1) (aA (aB 3) aC)))) _)) [some (aH n ps),some (aH m qs),some (cF r),some e] H)=_;rw[aX (pN (F:=dZ) rfl rfl (both_ok o o' h)),aX (pN (F:=fS) (x:=0) (y:=2) rfl rfl (JI o hr)),tG (yT (F:=fS) (x:=1) (y:=3) rfl rfl (TB o' he hb))];rfl
def pob_ok(o:Bt n ps)(o':Bt m qs):∃i H',jA [aH n ps,aH m qs] H=.ok (.ref i) H'/\getL H' i=some ((iH n ps qs).map aG)/\Fr [] H H'/\H.length<=i:=K82.pob_ok o o'
theorem z81(o:Bt n ps)(o':Bt m qs)(h:n+m<=6):∃H',nX [aH n ps,aH m qs] H=.ok (aH (n+m) (iH n ps qs)) H'/\Fr [] H H':=by
 obtain⟨i,H1,e1,g1,f,_⟩:=pob_ok (H:=H) o o';refine⟨H1,?_,f⟩;show bF (aI (bN (aD dZ (aA (aB 0) (aA (aB 1) aC)))) (aO (aL (aA nm (aA (aD (f1 dS) (aA (aD jA (aA (aB 0) (aA (aB 1) aC))) aC)) aC)))) [some (aH n ps),some (aH m qs)] H)=_;rw[aX (pN (F:=dZ) rfl rfl (both_ok o o' h))];have a1:=yQ (n:=n) (m:=m) (ps:=ps) (qs:=qs) (H:=H) (ρ:=[some (aH n ps),some (aH m qs)]) rfl rfl;have a2:aD jA (aA (aB 0) (aA (aB 1) aC)) [some (aH n ps),some (aH m qs)] H=.ok (.ref i) H1:=lU (F:=jA) rfl rfl e1;have a3:f1 dS [.ref i] H1=.ok (.tup ((iH n ps qs).map aG)) H1:=by simp[f1,dS,g1]
 have a4:=tE a2 a3;unfold aO;rw[rB a1 a4];rfl
theorem z82(o:Bt n ps)(o':Bt m qs)(h:n+m<=6):∃H',nW [aH n ps,aH m qs] H=.ok (aH (n+m) (rA n ps m qs)) H'/\Fr [] H H':=by
 have w2:aM nm (aF 2) [some (aH n ps),some (aH m qs),none,none] H=.nx [some (aH n ps),some (aH m qs),some (.int ((n+m:Nat):Int)),none] H:=qX (yQ rfl rfl) rfl;have w3:aM (bQ bC) (aF 3) [some (aH n ps),some (aH m qs),some (.int ((n+m:Nat):Int)),none] H=.nx [some (aH n ps),some (aH m qs),some (.int ((n+m:Nat):Int)),some (.ref H.length)] (H++[.lst ((gJ n m).map aG)]):=IY (S5 h) rfl;have g1:getL (H++[Gi ((gJ n m).map aG)]) H.length=some ((gJ n m).map aG):=last_get;have f1':Fr [] H (H++[Gi ((gJ n m).map aG)]):=Gj;have sR:=f1'.le;generalize H++[Gi ((gJ n m).map aG)]=H1 at w3 g1 f1' sR;obtain⟨i,H2,e2,g2,f2,l2⟩:=pob_ok (H:=H1) o o';have l3:=(S0 o o' h).len;unfold rA at l3;rw[(rZ _).length_eq]at l3;have a2:aD jA (aA (aB 0) (aA (aB 1) aC)) [some (aH n ps),some (aH m qs),some (.int ((n+m:Nat):Int)),some (.ref H.length)] H1=.ok (.ref i) H2:=lU (F:=jA) rfl rfl e2;have a3:=addL g2 (f2.getL g1 (by simp)) (by rw[bo,bo,<-bw];lia);rw[<-fh]at a3;have a4:=jG (mb:=aB 3) a2 rfl a3;have g3:getL (H2++[Gi ((iH n ps qs++gJ n m).map aG)]) H2.length=some ((iH n ps qs++gJ n m).map aG):=last_get;have f3:Fr [] H2 (H2++[Gi ((iH n ps qs++gJ n m).map aG)]):=Gj;have t:=tD (n:=n+m) (mn:=aB 2) rfl a4 g3 (by lia);refine⟨H2++[Gi ((iH n ps qs++gJ n m).map aG)]++[Gi ((rA n ps m qs).map aG)],?_,((f1'.trans f2 (by simp)).trans f3 (by simp)).trans (T:=[]) Gj (by simp)⟩
 ·show bF (aI (bN (aD dZ (aA (aB 0) (aA (aB 1) aC)))) (aI (aM nm (aF 2)) (aI (aM (bQ bC) (aF 3)) (aO (aL (aA (aB 2) (aA (aD (f1 dS) (aA (aD (f1 lN) (aA (m2 aU (aD jA (aA (aB 0) (aA (aB 1) aC))) (aB 3)) aC)) aC)) aC)))))) [some (aH n ps),some (aH m qs),none,none] H)=_;rw[aX (pN (F:=dZ) rfl rfl (both_ok o o' h)),aX w2,aX w3];unfold aO;rw[t];rfl
theorem z83(o:Bt n ps)(o':Bt m qs)(h:n+m<=6){r':y'}(hr:RowL n ps r)(hr':RowL m qs r'):jF [aH n ps,aH m qs,cF r,cF r'] H=.ok (cF (JG n r r')) H:=by
 have l1:=K82.RowL.l6 hr o;have l2:=K82.RowL.l6 hr' o';show bF (aI (bN (aD dZ (aA (aB 0) (aA (aB 1) aC)))) (aI (bN (aD fS (aA (aB 0) (aA (aB 2) aC)))) (aI (bN (aD fS (aA (aB 1) (aA (aB 3) aC)))) (aO (m2 aU (aB 2) (mL pY rC))))) [some (aH n ps),some (aH m qs),some (cF r),some (cF r')] H)=_;rw[aX (pN (F:=dZ) rfl rfl (both_ok o o' h)),aX (pN (F:=fS) (x:=0) (y:=2) rfl rfl (JI o hr)),aX (pN (F:=fS) (x:=1) (y:=3) rfl rfl (JI o' hr'))];have e:=S6 (n:=n) (ps:=ps) (r:=r') (H:=H) (x1:=some (aH m qs)) (x2:=some (cF r)) (by lia);have e2:mL pY rC [some (aH n ps),some (aH m qs),some (cF r),some (cF r')] H=.ok (cF (r'.map λx=>(n:Int)+x)) H:=by unfold mL;rw[e];rfl
 unfold aO;rw[jG (ma:=aB 2) rfl e2 (qW _ _ (by simp;lia)),<-fh];rfl
end
def rq(a b c:Nat):Bj:=[.bl (a==c),.bl (a+1==c),.bl (a+2==c)].take b
def Cc:M Bj:=(aA (m1 (bI (eU none tbl0)) (aB 1)) (aA (m1 (bI (eU none tbl1)) (aB 1)) (aA (m1 (bI (eU none tbl2)) (aB 1)) aC)))
def Dn:M Bj:=(aA (m1 (bI (eU none tbl3)) (aB 1)) (aA (m1 (bI (eU none tbl4)) (aB 1)) (aA (m1 (bI (eU none tbl5)) (aB 1)) aC)))
def Ft:M Bj:=(aA (m1 (bI (eU none tbl6)) (aB 1)) (aA (m1 (bI (eU none tbl7)) (aB 1)) (aA (m1 (bI (eU none tbl8)) (aB 1)) aC)))
def rE:M Bj:=(aA (m1 (bI (eU none tbl9)) (aB 1)) (aA (m1 (bI (eU none tbl10)) (aB 1)) aC))
def DG:M Bj:=bO (aT dI (aA (mC (.int 11)) aC)) [none,some 3] (aF 0) (bJ (m2 aN (aB 1) (aB 0))) (bB (aB 0))
def TM:MS:=bK (cJ (bJ (m1 (bI (eU none tblV)) (aB 1)))) (aO (mC .non)) bW
def z84:gI=aI (aM (aQ Cc) (aF 3)) (aI (aM (m2 aU (aB 3) (aQ Dn)) (aF 3)) (aI (aM (m2 aU (aB 3) (aQ Ft)) (aF 3)) (aI (aM (m2 aU (aB 3) (aQ rE)) (aF 3)) (aI TM (aO (bQ DG)))))):=rfl
section
variable{c:Nat}(hc:c=0∨c=5∨c=6) {H:Hs}{x0 x2 x3:Bk}
include hc
def z85:aQ Cc [x0,some (.exc c),x2,x3] H=.ok (.ref H.length) (H++[.lst (rq 0 3 c)]):=by rcases hc with rfl|rfl|rfl<;>rfl
def z86:aQ Dn [x0,some (.exc c),x2,x3] H=.ok (.ref H.length) (H++[.lst (rq 3 3 c)]):=by rcases hc with rfl|rfl|rfl<;>rfl
def z87:aQ Ft [x0,some (.exc c),x2,x3] H=.ok (.ref H.length) (H++[.lst (rq 6 3 c)]):=by rcases hc with rfl|rfl|rfl<;>rfl
def z88:aQ rE [x0,some (.exc c),x2,x3] H=.ok (.ref H.length) (H++[.lst (rq 9 2 c)]):=by rcases hc with rfl|rfl|rfl<;>rfl
def z89:TM [x0,some (.exc c),x2,x3] H=.nx [x0,some (.exc c),x2,x3] H:=by rcases hc with rfl|rfl|rfl<;>rfl
def z8a(e:getL H i=some ((ba 11).map λk=>Hi (k==c))):DG [x0,some (.exc c),x2,some (.ref i)] H=.ok [.int c] H:=by
 have h:DG [x0,some (.exc c),x2,some (.ref i)] H=.ok ((ba 11).filterMap λk=>if k==c then some (.int k)else none) H:=
  gN (ba 11) (λk=>if k==c then some (.int (k:Nat))else none) (λρ=>∃a,ρ=[a,some (.ref i)]) (src:=cX 0 11) rfl rfl ⟨_,rfl⟩ rfl (λk hk ρ⟨a,e'⟩=>by
   subst e';have Ei:k<11:=by simpa using hk
   refine⟨.int (0+k),[some (.int (0+k)),some (.ref i)],rfl,rfl,⟨_,rfl⟩,?_⟩;have ht:=ixL (H:=H) (j:=k) e (by simpa using Ei);rw[List.getElem_map,oj]at ht;have h0:(0+(k:Int))=(k:Int):=by lia
   rw[h0,oj]
   cases q:k==c with
   |true=>simp[bJ,m2,aB,ht,q,fO]
   |false=>simp[bJ,m2,aB,ht,q,fO]) (by simp)
 rw[h]
 rcases hc with rfl|rfl|rfl<;>rfl
def z8b:∃i H',qD 4 11 gI (.ex c H)=.ok (.ref i) H'/\getL H' i=some [.int c]/\Fr [] H H':=by
 obtain⟨H1,hH1⟩:∃H1,H1=H++[Gi (rq 0 3 c)]:=⟨_,rfl⟩
 have g1:getL H1 H.length=some (rq 0 3 c):=by rw[hH1];exact last_get
 have f1:Fr [] H H1:=by rw[hH1];exact Gj
 have w1:∀x0 x2 x3,aM (aQ Cc) (aF 3) [x0,some (.exc c),x2,x3] H=.nx [x0,some (.exc c),x2,some (.ref H.length)] H1:=λx0 x2 x3=>by unfold aM;rw[z85 hc,hH1];rfl
 have step:∀(G0:Hs)(i:Nat)(xs ys:Bj)(m:M Bj ),getL G0 i=some xs->(∀x0 x2 x3(G:Hs),aQ m [x0,some (.exc c),x2,x3] G=.ok (.ref G.length) (G++[.lst ys]))->xs.length+ys.length<=500->
   ∃G' j,(∀x0 x2,aM (m2 aU (aB 3) (aQ m)) (aF 3) [x0,some (.exc c),x2,some (.ref i)] G0=.nx [x0,some (.exc c),x2,some (.ref j)] G')/\getL G' j=some (xs++ys)/\Fr [] G0 G':=by
  intro G0 i xs ys m e hm hl;refine⟨_,_,λx0 x2=>?_,last_get (H:=G0++[.lst ys]) (x:=xs++ys),Hh (T:=[]) Gj Gj (by simp)⟩;have a:=Cod.addL (H:=G0++[.lst ys]) (iW e) (last_get (H:=G0) (x:=ys)) hl;unfold aM;rw[CP rfl (hm _ _ _ _) a];rfl
 let⟨H2,i2,w2,g2,f2⟩:=step H1 H.length (rq 0 3 c) (rq 3 3 c) Dn g1 (λ_ _ _ _=>z86 hc) (by simp[rq]);let⟨H3,i3,w3,g3,f3⟩:=step H2 i2 _ (rq 6 3 c) Ft g2 (λ_ _ _ _=>z87 hc) (by simp[rq]);let⟨H4,i4,w4,g4,f4⟩:=step H3 i3 _ (rq 9 2 c) rE g3 (λ_ _ _ _=>z88 hc) (by simp[rq]);have g5':getL H4 i4=some ((ba 11).map λk=>Hi (k==c)):=by rw[g4];rfl
 refine⟨H4.length,H4++[.lst [.int c]],?_,last_get,((f1.trans f2 (by simp)).trans f3 (by simp)).trans (T:=[]) (f4.trans (T:=[]) Gj (by simp)) (by simp)⟩;have hlt:c<11:=by lia
 show(if c<11 then wX (gI (qC 4 (.exc c)) H)else .bad)=_;rw[if_pos hlt,z84];show wX (aI _ _ [none,some (.exc c),none,none] H)=_;rw[aX (w1 _ _ _),aX (w2 _ _),aX (w3 _ _),aX (w4 _ _),aX (z89 hc)];have hr:bQ DG [none,some (.exc c),none,some (.ref i4)] H4=.ok (.ref H4.length) (H4++[.lst [.int c]]):=by unfold bQ;rw[z8a hc g5'];rfl
 unfold aO;rw[hr];rfl
end
theorem JK{c:Nat}(hc:c=0∨c=5∨c=6):Rf.RefOk 4 11 gI c:=λH=>z8b hc (H:=H)
open L2.Mr.Cod (last_get ixL)
open L2.Mr.K05 (dQ rowP rowB_ints Gd yL)
open L2.Mr.K82 (yO yP lU rB addL)
open L2.Mr.Rf (Calls yR tF yS DE pO)
section
variable{n m st:Nat}{ps qs:wo}{r r':y'}{H:Hs}{ρ:Ev}
theorem lisrow_any(o:Bt n ps){d:Dv}(h:Gd H d):∃H',kR [aH n ps,d] H=.ok (.bl (dQ n ps d)) H'/\Fr [] H H':=K05.lisrow_any o h.1 h.2
theorem z8c(hr:∀x∈r,0<=x/\x<n)(hb:dQ n ps (cF r)=true):RowL n ps r:=by rw[rowB_ints hr]at hb;unfold rowP at hb;simp only[cq,decide_eq_true_eq,dv]at hb;exact⟨hr,hb.1.2,hb.1.1,λq hq=>by simpa using hb.2 q hq⟩
theorem some_draw(o:Bt n ps)(s:Com.St st H):∃(r:y')(H':Hs),jS [.ref st,aH n ps] H=.ok (cF r) H'/\RowL n ps r/\Com.St st H'/\Fr [st] H H':=by obtain⟨r,H',e,h1,h2,_,s',f⟩:=K05.some_draw o s;exact⟨r,H',e,z8c h1 h2,s',f⟩
def bent_ok(s:Com.St st H)(hl:r.length<=6)(hp:1<=r.length):∃d H',jT [.ref st,cF r] H=.ok d H'/\Gd H' d/\Com.St st H'/\Fr [st] H H':=K05.bent_ok s hl hp
def JL{ma mb:M Dv}(h1:ma ρ H=.ok a H1)(h2:mb ρ H1=.ok b H2):aM (aL (aA ma (aA mb aC))) (cC 2 (aV (aF i) (aV (aF j) cE))) ρ H=.nx ((ρ.set i (some a)).set j (some b)) H2:=by unfold aM;rw[rB h1 h2];rfl
def v(h:At ρ i d):aB i ρ H=.ok d H:=by rw[h.v]
def z8d{t u:M Bool}(h:t ρ H=.ok true H'):jX t u ρ H=u ρ H':=by unfold jX;rw[h];rfl
def z8e{t u:M Bool}(h:t ρ H=.ok false H'):jX t u ρ H=.ok false H':=by unfold jX;rw[h];rfl
def JM{S:Bi}{ma mb:M Dv}(ha:ma ρ H=.ok x H1)(hb:mb ρ H1=.ok y H2)(hs:S [x,y] H2=.ok (.bl b) H3):cJ (bJ (aD S (aA ma (aA mb aC)))) ρ H=.ok (!b) H3:=by simp[cJ,bJ,aD,aA,ha,hb,aC,hs,fO]
def yU(h1:At ρ i a)(h2:At ρ j b):jO [i,j] ρ=some [a,b]:=by simp[jO,show ρ[i]?=some (some a) from h1,show ρ[j]?=some (some b) from h2]
def JN(h1:At ρ i a)(h2:At ρ j b)(h3:At ρ k c)(h4:At ρ l d):jO [i,j,k,l] ρ=some [a,b,c,d]:=by simp[jO,show ρ[i]?=some (some a) from h1,show ρ[j]?=some (some b) from h2,show ρ[k]?=some (some c) from h3,show ρ[l]?=some (some d) from h4]
def DH{F:Bi}(e:F [a,b] H=.ex c H):aD F (aA (aB 0) (aA (aB 1) aC)) ([a,b].map some) H=.ex c H:=by simp[aD,aA,aB,aC,e]
def z8f{F:Bi}(e:F [a,b,.non,.non] H=.ex c H):aD F (aA (aB 0) (aA (aB 1) (aA (mC .non) (aA (mC .non) aC)))) ([a,b].map some) H=.ex c H:=by simp[aD,aA,aB,mC,aC,e]
def JO{F:Bi}(h:F [a,b,d,e] H=.ex c H):aD F (aA (aB 0) (aA (aB 1) (aA (aB 2) (aA (aB 3) aC)))) ([a,b,d,e].map some) H=.ex c H:=by simp[aD,aA,aB,aC,h]
abbrev qB:MS:=aM (m2 aN (aQ (aA (aL (aA (aB 3) (aA (aB 1) aC))) (aA (aL (aA (aB 1) (aA (aB 3) aC))) aC))) (aD cA (aA (aB 0) (aA (mC (.int 2)) aC)))) (cC 2 (aV (aF 4) (aV (aF 5) cE)))
def z8g(s:Com.St st H)(h0:At ρ 0 (.ref st))(h1:At ρ 1 a)(h3:At ρ 3 d):∃x y H',qB ρ H=.nx ((ρ.set 4 (some x)).set 5 (some y)) H'/\((x=d/\y=a)∨(x=a/\y=d))/\Com.St st H'/\Fr [st] H H':=by
 have e1:aQ (aA (aL (aA (aB 3) (aA (aB 1) aC))) (aA (aL (aA (aB 1) (aA (aB 3) aC))) aC)) ρ H=.ok (.ref H.length) (H++[.lst [.tup [d,a],.tup [a,d]]]):=by simp[aQ,aA,rB (v h3) (v h1),rB (v h1) (v h3),aC,lim]
 have f1:Fr [] H (H++[Gi [.tup [d,a],.tup [a,d]]]):=Gj;have g1:getL (H++[Gi [.tup [d,a],.tup [a,d]]]) H.length=some [.tup [d,a],.tup [a,d]]:=last_get;have lt:=s.lt;generalize hi:H.length=i at e1 g1 lt;generalize H++[Gi [.tup [d,a],.tup [a,d]]]=H1 at e1 f1 g1;let⟨w,H2,w0,w5,t3,f3,s3⟩:=jV 2 (s.fr f1 (by simp));have e2:aD cA (aA (aB 0) (aA (mC (.int 2)) aC)) ρ H1=.ok (.int w) H2:=by simp[aD,aA,h0.v,mC,aC,t3]
 have g2:=f3.getL g1 (by simp;lia);have hw:w=0∨w=1:=by lia
 have fa:Fr [st] H H2:=(f1.mono (T:=[st]) (by simp)).trans f3 (by simp)
 rcases hw with rfl|rfl
 ·refine⟨d,a,H2,?_,.inl ⟨rfl,rfl⟩,s3,fa⟩;have e3:=ixL (j:=0) g2 (by simp);unfold qB aM;rw[jG e1 e2 e3];rfl
 ·refine⟨a,d,H2,?_,.inr ⟨rfl,rfl⟩,s3,fa⟩;have e3:=ixL (j:=1) g2 (by simp);unfold qB aM;rw[jG e1 e2 e3];rfl
def z8h(o:Bt n ps)(s:Com.St st H):∃H',vE [.ref st,aH n ps,z] H=.ok (.bl true) H':=by
 let⟨d,H1,h1,td,bd,s1,f1⟩:=K05.bad_no s
 let ρ0:Ev:=[some (.ref st),some (aH n ps),some z,none,none,none,none]
 show ∃H',bF (aI (aM (aD iY (aA (aB 0) aC)) (aF 3)) (aI qB (aI (aM (aQ (aA (gL 0 H.length) aC)) (aF 6)) (aI (bN (iQ (aB 6) (gL 1 H.length))) (aI (bN (iQ (aB 6) (gL 2 H.length))) (aO (m2 bR (bQ (pH (bP dX (aB 6)) BI H.length 4 11 gI)) (pO 0 3))))))) [some (.ref st),some (aH n ps),some z,none,none,none,none] H)=_;have w1:=JF (i:=3) (vT (F:=iY) (ρ:=ρ0) (x:=0) (a:=.ref st) rfl h1);rw[aX (show aM (aD iY (aA (aB 0) aC)) (aF 3) [some (.ref st),some (aH n ps),some z,none,none,none,none] H=.nx [some (.ref st),some (aH n ps),some z,some d,none,none,none] H1 from w1)];let⟨x,y,H2,w2,hxy,s2,f2⟩:=z8g (ρ:=[some (.ref st),some (aH n ps),some z,some d,none,none,none]) s1 rfl rfl rfl;rw[aX w2];have t2:TK 3 H2 d:=td.fr f2 s2;have both:∀K,Fr [] H2 K->dZ [x,y] K=.ex 0 K:=λK f=>by
  rcases hxy with⟨rfl,rfl⟩|⟨rfl,rfl⟩
  ·exact z7x (t2.fr0 f) bd
  ·exact z7y o (t2.fr0 f) bd
 have ht:H.length<=H2.length:=cp f1.le f2.le;generalize H.length=t at ht;have c4:At (([some (.ref st),some (aH n ps),some z,some d,none,none,none].set 4 (some x)).set 5 (some y)) 4 x:=rfl;have c5:At (([some (.ref st),some (aH n ps),some z,some d,none,none,none].set 4 (some x)).set 5 (some y)) 5 y:=rfl;have cL:(([some (.ref st),some (aH n ps),some z,some d,none,none,none].set 4 (some x)).set 5 (some y)).length=7:=rfl;generalize ([some (.ref st),some (aH n ps),some z,some d,none,none,none].set 4 (some x)).set 5 (some y)=ρ1 at c4 c5 cL;let⟨H3,w3,c3,f3⟩:=yR (s:=6) (k:=0) (t:=t) (ρ:=ρ1) (H:=H2) ht (by lia);have hp:H2.length<=H2.length+1:=by lia
 generalize H2.length+1=p at w3 c3 hp;have d4:At (ρ1.set 6 (some (.ref p))) 4 x:=c4.o;have d5:At (ρ1.set 6 (some (.ref p))) 5 y:=c5.o;have d6:At (ρ1.set 6 (some (.ref p))) 6 (.ref p):=.new (by lia);rw[aX w3];generalize ρ1.set 6 (some (.ref p))=ρ2 at d4 d5 d6;let⟨H4,w4,c4',f4⟩:=tF (k:=1) (cp ht f3.le) d6.v c3 (by simp);let⟨H5,w5,c5',f5⟩:=tF (k:=2) (cp ht (cp f3.le f4.le)) d6.v c4' (by simp);rw[aX w4,aX w5];have hw:∀x∈[p],x∈([]:A')∨H2.length<=x:=λj hj=>by simp only[cz]at hj;right;lia
 have fA:Fr [] H2 H5:=(f3.trans f4 hw).trans f5 hw;let⟨a,b,H6,H7,e6,e7,f7,_,q7⟩:=Rf.both_ok (lc:=BI) (c:=0) (n:=3) (JK (.inl rfl)) d6.v c5' (λk hk=>by
  have Ei:k=0∨k=1∨k=2:=by simpa using hk
  rcases Ei with rfl|rfl|rfl
  ·exact⟨[4,5],_,[x,y],rfl,yU d4 d5,λK f=>DH (F:=nW) (TH (both K (fA.trans f (by simp))))⟩
  ·exact⟨[4,5],_,[x,y],rfl,yU d4 d5,λK f=>DH (F:=nX) (TJ (both K (fA.trans f (by simp))))⟩
  ·exact⟨[4,5],_,[x,y],rfl,yU d4 d5,λK f=>z8f (F:=jF) (TL (both K (fA.trans f (by simp))))⟩) rfl (by decide)
 refine⟨H7,?_⟩;unfold aO;rw[jG e6 (show pO 0 3 ρ2 H6=.ok (.ref b) H7 from e7) q7];rfl
abbrev tM:MS:=aI (aM (aQ (aA (gL 3 0) aC)) (aF 9)) (aI (bN (iQ (aB 9) (gL 4 0))) (aI (bN (iQ (aB 9) (gL 5 0))) (bK (mB (m2 bZ (bQ (pH (bP dX (aB 9)) BL 0 4 11 gI)) (pO 6 3))) (aO (mC (.bl false))) bW)))
def z8i(o:Bt n ps)(o':Bt m qs)(h:6<n+m)(a3:At ρ 3 (aH n ps))(a4:At ρ 4 (aH m qs))(a7:At ρ 7 d)(a8:At ρ 8 e)(hL:9<ρ.length):∃p H',tM ρ H=.nx (ρ.set 9 (some (.ref p))) H'/\Fr [] H H':=by
 let⟨H3,w3,c3,f3⟩:=yR (s:=9) (k:=3) (t:=0) (ρ:=ρ) (H:=H) (gv _) hL;have hp:H.length<=H.length+1:=by lia
 generalize H.length+1=p at w3 c3 hp;have d3:At (ρ.set 9 (some (.ref p))) 3 _:=a3.o;have d4:At (ρ.set 9 (some (.ref p))) 4 _:=a4.o;have d7:At (ρ.set 9 (some (.ref p))) 7 _:=a7.o;have d8:At (ρ.set 9 (some (.ref p))) 8 _:=a8.o;have d9:At (ρ.set 9 (some (.ref p))) 9 (.ref p):=.new hL;refine⟨p,?_⟩;rw[tM,aX w3];generalize ρ.set 9 (some (.ref p))=ρ2 at d3 d4 d7 d8 d9;let⟨H4,w4,c4',f4⟩:=tF (k:=4) (gv _) d9.v c3 (by simp);let⟨H5,w5,c5',f5⟩:=tF (k:=5) (gv _) d9.v c4' (by simp);rw[aX w4,aX w5];have hw:∀x∈[p],x∈([]:A')∨H.length<=x:=λj hj=>by simp only[cz]at hj;right;lia
 have fA:Fr [] H H5:=(f3.trans f4 hw).trans f5 hw;let⟨a,b,H6,H7,e6,e7,f7,q7,_⟩:=Rf.both_ok (lc:=BL) (c:=6) (n:=3) (JK (.inr (.inr rfl))) d9.v c5' (λk hk=>by
  have Ei:k=3∨k=4∨k=5:=by simpa using hk
  rcases Ei with rfl|rfl|rfl
  ·exact⟨[3,4],_,_,rfl,yU d3 d4,λK f=>DH (F:=nW) (TH (JJ o o' h))⟩
  ·exact⟨[3,4],_,_,rfl,yU d3 d4,λK f=>DH (F:=nX) (TJ (JJ o o' h))⟩
  ·exact⟨[3,4,7,8],_,_,rfl,JN d3 d4 d7 d8,λK f=>JO (F:=jF) (TL (JJ o o' h))⟩) rfl (by decide)
 refine⟨H7,(jQ ?_).trans rfl,fA.trans f7 (by simp)⟩;unfold mB;rw[jG e6 (show pO 6 3 ρ2 H6=.ok (.ref b) H7 from e7) q7];rfl
end
section
variable{n m st:Nat}{ps qs:wo}{r r':y'}{H:Hs}{ρ:Ev}
def DI(h:At ρ i d):(ρ[i]?).getD none=some d:=by rw[h];rfl
def DJ(h:At ρ i (aH n ps)):m2 aN (aB i) (mC (.int 0)) ρ H=.ok (.int n) H:=by unfold m2;rw[h.v];rfl
def TN(h:At ρ i (aH n ps)):m2 aN (aB i) (mC (.int 1)) ρ H=.ok (.tup (ps.map aG)) H:=by unfold m2;rw[h.v];rfl
abbrev pD:M Bj:=bO (bP dH (m2 aN (aB 4) (mC (.int 1)))) [none,none,some 3] (cC 2 (aV (aF 0) (aV (aF 1) cE))) cH (bB (aL (aA (m2 aU (aB 0) (m2 aN (aB 2) (mC (.int 0)))) (aA (m2 aU (aB 1) (m2 aN (aB 2) (mC (.int 0)))) aC))))
def z8j(hl:qs.length<=900)(a3:At ρ 3 (aH n ps))(a4:At ρ 4 (aH m qs)):pD ρ H=.ok ((gO n qs).map aG) H:=by
 have hi:bP dH (m2 aN (aB 4) (mC (.int 1))) ρ H=.ok (cG (qs.map aG)) H:=by unfold bP;rw[TN a4];rfl
 have w:pD ρ H=.ok (qs.filterMap λq=>some (aG (q.1+n,q.2+n))) H:=gN qs (λq=>some (aG (q.1+n,q.2+n))) (λρ=>∃a b,ρ=[a,b,some (aH n ps)]) (src:=cG (qs.map aG)) hi (by simp[cG]) ⟨none,none,by simp[iP,DI a3]⟩ rfl (λk hk ρ⟨a,b,e⟩=>by subst e;exact⟨aG qs[k],[some (.int qs[k].1),some (.int qs[k].2),some (aH n ps)],by simp[cG,hk],rfl,⟨_,_,rfl⟩,rfl,rfl⟩) (by lia);rw[w,jv,gO,jf]
 congr 1
 refine nr λq _=>?_;show aG (q.1+n,q.2+n)=aG ((n:Int)+q.1,(n:Int)+q.2);rw[xq q.1,xq q.2]
abbrev aP:MS:=aM (m2 aU (aD (f1 eV) (aA (m2 aN (aB 3) (mC (.int 1))) aC)) (bQ pD)) (aF 10)
def z8k(o:Bt n ps)(o':Bt m qs)(a3:At ρ 3 (aH n ps))(a4:At ρ 4 (aH m qs)):∃i H',aP ρ H=.nx (ρ.set 10 (some (.ref i))) H'/\getL H' i=some ((iH n ps qs).map aG)/\Fr [] H H'/\H.length<=i:=by have l1:=o.len;have l2:=o'.len;have e1:aD (f1 eV) (aA (m2 aN (aB 3) (mC (.int 1))) aC) ρ H=.ok (.ref H.length) (H++[.lst (ps.map aG)]):=tE (F:=f1 eV) (TN a3) rfl;have g1:getL (H++[Gi (ps.map aG)]) H.length=some (ps.map aG):=last_get;have f1':Fr [] H (H++[Gi (ps.map aG)]):=Gj;have sR:=f1'.le;generalize H++[Gi (ps.map aG)]=H1 at e1 g1 f1' sR;have e2:=mS (z8j (H:=H1) (by lia) a3 a4);have g2:getL (H1++[Gi ((gO n qs).map aG)]) H1.length=some ((gO n qs).map aG):=last_get;have f2:Fr [] H1 (H1++[Gi ((gO n qs).map aG)]):=Gj;have g1':=f2.getL g1 (by simp);have sT:=f2.le;generalize H1++[Gi ((gO n qs).map aG)]=H2 at e2 g2 f2 g1' sT;have e3:=addL g1' g2 (by simp[gO];lia);refine⟨H2.length,H2++[.lst (ps.map aG++(gO n qs).map aG)],JF (jG e1 e2 e3),?_,(f1'.trans f2 (by simp)).trans (T:=[]) Gj (by simp),by lia⟩;rw[last_get,iH,fh]
abbrev yV:M Dv:=m2 aU (m2 aN (aB 3) (mC (.int 0))) (m2 aN (aB 4) (mC (.int 0)))
def TQ(a3:At ρ 3 (aH n ps))(a4:At ρ 4 (aH m qs)):yV ρ H=.ok (.int ((n+m:Nat):Int)) H:=jG (DJ a3) (DJ a4) rfl
abbrev iS(F:Bi):MS:=bK (cJ (bJ (aD (dM 6) (aA (aD F (aA (aB 3) (aA (aB 4) aC))) (aA (aL (aA yV (aA (aD (f1 dS) (aA (aD (f1 lN) (aA (aB 10) aC)) aC)) aC))) aC))))) (aO (mC (.bl false))) bW
theorem TR{F:Bi}{i:Nat}{cs ds:wo}(hF:∃H',F [aH n ps,aH m qs] H=.ok (aH (n+m) cs) H'/\Fr [] H H')(hc:fG cP ds=cs)(hl:ds.length<64)(a3:At ρ 3 (aH n ps))(a4:At ρ 4 (aH m qs))(a10:At ρ 10 (.ref i))(g:getL H i=some (ds.map aG)):∃H',iS F ρ H=.nx ρ H'/\Fr [] H H':=by
 obtain⟨H1,e1,f1'⟩:=hF;have t:=tD (n:=n+m) (mn:=yV) (ma:=aB 10) (TQ (H:=H1) a3 a4) (v a10) (f1'.getL g (by simp)) hl;rw[hc]at t;have hl2:cs.length<=900:=by rw[<-hc,(rZ _).length_eq];lia
 exact⟨_,(jQ (JM (S:=dM 6) (lU (F:=F) a3.v a4.v e1) t (K81.same_ord (by lia)))).trans rfl,f1'.trans (T:=[]) Gj (by simp)⟩
abbrev xC:M Bj:=bO (aT dI (aA (m2 aN (aB 4) (mC (.int 0))) aC)) [none,some 11,some 3] (aF 0) cH (bB (aL (aA (aB 1) (aA (m2 aU (aB 0) (m2 aN (aB 2) (mC (.int 0)))) aC))))
def z8l{a:Nat}(hm:m<=6)(a3:At ρ 3 (aH n ps))(a4:At ρ 4 (aH m qs))(a11:At ρ 11 (.int (a:Int))):xC ρ H=.ok (((ba m).map λj:Nat=>((a:Int),(n:Int)+(j:Int))).map aG) H:=by
 have w:xC ρ H=.ok ((ba m).filterMap λj:Nat=>some (aG ((a:Int),(j:Int)+(n:Int)))) H:=
  gN (ba m) (λj:Nat=>some (aG ((a:Int),(j:Int)+(n:Int)))) (λρ=>∃b,ρ=[b,some (.int (a:Int)),some (aH n ps)]) (src:=cX 0 m) (yH (DJ a4) (by lia) (by lia)) (by simp[cX]) ⟨none,by simp[iP,DI a3,DI a11]⟩ rfl (λk hk ρ⟨b,e⟩=>by
   subst e;have gk:(ba m)[k]=k:=oj ..;have h0:(0+(k:Int))=(k:Int):=by lia
   refine⟨.int (0+k),[some (.int (0+k)),some (.int (a:Int)),some (aH n ps)],rfl,rfl,⟨_,rfl⟩,?_⟩;rw[gk,h0];exact⟨rfl,rfl⟩) (by simp;lia)
 rw[w,jv,jf]
 congr 1
 refine nr λj _=>?_;show aG ((a:Int),(j:Int)+n)=aG ((a:Int),(n:Int)+j);rw[xq]
abbrev fX:MS:=gX (aT dI (aA (m2 aN (aB 3) (mC (.int 0))) aC)) (aF 11) (bN (lD (aB 10) xC))
def TU(k:Nat):((ba (k+1)).flatMap λa:Nat=>(ba m).map λj:Nat=>((a:Int),(n:Int)+(j:Int)))=((ba k).flatMap λa:Nat=>(ba m).map λj:Nat=>((a:Int),(n:Int)+(j:Int)))++(ba m).map λj:Nat=>((k:Int),(n:Int)+(j:Int)):=by rw[uy,Bf];simp
def z8m(j:Nat):((ba j).flatMap λa:Nat=>(ba m).map λj:Nat=>((a:Int),(n:Int)+(j:Int))).length=j*m:=by
 induction j with
 |zero=>simp
 |succ j ih=>rw[TU,bw,ih,qw];simp
structure Kn(n:Nat)(ps:wo)(m:Nat)(qs:wo)(st:Nat)(r r':y')(d e:Dv)(ρ:Ev):Prop where
 L:ρ.length=12
 a0:At ρ 0 .scr
 a2:At ρ 2 (.ref st)
 a3:At ρ 3 (aH n ps)
 a4:At ρ 4 (aH m qs)
 a5:At ρ 5 (cF r)
 a6:At ρ 6 (cF r')
 a7:At ρ 7 d
 a8:At ρ 8 e
variable{d e:Dv}
def Kn.set(k:Kn n ps m qs st r r' d e ρ)(h:9<=i):Kn n ps m qs st r r' d e (ρ.set i x):=⟨by simp[k.L],k.a0.o (by lia),k.a2.o (by lia),k.a3.o (by lia),k.a4.o (by lia),k.a5.o (by lia),k.a6.o (by lia),k.a7.o (by lia),k.a8.o (by lia)⟩
def z8n{ml:M Bj}(a10:At ρ 10 (.ref i))(g:getL H i=some xs)(e:ml ρ H=.ok ys H)(hl:xs.length+ys.length<=1000000):bN (lD (aB 10) ml) ρ H=.nx ρ (H.set i (.lst (xs++ys))):=by simp[bN,lD,a10.v,kC,g,e,wU,lim,hl]
def z8o{cs:wo}(hn:n<=6)(hm:m<=6)(hc:cs.length<=100)(k:Kn n ps m qs st r r' d e ρ)(a10:At ρ 10 (.ref i))(g:getL H i=some (cs.map aG)):∃ρ' H',fX ρ H=.nx ρ' H'/\Kn n ps m qs st r r' d e ρ'/\At ρ' 10 (.ref i)/\getL H' i=some ((cs++gJ n m).map aG)/\Fr [i] H H':=by
 let⟨ρ',H',w,k',b10,g',f'⟩:=uP (sg:=aF 11) (b:=bN (lD (aB 10) xC)) (yH (DJ (H:=H) k.a3) (by lia) (by lia)) (λj ρ' H'=>Kn n ps m qs st r r' d e ρ'/\At ρ' 10 (.ref i)/\getL H' i=some ((cs++(ba j).flatMap λa:Nat=>(ba m).map λj:Nat=>((a:Int),(n:Int)+(j:Int))).map aG)/\Fr [i] H H')
  (λj ρ1 H1 hj⟨k1,b1,g1,f1⟩=>by
   have hj':j<n:=by simpa[cX]using hj
   have h0:(0+(j:Int))=(j:Int):=by lia
   refine⟨.int (0+j),_,_,_,rfl,rfl,z8n (b1.o (by decide)) g1 (z8l (a:=j) hm (k1.a3.o (by decide)) (k1.a4.o (by decide)) (by rw[h0];exact .new (by rw[k1.L];decide))) ?_,k1.set (by lia),b1.o (by decide),?_,?_⟩
   ·simp only[bo,bw,ki];have hb:((ba j).flatMap λa:Nat=>(ba m).map λj:Nat=>((a:Int),(n:Int)+(j:Int))).length=j*m:=z8m j;rw[hb];have:=lh (show j<=6 by lia) hm
    lia
   ·rw[lJ g1,TU,<-fh,oz]
   ·exact f1.trans Hf (by simp))
  (λ_ _ _=>rfl) ⟨k,a10,by simpa using g,Gy⟩
 have hn':(cX 0 (n:Int)).n=n:=by simp[cX]
 rw[hn']at g';exact⟨ρ',H',w,k',b10,g',f'⟩
end
section
variable{n m st:Nat}{ps qs:wo}{r r':y'}{H:Hs}{ρ:Ev}{d e:Dv}
def z8p{F:Bi}{a b c d v:Dv}(ha:At ρ i a)(hb:At ρ j b)(hc:At ρ k c)(hd:At ρ l d)(e:F [a,b,c,d] H=.ok v H'):aD F (aA (aB i) (aA (aB j) (aA (aB k) (aA (aB l) aC)))) ρ H=.ok v H':=by simp[aD,aA,ha.v,hb.v,hc.v,hd.v,aC,e]
abbrev rD:M Bj:=bO (bP dH (aB 6)) [none,some 3] (aF 0) cH (bB (m2 aU (aB 0) (m2 aN (aB 1) (mC (.int 0)))))
def z8q(hl:r'.length<=900)(a3:At ρ 3 (aH n ps))(a6:At ρ 6 (cF r')):rD ρ H=.ok ((r'.map λx=>(n:Int)+x).map Gh) H:=by
 have hi:bP dH (aB 6) ρ H=.ok (cG (r'.map Gh)) H:=by unfold bP;rw[a6.v];rfl
 have w:rD ρ H=.ok (r'.filterMap λx=>some (.int (x+n))) H:=gN r' (λx=>some (.int (x+n))) (λρ=>∃a,ρ=[a,some (aH n ps)]) (src:=cG (r'.map Gh)) hi (by simp[cG]) ⟨none,by simp[iP,DI a3]⟩ rfl (λk hk ρ⟨a,e⟩=>by subst e;exact⟨.int r'[k],[some (.int r'[k]),some (aH n ps)],by simp[cG,hk],rfl,⟨_,rfl⟩,rfl,rfl⟩) (by lia);rw[w,jv,jf]
 congr 1
 refine nr λx _=>?_;show Gh (x+n)=.int ((n:Int)+x);rw[xq]
def z8r{xs:y'}(hl:xs.length<=1000):dM 6 [cF xs,cF xs] H=.ok (.bl true) H:=K81.same_tup (n:=5) (by simpa using hl) λx hx=>by obtain⟨y,_,rfl⟩:=cf.mp hx;exact K81.same_int (n:=4)
abbrev iR:MS:=bK (cJ (bJ (aD (dM 6) (aA (aD jF (aA (aB 3) (aA (aB 4) (aA (aB 5) (aA (aB 6) aC))))) (aA (m2 aU (aB 5) (mL pY rD)) aC))))) (aO (mC (.bl false))) bW
theorem z8s(o:Bt n ps)(o':Bt m qs)(h:n+m<=6)(hr:RowL n ps r)(hr':RowL m qs r')(k:Kn n ps m qs st r r' d e ρ):iR ρ H=.nx ρ H:=by
 have l1:=K82.RowL.l6 hr o;have l2:=K82.RowL.l6 hr' o';have e1:mL pY rD ρ H=.ok (cF (r'.map λx=>(n:Int)+x)) H:=by unfold mL;rw[z8q (by lia) k.a3 k.a6];rfl
 have e2:m2 aU (aB 5) (mL pY rD) ρ H=.ok (cF (JG n r r')) H:=by rw[jG (ma:=aB 5) (v k.a5) e1 (qW _ _ (by simp;lia)),<-fh];rfl
 exact(jQ (JM (S:=dM 6) (z8p (F:=jF) k.a3 k.a4 k.a5 k.a6 (z83 o o' h hr hr')) e2 (z8r (by simp[JG];lia)))).trans rfl
abbrev iN(i j:Nat)(caps:A')(me:M Dv):MS:=bK (jX (cJ (bJ (aD kR (aA (aB i) (aA (aB j) aC))))) (mB (m2 bZ (qE caps 4 11 gI me) (aQ (aA (mC (.int 5)) aC))))) (aO (mC (.bl false))) bW
def TV(o:Bt n ps){me:M Dv}(g:Gd H d)(ai:At ρ i (aH n ps))(aj:At ρ j d)(hc:jO caps ρ=some vs)(hm:dQ n ps d=false->∀K,Fr [] H K->me (vs.map some) K=.ex 5 K):∃H',iN i j caps me ρ H=.nx ρ H'/\Fr [] H H':=by
 let⟨H1,e1,f1⟩:=lisrow_any o g;have t:=JM (S:=kR) (v ai) (v aj) e1
 cases hb:dQ n ps d with
 |true=>rw[hb]at t;exact⟨H1,(jQ (z8e t)).trans rfl,f1⟩
 |false=>rw[hb]at t;let⟨H2,e2,f2⟩:=DE (c:=5) (JK (.inr (.inl rfl))) hc (hm hb H1 f1) Gy;exact⟨H2,(jQ ((z8d t).trans e2)).trans rfl,f1.trans f2 (by simp)⟩
abbrev sE:MS:=aI aP (aI (iS nX) (aI fX (aI (iS nW) (aI iR (aI (iN 3 7 [3,4,7,8] BJ) (iN 4 8 [3,4,5,8] BK))))))
theorem z8t(o:Bt n ps)(o':Bt m qs)(h:n+m<=6)(hr:RowL n ps r)(hr':RowL m qs r')(gd:Gd H d)(ge:Gd H e)(k:Kn n ps m qs st r r' d e ρ):∃ρ' H',sE ρ H=.nx ρ' H'/\Kn n ps m qs st r r' d e ρ'/\Fr [] H H':=by
 have o1:=z7n o o' h;have o2:=S0 o o' h;obtain⟨i,H1,w1,g1,f1,l1⟩:=z8k (H:=H) o o' k.a3 k.a4;have k1:Kn n ps m qs st r r' d e (ρ.set 10 (some (.ref i))):=k.set (by lia);have b1:At (ρ.set 10 (some (.ref i))) 10 (.ref i):=.new (by rw[k.L];decide);unfold sE;rw[aX w1];generalize ρ.set 10 (some (.ref i))=ρ1 at k1 b1;have ls:=o1.len;obtain⟨H2,w2,f2⟩:=TR (F:=nX) (z81 (H:=H1) o o' h) (F9 Dh (AU Dh o1.rise) (uh _)).symm (by lia) k1.a3 k1.a4 b1 g1;have n1:=o.n1;have m1:=o'.n1;obtain⟨ρ2,H3,w3,k3,b3,g3,f3⟩:=z8o (by lia) (by lia) (by lia) k1 b1 (f2.getL g1 (by simp));have lt:(iH n ps qs++gJ n m).length<64:=by
  have:=o2.len;unfold rA at this;rw[(rZ _).length_eq]at this
  lia
 obtain⟨H4,w4,f4⟩:=TR (F:=nW) (cs:=rA n ps m qs) (z82 (H:=H3) o o' h) rfl lt k3.a3 k3.a4 b3 g3;have fA:Fr [] H H4:=(((f1.trans f2 (by simp)).trans f3 (by simp[l1])).trans f4 (by simp))
 obtain⟨H5,w5,f5⟩:=TV (me:=BJ) o (gd.fr0 fA) k3.a3 k3.a7 (JN k3.a3 k3.a4 k3.a7 k3.a8) (λhb K f=>JO (F:=jF) (z7z o o' h ((gd.fr0 fA).fr0 f).1 hb));have fB:=fA.trans f5 (by simp);obtain⟨H6,w6,f6⟩:=TV (me:=BK) o' (ge.fr0 fB) k3.a4 k3.a8 (JN k3.a3 k3.a4 k3.a5 k3.a8) (λhb K f=>JO (F:=jF) (z80 o o' h hr ((ge.fr0 fB).fr0 f).1 hb));refine⟨ρ2,H6,?_,k3,fB.trans f6 (by simp)⟩;rw[aX w2,aX w3,aX w4,aX (z8s o o' h hr hr' k3),aX w5,w6]
abbrev mO(k:Int):MS:=aM (aL (aA (aD gE (aA (aB 2) (aA (mC (.int k)) aC))) (aA (aD gE (aA (aB 2) (aA (mC (.int k)) aC))) aC))) (cC 2 (aV (aF 3) (aV (aF 4) cE)))
def TX(k1:1<=k)(k6:k<=6)(s:Com.St st H)(a2:At ρ 2 (.ref st)):∃(n:Nat)(ps:wo)(m:Nat)(qs:wo)(H':Hs),mO k ρ H=.nx ((ρ.set 3 (some (aH n ps))).set 4 (some (aH m qs))) H'/\Bt n ps/\Bt m qs/\Com.St st H':=by let⟨n,ps,H1,e1,o1,_,s1,_⟩:=S1 k1 k6 s;let⟨m,qs,H2,e2,o2,_,s2,_⟩:=S1 k1 k6 s1;exact⟨n,ps,m,qs,H2,JL (show aD gE (aA (aB 2) (aA (mC (.int k)) aC)) ρ H=.ok (aH n ps) H1 by simp[aD,aA,a2.v,mC,aC,e1]) (show aD gE (aA (aB 2) (aA (mC (.int k)) aC)) ρ H1=.ok (aH m qs) H2 by simp[aD,aA,a2.v,mC,aC,e2]),o1,o2,s2⟩
abbrev iO:MS:=bK (mB (m2 bR (aD cA (aA (aB 2) (aA (mC (.int 2)) aC))) (mC (.int 0)))) (mO 3) bW
structure K3(st:Nat)(ρ:Ev):Prop where
 L:ρ.length=12
 a0:At ρ 0 .scr
 a2:At ρ 2 (.ref st)
def K3.set(k:K3 st ρ)(h:3<=i):K3 st (ρ.set i x):=⟨by simp[k.L],k.a0.o (by lia),k.a2.o (by lia)⟩
theorem z8u(s:Com.St st H)(k:K3 st ρ)(o:Bt n ps)(o':Bt m qs)(a3:At ρ 3 (aH n ps))(a4:At ρ 4 (aH m qs)):∃(n:Nat)(ps:wo)(m:Nat)(qs:wo)(ρ':Ev)(H':Hs),iO ρ H=.nx ρ' H'/\K3 st ρ'/\Bt n ps/\Bt m qs/\At ρ' 3 (aH n ps)/\At ρ' 4 (aH m qs)/\Com.St st H':=by
 obtain⟨w,H1,_,_,e1,_,s1⟩:=jV 2 s;have t:mB (m2 bR (aD cA (aA (aB 2) (aA (mC (.int 2)) aC))) (mC (.int 0))) ρ H=.ok (w==0) H1:=by
  have:aD cA (aA (aB 2) (aA (mC (.int 2)) aC)) ρ H=.ok (.int w) H1:=by simp[aD,aA,k.a2.v,mC,aC,e1]
  unfold mB m2;rw[this];simp[mC,Com.eq_int,dW]
 cases c:(w==0)with
 |false=>rw[c]at t;exact⟨n,ps,m,qs,ρ,H1,(jQ t).trans rfl,k,o,o',a3,a4,s1⟩
 |true=>rw[c]at t;obtain⟨n,ps,m,qs,H2,e2,p1,p2,s2⟩:=TX (k:=3) (by lia) (by lia) s1 k.a2;exact⟨n,ps,m,qs,_,H2,(nJ t).trans e2,(k.set (by lia)).set (by lia),p1,p2,At.o (.new (by rw[k.L];decide)),.new (by simp[k.L]),s2⟩
abbrev mR:MS:=aM (aL (aA (aD jS (aA (aB 2) (aA (aB 3) aC))) (aA (aD jS (aA (aB 2) (aA (aB 4) aC))) aC))) (cC 2 (aV (aF 5) (aV (aF 6) cE)))
abbrev mN:MS:=aM (aL (aA (aD jT (aA (aB 2) (aA (aB 5) aC))) (aA (aD jT (aA (aB 2) (aA (aB 6) aC))) aC))) (cC 2 (aV (aF 7) (aV (aF 8) cE)))
abbrev iT:MS:=bK (mB (m2 hJ yV (mC (.int 6)))) tM sE
abbrev iL:MS:=bK (cJ (bJ (aD vE (aA (aB 2) (aA (aB 3) (aA (aB 4) aC)))))) (aO (mC (.bl false))) bW
def z8v(scr:y'):BM scr 0=aI (aM (aD (sN scr) (aA (aB 0) (aA (aB 1) aC))) (aF 2)) (aI (mO 5) (aI iO (aI mR (aI mN (aI iT iL))))):=rfl
theorem z8w(o:Bt n ps)(o':Bt m qs)(hr:RowL n ps r)(hr':RowL m qs r')(gd:Gd H d)(ge:Gd H e)(k:Kn n ps m qs st r r' d e ρ):∃ρ' H',iT ρ H=.nx ρ' H'/\Kn n ps m qs st r r' d e ρ'/\Fr [] H H':=by
 have t:mB (m2 hJ yV (mC (.int 6))) ρ H=.ok (decide (6<n+m)) H:=by
  unfold mB;have g:hJ (.int ((n+m:Nat):Int)) (.int 6) H=.ok (.bl (decide (6<n+m))) H:=by have:decide (((n+m:Nat):Int)>6)=decide (6<n+m):=decide_eq_decide.mpr (by lia);simp only[hJ,iA,this]
  rw[jG (TQ (H:=H) k.a3 k.a4) (mb:=mC (.int 6)) rfl g];rfl
 by_cases h:6<n+m
 ·rw[decide_eq_true h]at t;obtain⟨p,H',w,f⟩:=z8i (H:=H) o o' h k.a3 k.a4 k.a7 k.a8 (by rw[k.L];decide);exact⟨_,H',(nJ t).trans w,k.set (by lia),f⟩
 ·rw[decide_eq_false h]at t;obtain⟨ρ',H',w,k',f⟩:=z8t o o' (by lia) hr hr' gd ge k;exact⟨ρ',H',(jQ t).trans w,k',f⟩
def z8x{F:Bi}{a b c v:Dv}(ha:At ρ i a)(hb:At ρ j b)(hc:At ρ k c)(e:F [a,b,c] H=.ok v H'):aD F (aA (aB i) (aA (aB j) (aA (aB k) aC))) ρ H=.ok v H':=by simp[aD,aA,ha.v,hb.v,hc.v,aC,e]
def nt{m:M Dv}(e:m ρ H=.ok (.bl true) H'):cJ (bJ m) ρ H=.ok false H':=by simp[cJ,bJ,e,fO]
def IB(scr:y')(k:Nat)(hL:ρ.length=12)(a0:At ρ 0 .scr)(a1:At ρ 1 (.int k)):∃ρ' H',BM scr 0 ρ H=.nx ρ' H'/\ρ'.length=12/\At ρ' 0 .scr:=by
 let⟨H1,h1,f1',s1⟩:=z5o scr k H;have w1:=JF (i:=2) (lU (F:=sN scr) a0.v a1.v h1);generalize H.length=st at s1 w1;have b:K3 st (ρ.set 2 (some (.ref st))):=⟨by simp[hL],a0.o,.new (by lia)⟩
 rw[z8v,aX w1];generalize ρ.set 2 (some (.ref st))=ρ1 at b;let⟨n,ps,m,qs,H2,w2,o,o',s2⟩:=TX (k:=5) (by lia) (by lia) s1 b.a2;have c:K3 st ((ρ1.set 3 (some (aH n ps))).set 4 (some (aH m qs))):=(b.set (by lia)).set (by lia);have c3:At ((ρ1.set 3 (some (aH n ps))).set 4 (some (aH m qs))) 3 (aH n ps):=At.o (.new (by rw[b.L];decide));have c4:At ((ρ1.set 3 (some (aH n ps))).set 4 (some (aH m qs))) 4 (aH m qs):=.new (by simp[b.L]);rw[aX w2];generalize (ρ1.set 3 (some (aH n ps))).set 4 (some (aH m qs))=ρ2 at c c3 c4;let⟨n,ps,m,qs,ρ3,H3,w3,b,o,o',b3,b4,s3⟩:=z8u s2 c o o' c3 c4;rw[aX w3];let⟨r,H4,e4,hr,s4,f4⟩:=some_draw o s3;let⟨r',H5,e5,hr',s5,f5⟩:=some_draw o' s4;have w4:mR ρ3 H3=.nx ((ρ3.set 5 (some (cF r))).set 6 (some (cF r'))) H5:=JL (lU (F:=jS) b.a2.v b3.v e4) (lU (F:=jS) b.a2.v b4.v e5);rw[aX w4];have c:K3 st ((ρ3.set 5 (some (cF r))).set 6 (some (cF r'))):=(b.set (by lia)).set (by lia);have c3:At ((ρ3.set 5 (some (cF r))).set 6 (some (cF r'))) 3 (aH n ps):=b3.o.o;have c4:At ((ρ3.set 5 (some (cF r))).set 6 (some (cF r'))) 4 (aH m qs):=b4.o.o;have c5:At ((ρ3.set 5 (some (cF r))).set 6 (some (cF r'))) 5 (cF r):=At.o (.new (by rw[b.L];decide));have c6:At ((ρ3.set 5 (some (cF r))).set 6 (some (cF r'))) 6 (cF r'):=.new (by simp[b.L]);generalize (ρ3.set 5 (some (cF r))).set 6 (some (cF r'))=ρ4 at c c3 c4 c5 c6;have l1:=hr.len;have l2:=hr'.len;have n1:=o.n1;have n6:=o.n6;have m1:=o'.n1;have m6:=o'.n6;let⟨d,H6,e6,gd,s6,f6⟩:=bent_ok (r:=r) s5 (by lia) (by lia);let⟨e,H7,e7,ge,s7,f7⟩:=bent_ok (r:=r') s6 (by lia) (by lia);have w5:mN ρ4 H5=.nx ((ρ4.set 7 (some d)).set 8 (some e)) H7:=JL (lU (F:=jT) c.a2.v c5.v e6) (lU (F:=jT) c.a2.v c6.v e7);rw[aX w5];have kn:Kn n ps m qs st r r' d e ((ρ4.set 7 (some d)).set 8 (some e)):=⟨by simp[c.L],c.a0.o.o,c.a2.o.o,c3.o.o,c4.o.o,c5.o.o,c6.o.o,At.o (.new (by rw[c.L];decide)),.new (by simp[c.L])⟩
 generalize (ρ4.set 7 (some d)).set 8 (some e)=ρ5 at kn;let⟨ρ6,H8,w6,k6,f8⟩:=z8w o o' hr hr' (gd.fr f7 s7) ge kn;rw[aX w6];let⟨H9,e9⟩:=z8h (z:=aH m qs) o (s7.fr f8 (by simp));exact⟨ρ6,H9,(jQ (nt (z8x (F:=vE) k6.a2 k6.a3 k6.a4 e9))).trans rfl,k6.L,k6.a0⟩
end
theorem loop(scr:y')(m:Int):∀(f k:Nat)(ρ:Ev)(H:Hs),ρ.length=12->At ρ 0 .scr->∃ρ' H',jD (cX 0 m) (aF 1) (BM scr 0) f k ρ H=.nx ρ' H'
 |0,k,ρ,H,_,_=>⟨_,H,rfl⟩
 |f+1,k,ρ,H,hL,a0=>by let⟨ρ1,H1,h,l1,b0⟩:=IB (H:=H) (ρ:=ρ.set 1 (some (.int k))) scr k (by simp[hL]) a0.o (.new (by lia));let⟨ρ',H2,h2⟩:=loop scr m f (k+1) ρ1 H1 l1 b0;refine⟨ρ',H2,?_⟩;rw[<-h2];exact N5 (d:=.int k) (by simp[cX]) rfl h
def z8y(scr:y'):∃hh,BO scr [.scr] []=.ok (.bl true) hh:=by
 have hi:∃m:Int,aT dI (aA (aD oP (aA (mC (.int 1)) (aA (aD uC (aA (aD (f1 (jK scr)) (aA (aB 0) aC)) (aA (mC (.int 8)) aC))) aC))) aC) [some .scr,none,none,none,none,none,none,none,none,none,none,none] []=.ok (cX 0 m) []:=by
  generalize hz:(if(8:Int)<scr.length then(8:Int)else scr.length)=z;have z0:0<=z:=by split at hz<;>lia
  have z1:z<=8:=by split at hz<;>lia
  generalize hm:(if z>(1:Int)then z else 1)=m;have m0:1<=m:=by split at hm<;>lia
  have m1':m<=8:=by split at hm<;>lia
  have hr:jL m=true:=by simp[jL];lia
  refine⟨m,?_⟩;have e1:uC [.int scr.length,.int 8] []=.ok (.int z) []:=by rw[<-hz];rfl
  have e2:oP [.int 1,.int z] []=.ok (.int m) []:=by rw[<-hm];rfl
  simp[aT,aA,aD,mC,aB,aC,f1,jK,gK,e1,e2,dI,hr]
 let⟨m,hi⟩:=hi;let⟨ρ',H',h⟩:=loop scr m (cX 0 m).n 0 [some .scr,none,none,none,none,none,none,none,none,none,none,none] [] rfl rfl;refine⟨H',?_⟩;show bF (BN scr 0 [some .scr,none,none,none,none,none,none,none,none,none,none,none] [])=_;unfold BN Q0;rw[aX ((N4 hi).trans h)];rfl
open PySem.Calls PySem.W
theorem mk_of{l:OpenLaw}{w:cm}{K:Frag}{h:cu}{mg:Str->Option af}{fa:ah}(hob:ob K=obE)(hnt:noTabs K=true)(X:K.In h)(G:h.Ns dg mg)(hfa:mg "law"=some (.ref fa)):
  ∃(fd:br)(c P c' P':ah),(∀(s:ag)(u:af),yi s fd ⟨[u],[]⟩ [("_law_script",u)])/\tabIn K "_law_refusals_right"=some (c,P)/\tabIn K "law"=some (c',P')/\noTabs K=true/\
   ∀(base:cu)(a:ah)(ns:y'),ns.length<=63->K.In base->base.Ns dg mg->CodeHd base c P->CodeHd base c' P'->kF mg base->Lawful l.prog w K mg base 15 fa fd "_law_script" [P,P'] a ns:=by
 have hc:obF.all (λf=>f K)=true:=congrArg ff hob;have hf:DO K=DP:=congrArg gu hob;have e:=hfa.symm.trans (mg_of X G (v:=.ref 363) (dB hc 33));cases e;refine(λ(z:∀R:Prop,(_->R)->R)=>z _ id) λR hR=>?_;obtain⟨g0,U0,B0,C0,D0⟩:=dE hf hc 166 GZ "is_whole" 165 ["thing"] 0 61 95 λ_ _ _ _ _ _=>lF λ_=>rfl;obtain⟨g1,U1,B1,C1,D1⟩:=dE hf hc 173 G1 "is_between" 172 ["thing","low","high"] 1 62 96 λ_ _ _ _ _ _=>NQ λ_ _ _=>rfl;obtain⟨g2,U2,B2,C2,D2⟩:=dE hf hc 178 BP "is_rising" 177 ["parts"] 2 63 97 λ_ _ _ _ _ _=>lF λ_=>rfl;obtain⟨g3,U3,B3,C3,D3⟩:=dE hf hc 185 G2 "is_thing" 184 ["many","thing"] 3 64 98 λ_ _ _ _ _ _=>gZ λ_ _=>rfl;obtain⟨g4,U4,B4,C4,D4⟩:=dE hf hc 190 BQ "are_things" 189 ["many","thing"] 4 65 99 λ_ _ _ _ _ _=>gZ λ_ _=>rfl;obtain⟨g5,U5,B5,C5,D5⟩:=dE hf hc 197 G3 "is_pair" 196 ["many","thing"] 5 66 100 λ_ _ _ _ _ _=>gZ λ_ _=>rfl;obtain⟨g6,U6,B6,C6,D6⟩:=dE hf hc 202 BR "are_pairs" 201 ["many","things"] 6 67 101 λ_ _ _ _ _ _=>gZ λ_ _=>rfl;obtain⟨g7,U7,B7,C7,D7⟩:=dE hf hc 207 BS "has_alike" 206 ["pairs"] 7 68 102 λ_ _ _ _ _ _=>lF λ_=>rfl;obtain⟨g8,U8,B8,C8,D8⟩:=dE hf hc 212 BU "is_complete" 211 ["pairs"] 8 69 103 λ_ _ _ _ _ _=>lF λ_=>rfl;obtain⟨g9,U9,B9,C9,D9⟩:=dE hf hc 219 G4 "is_order" 218 ["thing"] 9 70 104 λ_ _ _ _ _ _=>lF λ_=>rfl;obtain⟨g10,U10,B10,C10,D10⟩:=dE hf hc 226 G5 "need_order" 225 ["order"] 10 71 105 λ_ _ _ _ _ _=>lF λ_=>rfl;obtain⟨g11,U11,B11,C11,D11⟩:=dE hf hc 233 G6 "need_few" 232 ["many"] 11 72 106 λ_ _ _ _ _ _=>lF λ_=>rfl;obtain⟨g12,U12,B12,C12,D12⟩:=dE hf hc 238 BV "is_row" 237 ["order","thing"] 12 73 107 λ_ _ _ _ _ _=>gZ λ_ _=>rfl;obtain⟨g13,U13,B13,C13,D13⟩:=dE hf hc 245 G7 "need_row" 244 ["order","row"] 13 74 108 λ_ _ _ _ _ _=>gZ λ_ _=>rfl;obtain⟨g14,U14,B14,C14,D14⟩:=dE hf hc 252 G8 "need_both" 251 ["one","other"] 14 75 109 λ_ _ _ _ _ _=>gZ λ_ _=>rfl;obtain⟨g15,U15,B15,C15,D15⟩:=dE hf hc 257 BW "pairs_of_both" 256 ["one","other"] 15 76 110 λ_ _ _ _ _ _=>gZ λ_ _=>rfl;obtain⟨g16,U16,B16,C16,D16⟩:=dE hf hc 262 BX "stacked" 261 ["one","other"] 16 77 111 λ_ _ _ _ _ _=>gZ λ_ _=>rfl;obtain⟨g17,U17,B17,C17,D17⟩:=dE hf hc 269 G9 "side_by" 268 ["one","other"] 17 78 112 λ_ _ _ _ _ _=>gZ λ_ _=>rfl;obtain⟨g18,U18,B18,C18,D18⟩:=dE hf hc 274 BY "rows_stacked" 273 ["one","other","row","more"] 18 79 113 λ_ _ _ _ _ _=>m7 λ_ _ _ _=>rfl;obtain⟨g19,U19,B19,C19,D19⟩:=dE hf hc 281 HC "_law_cell_at" 280 ["_law_script","_law_k"] 19 80 114 λ_ _ _ _ _ _=>gZ λ_ _=>rfl;obtain⟨g20,U20,B20,C20,D20⟩:=dE hf hc 288 HD "_law_state" 287 ["_law_script","_law_k"] 20 81 115 λ_ _ _ _ _ _=>gZ λ_ _=>rfl;obtain⟨g21,U21,B21,C21,D21⟩:=dE hf hc 295 HE "_law_take" 294 ["_law_state_here","_law_many"] 21 82 116 λ_ _ _ _ _ _=>gZ λ_ _=>rfl;obtain⟨g22,U22,B22,C22,D22⟩:=dE hf hc 302 HF "_law_mixed_row" 301 ["_law_state_here","_law_things"] 22 83 117 λ_ _ _ _ _ _=>gZ λ_ _=>rfl;obtain⟨g23,U23,B23,C23,D23⟩:=dE hf hc 307 BZ "_law_closed" 306 ["_law_pairs"] 23 84 118 λ_ _ _ _ _ _=>lF λ_=>rfl;obtain⟨g24,U24,B24,C24,D24⟩:=dE hf hc 312 xR "_law_order" 311 ["_law_state_here","_law_most"] 24 85 119 λ_ _ _ _ _ _=>gZ λ_ _=>rfl;obtain⟨g25,U25,B25,C25,D25⟩:=dE hf hc 317 xS "_law_some_row" 316 ["_law_state_here","_law_order_here"] 25 86 120 λ_ _ _ _ _ _=>gZ λ_ _=>rfl;obtain⟨g26,U26,B26,C26,D26⟩:=dE hf hc 324 HG "_law_bent_row" 323 ["_law_state_here","_law_row"] 26 87 121 λ_ _ _ _ _ _=>gZ λ_ _=>rfl;obtain⟨g27,U27,B27,C27,D27⟩:=dE hf hc 331 HH "_law_whole" 330 ["_law_thing"] 27 88 122 λ_ _ _ _ _ _=>lF λ_=>rfl;obtain⟨g28,U28,B28,C28,D28⟩:=dE hf hc 336 xT "_law_is_row" 335 ["_law_order_here","_law_thing"] 28 89 123 λ_ _ _ _ _ _=>gZ λ_ _=>rfl;obtain⟨g29,U29,B29,C29,D29⟩:=dE hf hc 343 HI "_law_bad_order" 342 ["_law_state_here"] 29 90 124 λ_ _ _ _ _ _=>lF λ_=>rfl;obtain⟨g30,U30,B30,C30,D30⟩:=dE hf hc 348 CA "_law_same" 347 ["_law_found","_law_due"] 30 91 125 λ_ _ _ _ _ _=>gZ λ_ _=>rfl;obtain⟨g31,U31,B31,C31,D31⟩:=dE hf hc 353 sQ "_law_refused" 352 ["_law_call"] 31 92 126 λ_ _ _ _ _ _=>lF λ_=>rfl;obtain⟨g32,U32,B32,C32,D32⟩:=dE hf hc 358 iE "_law_refusals_right" 357 ["_law_state_here","_law_one","_law_other"] 32 93 127 λ_ _ _ _ _ _=>NQ λ_ _ _=>rfl;obtain⟨g33,U33,B33,C33,D33⟩:=dE hf hc 363 fT "law" 362 ["_law_script"] 33 94 128 λ_ _ _ _ _ _=>lF λ_=>rfl;obtain⟨t_MOST_THINGS,c_MOST_THINGS⟩:=T3 (n:="MOST_THINGS") (v:=6) (mT hc 129 rfl);have ex_NoOrder:Du K 37:=⟨dB hc 179,dB hc 180,dB hc 181,dB hc 182,dB hc 183,dB hc 184,DK (mT hc 185 rfl)⟩
 have ex_NoRow:Du K 97:=⟨dB hc 186,dB hc 187,dB hc 188,dB hc 189,dB hc 190,dB hc 191,DK (mT hc 192 rfl)⟩
 have ex_TooMany:Du K 109:=⟨dB hc 193,dB hc 194,dB hc 195,dB hc 196,dB hc 197,dB hc 198,DK (mT hc 199 rfl)⟩
 refine hR ⟨g33,357,355,362,360,λs v=>.of_eq (D33 [v] rfl),dB hc 130,dB hc 131,hnt,λbase a ns hlen _ _ hC hC2 hB=>⟨?_⟩⟩;obtain⟨hh,hl⟩:=z8y ns;refine⟨{K:=K,cl:=λc=>match c with|0=>37|1=>49|2=>61|3=>73|4=>85|5=>97|6=>109|7=>121|8=>133|9=>145|10=>157|_=>24,scr:=ns,sa:=a,tabs:=λb=>if b=355 then some ((("_law_refusals_right":Str)++".<locals>.")++"<lambda>")else if b=360 then some ((("law":Str)++".<locals>.")++"<lambda>")else none,lq:=(("_law_refusals_right":Str)++".<locals>.")++"<lambda>"},BO ns,hh,rfl,rfl,rfl,n9,hl,?_⟩;refine z57 (A:=⟨166,g0,173,g1,178,g2,185,g3,190,g4,197,g5,202,g6,207,g7,212,g8,219,g9,226,g10,233,g11,238,g12,245,g13,252,g14,257,g15,262,g16,269,g17,274,g18,281,g19,288,g20,295,g21,302,g22,307,g23,312,g24,317,g25,324,g26,331,g27,336,g28,343,g29,348,g30,353,g31,358,g32,363,g33,37,49,61,73,85,97,109,121,133,145,157,t_MOST_THINGS,24,357,355,362,360⟩) ?_ (λ_ _ _ _ _ _ _=>trivial) ⟨rfl,hC,rfl,hC2,hB⟩;exact⟨rfl,⟨U0,B0,cM X G hc 0⟩,⟨U1,B1,cM X G hc 1⟩,⟨U2,B2,cM X G hc 2⟩,⟨U3,B3,cM X G hc 3⟩,⟨U4,B4,cM X G hc 4⟩,⟨U5,B5,cM X G hc 5⟩,⟨U6,B6,cM X G hc 6⟩,⟨U7,B7,cM X G hc 7⟩,⟨U8,B8,cM X G hc 8⟩,⟨U9,B9,cM X G hc 9⟩,⟨U10,B10,cM X G hc 10⟩,⟨U11,B11,cM X G hc 11⟩,⟨U12,B12,cM X G hc 12⟩,⟨U13,B13,cM X G hc 13⟩,⟨U14,B14,cM X G hc 14⟩,⟨U15,B15,cM X G hc 15⟩,⟨U16,B16,cM X G hc 16⟩,⟨U17,B17,cM X G hc 17⟩,⟨U18,B18,cM X G hc 18⟩,⟨U19,B19,cM X G hc 19⟩,⟨U20,B20,cM X G hc 20⟩,⟨U21,B21,cM X G hc 21⟩,⟨U22,B22,cM X G hc 22⟩,⟨U23,B23,cM X G hc 23⟩,⟨U24,B24,cM X G hc 24⟩,⟨U25,B25,cM X G hc 25⟩,⟨U26,B26,cM X G hc 26⟩,⟨U27,B27,cM X G hc 27⟩,⟨U28,B28,cM X G hc 28⟩,⟨U29,B29,cM X G hc 29⟩,⟨U30,B30,cM X G hc 30⟩,⟨U31,B31,cM X G hc 31⟩,⟨U32,B32,cM X G hc 32⟩,⟨U33,B33,cM X G hc 33⟩,mg_none_of X G (dB hc 46),mg_none_of X G (dB hc 47),mg_none_of X G (dB hc 48),mg_none_of X G (dB hc 49),mg_none_of X G (dB hc 50),mg_none_of X G (dB hc 51),mg_none_of X G (dB hc 52),mg_none_of X G (dB hc 53),mg_none_of X G (dB hc 54),mg_none_of X G (dB hc 55),mg_none_of X G (dB hc 56),mg_none_of X G (dB hc 57),mg_none_of X G (dB hc 58),mg_none_of X G (dB hc 59),mg_none_of X G (dB hc 60),mg_of X G c_MOST_THINGS,cM X G hc 34,cM X G hc 35,cM X G hc 36,cM X G hc 37,cM X G hc 38,cM X G hc 39,cM X G hc 40,cM X G hc 41,cM X G hc 42,cM X G hc 43,cM X G hc 44,dB hc 34,mT hc 132 rfl,rfl,dB hc 39,mT hc 133 rfl,rfl,dB hc 40,mT hc 134 rfl,rfl,cZ ⟨dB hc 200,ex_NoOrder⟩ (cZ ⟨dB hc 201,ex_NoRow⟩ (cZ ⟨dB hc 202,ex_TooMany⟩ lG)),cZ ⟨dB hc 146,ex_NoOrder⟩ (cZ ⟨dB hc 157,ex_NoRow⟩ (cZ ⟨dB hc 168,ex_TooMany⟩ lG)),cZ ⟨dB hc 147,ex_NoOrder⟩ (cZ ⟨dB hc 158,ex_NoRow⟩ (cZ ⟨dB hc 169,ex_TooMany⟩ lG)),cZ ⟨dB hc 148,ex_NoOrder⟩ (cZ ⟨dB hc 159,ex_NoRow⟩ (cZ ⟨dB hc 170,ex_TooMany⟩ lG)),cZ ⟨dB hc 149,ex_NoOrder⟩ (cZ ⟨dB hc 160,ex_NoRow⟩ (cZ ⟨dB hc 171,ex_TooMany⟩ lG)),cZ ⟨dB hc 150,ex_NoOrder⟩ (cZ ⟨dB hc 161,ex_NoRow⟩ (cZ ⟨dB hc 172,ex_TooMany⟩ lG)),cZ ⟨dB hc 151,ex_NoOrder⟩ (cZ ⟨dB hc 162,ex_NoRow⟩ (cZ ⟨dB hc 173,ex_TooMany⟩ lG)),cZ ⟨dB hc 152,ex_NoOrder⟩ (cZ ⟨dB hc 163,ex_NoRow⟩ (cZ ⟨dB hc 174,ex_TooMany⟩ lG)),cZ ⟨dB hc 153,ex_NoOrder⟩ (cZ ⟨dB hc 164,ex_NoRow⟩ (cZ ⟨dB hc 175,ex_TooMany⟩ lG)),cZ ⟨dB hc 154,ex_NoOrder⟩ (cZ ⟨dB hc 165,ex_NoRow⟩ (cZ ⟨dB hc 176,ex_TooMany⟩ lG)),cZ ⟨dB hc 155,ex_NoOrder⟩ (cZ ⟨dB hc 166,ex_NoRow⟩ (cZ ⟨dB hc 177,ex_TooMany⟩ lG)),cZ ⟨dB hc 156,ex_NoOrder⟩ (cZ ⟨dB hc 167,ex_NoRow⟩ (cZ ⟨dB hc 178,ex_TooMany⟩ lG)),cM X G hc 45,dB hc 203,dB hc 204,dB hc 205,mE (dB hc 135) (mE (dB hc 136) (mE (dB hc 137) (mE (dB hc 138) (mE (dB hc 139) (mE (dB hc 140) (mE (dB hc 141) (mE (dB hc 142) (mE (dB hc 143) (mE (dB hc 144) (mE (dB hc 145) m8)))))))))),C32,C33⟩
end L2.Mr.K80
open PySem PySem.W PyProof.Rows
set_option maxRecDepth 100000 in
set_option maxHeartbeats 0 in
theorem PySem.Challenge.cw_nearorders_k80_orders_put_together_holds : PySem.Challenge.rw_nearorders_k80_orders_put_together.Holds := by
  w_on; o_law
  refine holds_open (XP:=XL L2.Mr.K80.vw []) (YP:=L2.Mr.Ys L2.Mr.K80.ob L2.Mr.K80.obE) L2.Mr.K80.left L2.Mr.ys_of L2.Mr.ys_keeps (fun s e=> xl_of s (Bool.and_eq_true_iff.mp e).1) XL.keeps (by rfl) (by rfl) (by rfl) (fun s e=> recFacts_of (Bool.and_eq_true_iff.mp e).2) (by rfl) (by first| assumption| decide+kernel) (by decide+kernel) ⟨rfl,rfl,rfl,rfl,rfl,by decide+kernel⟩ ?hw ?hc
  case hw=> w_witness2
  case hc=> exact L2.Mr.walkK3 (l:=PySem.Challenge.rw_nearorders_k80_orders_put_together) (n:=63) (k:=15) (x:="_law_script") "_law_refusals_right" "law" rfl (by decide) rfl ⟨rfl,by decide,by decide⟩ ⟨_,rfl,rfl⟩ ⟨_,rfl,rfl⟩ (fun K w mg fa h hob hnt X G hmg=> L2.Mr.K80.mk_of hob hnt X G hmg)