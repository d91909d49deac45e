import PyProof.Rows.All
import Wide.All
import OpenK.AllK
import Wide.FinOn
import Lean
import PyProof.EqAt
import PyProof.EqKinds
import PyProof.TupleCall
import PyProof.NeKinds
import PyProof.StationsW
import PyProof.ExcClass3
import PyProof.ExcBaseAll.ValueError
import PyProof.ExcArgsOwn
import KE.KIsAll
import PyProof.ZipIter
import PyProof.RulesAs
import KE.KLam
import PyProof.NsDelKeeps
import PyProof.Rows.Range3
import PyProof.SumWalkG
import PyProof.EnumMake
import PyProof.EnumFor
import PyProof.WalkInts
import PyProof.Rows.SortWalk
import KE.KSortAsk
import PySem.SetOps
import KE.KSortTup
import PyProof.Rows.SetFrom
import PyProof.SetRoads
import PyProof.Rows.CallKwBuiltin
import PyProof.EnumIter
import PySem.Challenge.RW_nearorders_k09_papers_told
abbrev wo:=List (Int×Int)
abbrev Ag:=List (List Int)
abbrev Ah:=List Int
abbrev Ai:=List Nat
abbrev Aj:=List PySem.Str
set_option genSizeOf false
set_option compiler.extract_closed false
noncomputable section
open Array renaming getElem?_eq_some_iff->dm,getElem?_eq_getElem->fq,getElem?_setIfInBounds_self_of_lt->ja,getD->kn,length_toList->mz,getElem?_toList->om,getElem?_eq_none->tj,perm_iff_toList_perm->xj,getElem?_replicate->yf,mem_toList_iff->zk,forIn_toList->Ae
open Bool renaming false_eq_true->cp,eq_iff_iff->cz,and_eq_true->da,false_ne_true->iw,not_eq_true'->jy,not_true->pf,and_false->qh
open Classical renaming em->rh
open False renaming elim->gz
open ForInStep renaming yield->rp
open Function renaming comp->uk
open Int renaming toNat_natCast->gh,le_refl->xb
open List renaming mem_cons_of_mem->ao,getElem?_eq_getElem->aw,size_toArray->ax,mem_cons_self->ay,getElem?_eq_some_iff->az,mem_cons->ba,length_map->bc,range->bp,length_append->bq,mem_range->br,filterMap_cons->bw,mem_append_right->bx,mem_map->cf,length_cons->cg,getElem_mem->cj,mem_of_getElem?->cn,mem_append->cy,getElem?_set_self->df,mem_singleton->dj,map_cons->dk,getElem?_set_ne->du,getElem?_map->dw,getElem?_append_left->dz,all_eq_true->fi,mem_append_left->fj,pairwise_iff_getElem->fv,pairwise_cons->fw,mem_filter->gb,getElem?_append_right->gq,forall_mem_cons->gr,length_filter_le->ie,lookup_cons->ij,flatMap_cons->iq,take_append_drop->iu,length_take->iz,filter_cons->jb,mem_iff_getElem->jf,nodup_cons->ji,map_map->jo,mem_filterMap->jv,getElem?_zip_eq_some->jw,getElem_of_mem->kg,mem_flatMap->kh,take_of_length_le->kq,append_nil->ku,length_set->kz,map_append->lg,length_range->ly,getD_eq_getElem?_getD->mq,any_eq_true->my,length_filterMap_le->nh,length_nil->ni,ext_getElem?->nv,take_succ_eq_append_getElem->og,length_drop->ou,forIn_cons->pj,dropLast_concat_getLast->pq,forall_mem_nil->qd,getD->qf,perm_ext_iff_of_nodup->qi,ne_nil_of_mem->qk,length->qu,pairwise_map->rj,append_assoc->rn,getElem?_replicate->sh,getElem?_cons_succ->sj,countP_cons->sk,nodup_range->sr,length_eq_zero_iff->sv,any_map->tu,filter_eq_nil_iff->ub,length_singleton->uf,length_pos_iff->uw,map_drop->vf,getElem_take->vq,eraseIdx_eq_take_drop_succ->wd,cons_append->we,not_mem_nil->wk,take_append_of_le_length->wy,of_mem_zip->wz,nil_append->xa,replicate->xl,nodup_iff_pairwise_ne->xr,length_eraseIdx_of_lt->xu,drop_eq_getElem_cons->yg,exists_mem_of_ne_nil->yh,mem_of_find?_eq_some->yi,getElem?_take_of_lt->yk,map_take->yn,range_succ_eq_map->yv,pairwise_lt_range->yx,getElem?_eq_none->zl,getElem?_toArray->zm,range'->zu
open List.Pairwise renaming imp_of_mem->vn,nil->xq
open List.Perm renaming append_left->xv
open List.cons renaming injEq->zv
open Nat renaming le_refl->aj,lt_of_lt_of_le->av,ne_of_lt->bg,le_trans->dh,lt_irrefl->gv,le_of_lt->gy,lt_or_ge->jc,zero_le->jg,lt_succ_of_lt->jk,ne_of_gt->jq,lt_succ_self->jt,le_add_right->ju,mul_le_mul->mr,le_of_eq->qg,succ_ne_self->tm,succ_mul->wc,le_of_not_lt->wq,min_self->zh,pow_le_pow_right->Ac
open Ne renaming symm->cx
open Option renaming map_eq_some_iff->si,isSome_iff_exists->xm
open Option.some renaming inj->cq,injEq->yj
open Or renaming inl->zo
open Prod renaming fst->dy,snd->qj
open PyProof.Rows renaming slot_tuple_getitem->gg,callWith_type1->je,IntsAre->ll,AllBare->tq,get?_update_seq->uv,listUpdate_at->wj,lt_int->xg,IsTup->yz,tupleItemsOf_->zy
open PySem renaming wpAny_bind->aa,Value->af,Shared->ag,Addr->ah,wpAny_pure->ai,starEach->ar,Program->bh,Expr->bj,FuncData->bo,Around->bu,sizeLine->ck,World->cm,Heap->cu,mainGlobals->dg,bootBuiltins->di,wpAny_callSpecial?_slot->fe,wpAny_call_entry->ff,mem_of_lookup->fh,wpAny_field->fz,IsTupleKey->gm,wpAny_newObj_type->gn,Scope->gu,Stmt->gw,SetTable->ic,wpAny_holding->ig,wpAny_setField_rec->jh,wpAny_seqItems->jl,wpAny_truthy_bool->jm,wpAny_setState_of->jn,wpAny_pyIter_list->ka,sizeLine_eq->kd,Comprehension->ki,NameKind->kr,wpAny_mono->lh,wpAny_passesOwn->mf,Arguments->mm,Builtin->mw,IsPair->nc,wpAny_askSetting->nj,wpAny_execs_nil->nt,wpAny_pyIter_tuple->oh,wpAny_Call_Name_kw->oi,codeAny_mono->oz,wpAny_execs_cons->pv,wpAny_forIn_list->pw,wpAny_attempt->qe,pushCells_keeps->qo,codeAny_builtin->qt,wpAny_typeOf->qw,wpAny_standAt->uc,wpAny_onRaise->ud,wpAny_isInstance->ui,wpAny_pyIter_zip->uj,wpAny_rule->um,IsPart->vh,codeAny_call_builtin->vk,wpAny_updateSeq_pair->vm,TriplesOk->vp,wpAny_setEntries_of->wa,Model->xc,IsZip->xh,wpAny_eqBool_int->xw,PassesOwn->ya,Result->yb,noFill_tuple_add->yd,wpAny_of_eq->ym,BindsTo->yt,CmpOp->zc,wpAny_call->zd,call_meets->zg,wpAny_setField->zi,isSubtype_stop->zj,wpAny_letOwnedTupleGo_zip->zt,seq_tuple_add->zx,call->Aa,wpAny_comprehension_free->Ab,wpAny_newList->Af
open PySem.Around renaming under_plainId->ow,frames_deeper->yu
open PySem.Builtin.List renaming listTooLong->ph,listExtendWith->vg,listSameRef->vt,listTouch->wg
open PySem.Builtin.Slice renaming slicePlaces->kv,sliceAdjust->pb,sliceApplied->uz
open PySem.Builtin.SmallTypes renaming nextOf->fg,ownedTupleIsFree->qr,stopIteration->rz
open PySem.Builtin.Tuple renaming tupleExact->lr,tupleItemsOf->vc
open PySem.Calls renaming evalArgs_plain->uh,Name_function_global->xf,callWith_builtin->yq
open PySem.Challenge renaming pw_nearorders_k09_papers_told->ae
open PySem.EntryCells renaming newEntry->ye
open PySem.F renaming args_tuple_add_2->ql,entry_tuple_add->qv,plainAttrs_list->rf,slot_tuple_add->sd,excBase_ValueError->wu,slot_tuple_index->xi
open PySem.Heap renaming get?_push_of_some->ak,lt_size->au,get?_push_size->bf,size_push->cw,SameBut->ik,get?_update_other->nu,get?_update_self->oq,get?_update_ne->qc,ExtBut->zr
open PySem.Heap.SameBut renaming update->oj,refl->ug
open PySem.IsL renaming update->zf
open PySem.NameKind renaming free->bz,cell->dv
open PySem.Obj renaming mapSeq->pd,data_mapFields->vj,isFreed_of_fields->zq
open PySem.PassesOwn renaming leaving->yw
open PySem.SeqAt renaming EqAt->kj,RcAt->sy
open PySem.SetTable renaming insertAt->jd,turns->tw,below->ua,sizeAbove->yy
open PySem.Shared renaming TypeIs->uq
open PySem.Str renaming ofString->jz
open PySem.Value renaming ref->ib,none->jr,isInt_shape->nr,builtin->ur,bool->ux,type->zw
open PySem.W renaming Frag->aq,kitOne->de,subIn->jx,kla_obj->km,keepIn->lj,CodeHd->lx,envX->nq,fnOf->pg,kla_fn->pz,excIn->qp,nsIn->sf,tabObj->ue,methodObj->uy,codeIn->wm,kitCls->wx,cellsFrom_some->yc,hideAll_size->yo,hideAll_none->yp,hideAll_get->yr,of_hideAll->zb,callWith_K->ze
open PySem.Walks renaming list->ve
open PySem.pickOrder renaming go->xk
open Sum renaming inl->vv,inr->vz
set_option Elab.async false
set_option linter.all false
set_option maxRecDepth 100000
set_option maxHeartbeats 4000000
open PySem PySem.Spec PyProof.Rows
namespace L2.Mr
open PySem PySem.Spec PySem.Calls PyProof.Rows PySem.W
def QX (o:Obj):Bool:=match o.cls,o.data with
 | .none,.fields _=>false
 |_,_=>true
def oS (h:cu):List ah->Frag
 | []=>[]
 |a::as=>match h.get? a with
  |some o=>match QX o with
   |true=>(a,o)::oS h as
   |false=>oS h as
  |none=>oS h as
def sV (h:cu):Frag:=oS h (bp h.objs.size)
theorem wC (h:cu):∀as,(oS h as).In h
 | [],_,_,e=>nomatch e
 |a::as,b,o,e=>by
  unfold oS at e
  split at e
  ·rename_i o' q
   split at e
   ·rw[ij]at e
    cases z:b==a with
    |true=>rw[z]at e;cases e;rw[eq_of_beq z];exact q
    |false=>rw[z]at e;exact wC h as b o e
   ·exact wC h as b o e
  ·exact wC h as b o e
theorem wD (h:cu):∀as,noTabs (oS h as)=true
 | []=>rfl
 |a::as=>by
  unfold oS
  split
  ·split
   ·rename_i q;show(_&&_)=true;rw[da];refine⟨?_,wD h as⟩;exact q
   ·exact wD h as
  ·exact wD h as
def cW (K:Frag) (f:ah):Option bo:=match K.lookup f with
 |some o=>match o.data with
  | .func fd=>some { fd with kwdefaults:=.none,doc:=.none,pyModule:=.none,annotations:=none,closureTuple:=.none }
  |_=>none
 |none=>none
theorem QY {K:Frag}{f:ah}{n q:Str}{A:mm}{B:List gw}{S:gu}{dV cd:af}(h:cW K f=some (fnOf n q A B S dV .none .none .none none cd .none)):
  ∃(oc:af) (od:Option ah) (kV dc pm:af) (an:Option ah) (ct:af) (sl:Array (Option af)),K.lookup f=some ⟨oc,od,.func (fnOf n q A B S dV kV dc pm an cd ct),sl⟩:=by
 unfold cW at h
 split at h
 ·rename_i o e
  split at h
  ·rename_i fd q;obtain⟨oc,od,dt,sl⟩:=o;cases fd;simp only[yj,FuncData.mk.injEq]at h;obtain⟨rfl,rfl,rfl,rfl,rfl,rfl,rfl,rfl,_,_,_,_,rfl,_,rfl⟩:=h;simp only at q;subst q;exact⟨_,_,_,_,_,_,_,_,e⟩
  ·cases h
 ·cases h
theorem nO {F:List (Frag->Bool)}{K:Frag}(h:F.all (λf=>f K)=true) (i:Nat) {f:Frag->Bool}(e:F[i]?=some f):f K=true:=fi.mp h f (cn e)
theorem QZ {l m:List (Option bo)}(h:l=m) (i:Nat) {a b:Option bo}(e:l[i]?=some a) (e':m[i]?=some b):a=b:=by subst h;rw[e]at e';exact cq e'
def wF (K:Frag) (q:ah):Bool:=match K.lookup q with
 |some ⟨_,_,.cls _,_⟩=>true
 |_=>false
theorem GL {K:Frag}{q:ah}(h:wF K q=true):∃lo ld lc ls,K.lookup q=some ⟨lo,ld,.cls lc,ls⟩:=by
 unfold wF at h
 split at h
 ·exact⟨_,_,_,_,by assumption⟩
 ·cases h
def wG (K:Frag) (n:Str) (v:Int):Bool:=match nsIn K dg n with
 |some (some (.int i _))=>i==v
 |_=>false
theorem GN {K:Frag}{n:Str}{v:Int}(h:wG K n v=true):∃t,nsIn K dg n=some (some (.int v t)):=by
 unfold wG at h
 split at h
 ·rename_i i t e;rw[eq_of_beq h]at e;exact⟨t,e⟩
 ·cases h
theorem AF (p:bh) (w:cm) (N:Nat) {α:Type}(f:ag->α):(openEnds treeTable p w N).map f=(((Fast.tw10274390034422433532 Fast.tw14364793385576792824 (opening p) w N (PySem.start (opening p)).1 (PySem.start (opening p)).2).bind (Fast.tw14289696077712309145 p)).bind λs₀=>match s₀.heap.isNs dg&&s₀.gens.size==0 with
 |true=>(Fast.tw14082659384304107361 Fast.tw14364793385576792824 p w s₀.heap.objs.size (s₀.heap.nsMap dg "__annotations__") N s₀ (topStub p)).bind λs₁=>match staticsOk (importedModules p.main.body) s₀.heap s₁.heap&&namesBound p s₁.heap&&gensDone s₁&&laidKept s₀.heap s₁.heap with
   |true=>some s₁
   |false=>none
 |false=>none).map f:=by
 rw[<-Fast.te10274390034422433532,<-Fast.te14364793385576792824,<-Fast.te14289696077712309145,<-Fast.te14082659384304107361];rfl
abbrev GO:List af:=[.type "ValueError",.type "Exception",.type "BaseException",.type "object"]
def Q0 (s:gw) (cd:ah):Option bo:=match s with
 | .FunctionDef n a b _ _ _ sc _ _ _=>some (fnOf n n a b sc .none .none .none .none none (.ref cd) .none)
 |_=>none
def fE (p:bh) (i:Nat) (cd:ah):Option bo:=Q0 (p.main.body.getD i (.Pass ⟨0,0,0,0⟩)) cd
def nR (K:Frag) (n:Str) (a:ah):Bool:=decide (nsIn K dg n=some (some (.ref a)))
def nN (K:Frag) (n:Str):Bool:=decide (nsIn K dg n=some none)
def sI (K:Frag) (a b:af) (v:Bool):Bool:=decide (subIn K a b=some v)
def kI (K:Frag) (a b:ah) (v:Bool):Bool:=decide (kitOne K (.ref a) (.ref b)=some v)
theorem dA {F:List (Frag->Bool)}{K:Frag}(h:F.all (λf=>f K)=true) (i:Nat) {g:Frag->Prop}[∀K,Decidable (g K)] (e:F[i]?=some (λK=>decide (g K))):g K:=of_decide_eq_true (nO h i e)
end L2.Mr
namespace L2.Mr.K09
open PySem PySem.Spec PySem.Calls PySem.W PyProof.Rows
def vw:bh:={ ae with main:={ ae.main with body:=List.filterMap (λi=>ae.main.body[i]?) [1,2,3,4,5,6,7,8,9,10,11,12,14,15,16,17,19,20,21,22,23,24,25,26,27,28,29,31,33,34,35,36,38,39,40,41,42,43,44,45,46,47,48,49,50,51,52,53,54,55,56,57] } }
def Xw:ag->Bool:=λs=>xlAt vw [] s&&recOk (RowW.records (OpenRow.toRowW PySem.Challenge.rw_nearorders_k09_papers_told.row)) s
def obF:List (Frag->Bool):=[(nR · "is_whole" 166),(nR · "is_between" 173),(nR · "need_between" 180),(nR · "is_rising" 185),(nR · "is_thing" 192),(nR · "are_things" 197),(nR · "is_pair" 204),(nR · "are_pairs" 209),(nR · "has_alike" 214),(nR · "is_complete" 219),(nR · "is_order" 226),(nR · "need_order" 233),(nR · "are_loose" 240),(nR · "may_come" 245),(nR · "need_order_and_span" 252),(nR · "some_far" 259),(nR · "some_paper" 266),(nR · "paper_for" 273),(nR · "_law_cell_at" 280),(nR · "_law_state" 287),(nR · "_law_take" 294),(nR · "_law_mixed_row" 301),(nR · "_law_closed" 306),(nR · "_law_order" 311),(nR · "_law_rows" 316),(nR · "_law_loose" 323),(nR · "_law_span" 328),(nR · "_law_whole" 335),(nR · "_law_may_come" 340),(nR · "_law_near" 347),(nR · "_law_far" 364),(nR · "_law_shows" 371),(nR · "_law_bad_order" 378),(nR · "_law_same" 383),(nR · "_law_refused" 388),(nR · "law" 393),(nR · "NoOrder" 37),(nR · "NoNumber" 49),(nR · "NoPairs" 61),(nR · "Round" 73),(nR · "NoThing" 85),(nR · "NoRow" 97),(nR · "TooMany" 109),(nR · "TooFew" 121),(nR · "NoText" 133),(nR · "NoLine" 145),(nR · "NoDeed" 157),(nR · "NearError" 24),(nN · "ValueError"),(nN · "abs"),(nN · "all"),(nN · "any"),(nN · "bool"),(nN · "int"),(nN · "isinstance"),(nN · "len"),(nN · "list"),(nN · "max"),(nN · "min"),(nN · "range"),(nN · "set"),(nN · "sorted"),(nN · "str"),(nN · "tuple"),(nN · "zip"),(codeIn · (.ref 165) "is_whole"),(codeIn · (.ref 172) "is_between"),(codeIn · (.ref 179) "need_between"),(codeIn · (.ref 184) "is_rising"),(codeIn · (.ref 191) "is_thing"),(codeIn · (.ref 196) "are_things"),(codeIn · (.ref 203) "is_pair"),(codeIn · (.ref 208) "are_pairs"),(codeIn · (.ref 213) "has_alike"),(codeIn · (.ref 218) "is_complete"),(codeIn · (.ref 225) "is_order"),(codeIn · (.ref 232) "need_order"),(codeIn · (.ref 239) "are_loose"),(codeIn · (.ref 244) "may_come"),(codeIn · (.ref 251) "need_order_and_span"),(codeIn · (.ref 258) "some_far"),(codeIn · (.ref 265) "some_paper"),(codeIn · (.ref 272) "paper_for"),(codeIn · (.ref 279) "_law_cell_at"),(codeIn · (.ref 286) "_law_state"),(codeIn · (.ref 293) "_law_take"),(codeIn · (.ref 300) "_law_mixed_row"),(codeIn · (.ref 305) "_law_closed"),(codeIn · (.ref 310) "_law_order"),(codeIn · (.ref 315) "_law_rows"),(codeIn · (.ref 322) "_law_loose"),(codeIn · (.ref 327) "_law_span"),(codeIn · (.ref 334) "_law_whole"),(codeIn · (.ref 339) "_law_may_come"),(codeIn · (.ref 346) "_law_near"),(codeIn · (.ref 363) "_law_far"),(codeIn · (.ref 370) "_law_shows"),(codeIn · (.ref 377) "_law_bad_order"),(codeIn · (.ref 382) "_law_same"),(codeIn · (.ref 387) "_law_refused"),(codeIn · (.ref 392) "law"),(keepIn · (.ref 166)),(keepIn · (.ref 173)),(keepIn · (.ref 180)),(keepIn · (.ref 185)),(keepIn · (.ref 192)),(keepIn · (.ref 197)),(keepIn · (.ref 204)),(keepIn · (.ref 209)),(keepIn · (.ref 214)),(keepIn · (.ref 219)),(keepIn · (.ref 226)),(keepIn · (.ref 233)),(keepIn · (.ref 240)),(keepIn · (.ref 245)),(keepIn · (.ref 252)),(keepIn · (.ref 259)),(keepIn · (.ref 266)),(keepIn · (.ref 273)),(keepIn · (.ref 280)),(keepIn · (.ref 287)),(keepIn · (.ref 294)),(keepIn · (.ref 301)),(keepIn · (.ref 306)),(keepIn · (.ref 311)),(keepIn · (.ref 316)),(keepIn · (.ref 323)),(keepIn · (.ref 328)),(keepIn · (.ref 335)),(keepIn · (.ref 340)),(keepIn · (.ref 347)),(keepIn · (.ref 364)),(keepIn · (.ref 371)),(keepIn · (.ref 378)),(keepIn · (.ref 383)),(keepIn · (.ref 388)),(keepIn · (.ref 393)),(wG · "MOST_THINGS" 6),(wG · "MOST_APART" 5),λK=>decide (tabIn K "law" = some (392,390)),(excIn · 37 GO "ValueError.__new__"),(excIn · 49 GO "ValueError.__new__"),(sI · (.ref 37) (.ref 24) true),(sI · (.ref 49) (.ref 24) true),(sI · (.ref 61) (.ref 24) true),(sI · (.ref 73) (.ref 24) true),(sI · (.ref 85) (.ref 24) true),(sI · (.ref 97) (.ref 24) true),(sI · (.ref 109) (.ref 24) true),(sI · (.ref 121) (.ref 24) true),(sI · (.ref 133) (.ref 24) true),(sI · (.ref 145) (.ref 24) true),(sI · (.ref 157) (.ref 24) true),(kI · 37 37 true),(kI · 37 49 false),(kI · 37 61 false),(kI · 37 73 false),(kI · 37 85 false),(kI · 37 97 false),(kI · 37 109 false),(kI · 37 121 false),(kI · 37 133 false),(kI · 37 145 false),(kI · 37 157 false),(kI · 49 37 false),(kI · 49 49 true),(kI · 49 61 false),(kI · 49 73 false),(kI · 49 85 false),(kI · 49 97 false),(kI · 49 109 false),(kI · 49 121 false),(kI · 49 133 false),(kI · 49 145 false),(kI · 49 157 false),λK=>decide (findIn K (.ref 37) "__getattribute__" = some (some (.builtin "BaseException.__getattribute__"))),λK=>decide (findIn K (.ref 37) "__getattr__" = some none),λK=>decide (findIn K (.ref 37) "__class__" = some (some (.builtin "object.__class__"))),λK=>decide (mroIn K 37 (.type "object")=some true),(sI · (.ref 37) (.type "BaseException") true),λK=>decide (kitCls K (.ref 37) (.ref 37)=some true),(wF · 37),λK=>decide (findIn K (.ref 49) "__getattribute__" = some (some (.builtin "BaseException.__getattribute__"))),λK=>decide (findIn K (.ref 49) "__getattr__" = some none),λK=>decide (findIn K (.ref 49) "__class__" = some (some (.builtin "object.__class__"))),λK=>decide (mroIn K 49 (.type "object")=some true),(sI · (.ref 49) (.type "BaseException") true),λK=>decide (kitCls K (.ref 49) (.ref 49)=some true),(wF · 49),λK=>decide (kitOne K (.ref 37) (.type "ValueError")=some true),λK=>decide (kitOne K (.ref 49) (.type "ValueError")=some true),(sI · (.ref 24) (.type "BaseException") true),(sI · (.type "type") (.type "tuple") false),λK=>decide (kitCls K (.ref 24) (.ref 24)=some true)]
def AG (K:Frag):List (Option bo):=[cW K 166,cW K 173,cW K 180,cW K 185,cW K 192,cW K 197,cW K 204,cW K 209,cW K 214,cW K 219,cW K 226,cW K 233,cW K 240,cW K 245,cW K 252,cW K 259,cW K 266,cW K 273,cW K 280,cW K 287,cW K 294,cW K 301,cW K 306,cW K 311,cW K 316,cW K 323,cW K 328,cW K 335,cW K 340,cW K 347,cW K 364,cW K 371,cW K 378,cW K 383,cW K 388,cW K 393]
def AH:List (Option bo):=[fE ae 14 165,fE ae 15 172,fE ae 16 179,fE ae 17 184,fE ae 21 191,fE ae 22 196,fE ae 23 203,fE ae 24 208,fE ae 25 213,fE ae 26 218,fE ae 27 225,fE ae 28 232,fE ae 29 239,fE ae 31 244,fE ae 33 251,fE ae 34 258,fE ae 35 265,fE ae 36 272,fE ae 38 279,fE ae 39 286,fE ae 40 293,fE ae 41 300,fE ae 42 305,fE ae 43 310,fE ae 44 315,fE ae 45 322,fE ae 46 327,fE ae 47 334,fE ae 48 339,fE ae 49 346,fE ae 52 363,fE ae 53 370,fE ae 54 377,fE ae 55 382,fE ae 56 387,fE ae 57 392]
def ob (K:Frag):Bool×List (Option bo):=(obF.all (λf=>f K),AG K)
abbrev obE:Bool×List (Option bo):=(true,AH)
theorem GP {α β γ:Type}{o:Option α}{f:α->β}{g:α->γ}{a:β}{b:γ}(h1:o.map f=some a) (h2:o.map g=some b):o.map (λs=>(f s,g s))=some (a,b):=by
 cases o with
 |none=>cases h1
 |some s=>cases h1;cases h2;rfl
theorem Q2 (w:cm):(openEnds treeTable ae w 8000).map (λs=>openSeen vw [] (importedModules (ae).main.body) Xw true s)=some (openGood vw []):=by rw[AF,Fast.te4187177175401517315];kernel_rfl
theorem Q3 (w:cm):(openEnds treeTable ae w 8000).map (λs=>obF.all (λf=>f (sV s.heap)))=some true:=by rw[AF];kernel_rfl
theorem Q4 (w:cm):(openEnds treeTable ae w 8000).map (λs=>AG (sV s.heap))=some AH:=by rw[AF];kernel_rfl
theorem left:LeftO ae vw [] Xw (λs=>ob (sV s.heap)) (λ_=>obE) 8000:=λw=>GP (Q2 w) (GP (Q3 w) (Q4 w))
end L2.Mr.K09
abbrev Gd:PySem.Str:="__debug__"
namespace L2
abbrev iH:=Sum Int Str
def GQ:iH->af->Bool
 | .inl k,v=>Value.isInt k v
 | .inr x,v=>Value.isStrOf x v
def Q5 (w:cm):iH->Int
 | .inl k=>hashInt k
 | .inr x=>hashStr w x
theorem nQ:∀{k:iH}{v:af},GQ k v=true->(∃i t,k=vv i/\v=Value.int i t)∨(∃x t,k=vz x/\v=Value.str x t)
 | .inl i,v,h=>by obtain⟨t,e⟩:=nr (k:=i) (v:=v) h;exact .inl ⟨i,t,rfl,e⟩
 | .inr x,v,h=>by obtain⟨t,e⟩:=Value.isStrOf_shape (x:=x) (v:=v) h;exact .inr ⟨x,t,rfl,e⟩
theorem Q6 (a b:Int):decide ((vv a:iH)=vv b)=(a==b):=by
 by_cases e:a=b
 ·subst e;simp
 ·have h:¬ (vv a:iH)=vv b:=λq=>e (Sum.inl.inj q);rw[decide_eq_false h];exact(beq_eq_false_iff_ne.mpr e).symm
theorem Q7 (a b:Str):decide ((vz a:iH)=vz b)=decide (a=b):=by
 by_cases e:a=b
 ·subst e;simp
 ·have h:¬ (vz a:iH)=vz b:=λq=>e (Sum.inr.inj q);rw[decide_eq_false h,decide_eq_false e]
theorem Q8 (a:Int) (b:Str):decide ((vv a:iH)=vz b)=false:=decide_eq_false (λq=>nomatch q)
theorem Q9 (a:Str) (b:Int):decide ((vz a:iH)=vv b)=false:=decide_eq_false (λq=>nomatch q)
def AI (prog:bh) (w:cm):PySem.KeyKind prog w iH where
 is:=GQ
 hash:=Q5 w
 inj:=λv a b ha hb=>by
  rcases nQ ha with⟨i,t,rfl,rfl⟩|⟨x,t,rfl,rfl⟩
  ·rcases nQ hb with⟨j,u,rfl,e⟩|⟨y,u,rfl,e⟩
   ·injection e with e1 _;rw[e1]
   ·exact nomatch e
  ·rcases nQ hb with⟨j,u,rfl,e⟩|⟨y,u,rfl,e⟩
   ·exact nomatch e
   ·injection e with e1 _;rw[e1]
 byValue:=λk v h=>by rcases nQ h with⟨i,t,rfl,rfl⟩|⟨x,t,rfl,rfl⟩ <;> rfl
 pyHash:=λhv h=>by
  rcases nQ hv with⟨i,t,rfl,rfl⟩|⟨x,t,rfl,rfl⟩
  ·exact wpAny_pyHash_int h
  ·exact wpAny_pyHash_str h
 eqBool:=λhu hv h=>by
  rcases nQ hu with⟨i,t,rfl,rfl⟩|⟨x,t,rfl,rfl⟩
  ·rcases nQ hv with⟨j,u,rfl,rfl⟩|⟨y,u,rfl,rfl⟩
   ·rw[Q6]at h;exact xw h
   ·rw[Q8]at h;exact SeqAt.EqAt.int_str i t y u _ _ _ _ h
  ·rcases nQ hv with⟨j,u,rfl,rfl⟩|⟨y,u,rfl,rfl⟩
   ·rw[Q9]at h;exact SeqAt.EqAt.str_int x t j u _ _ _ _ h
   ·rw[Q7]at h;exact wpAny_eqBool_str h
 «strs»:=λk x t v h=>by
  rcases nQ h with⟨i,u,rfl,e⟩|⟨y,u,rfl,e⟩
  ·exact nomatch e
  ·injection e with e1 _;subst e1
   cases v <;> rfl
inductive V where
 |non|bl (b:Bool)|int (i:Int)|str (x:Str)|byt (b:Array UInt8)|flt (b:UInt64)|ref (a:ah)|ty (n:String)
 deriving DecidableEq
def RelV:V->af->Prop
 | .non,u=>u=jr
 | .bl b,u=>u=ux b
 | .int i,u=>∃t,u=Value.int i t
 | .str x,u=>∃t,u=Value.str x t
 | .byt b,u=>∃t,u=Value.bytes b t
 | .flt b,u=>∃t,u=Value.float b t
 | .ref a,u=>u=ib a
 | .ty n,u=>u=zw n
abbrev Az:List V->List af->Prop:=Paired RelV
theorem Az.length {xs:List V}{us:List af}(r:Az xs us):xs.length=us.length:=Paired.length r
theorem Az.get:∀{xs:List V}{us:List af}{i:Nat}{x:V},Az xs us->xs[i]?=some x->∃u,us[i]?=some u/\RelV x u
 |_,_,_,_,.nil,e=>by simp at e
 |_,_,0,_,.cons r _,e=>by simp at e;subst e;exact⟨_,rfl,r⟩
 |_,_,i+1,x,.cons _ t,e=>by obtain⟨u,h1,h2⟩:=Az.get (i:=i) (x:=x) t (by simpa using e);exact⟨u,by simpa using h1,h2⟩
theorem Az.set {x:V}{u:af}(r:RelV x u):∀{xs:List V}{us:List af}(i:Nat),Az xs us->Az (xs.set i x) (us.set i u)
 |_,_,_,.nil=>.nil
 |_,_,0,.cons _ t=>.cons r t
 |_,_,i+1,.cons q t=>.cons q (Az.set r i t)
theorem Az.append:∀{xs ys:List V}{us ws:List af},Az xs us->Az ys ws->Az (xs++ys) (us++ws)
 |_,_,_,_,.nil,s=>s
 |_,_,_,_,.cons r t,s=>.cons r (Az.append t s)
theorem Az.take:∀{xs:List V}{us:List af}(n:Nat),Az xs us->Az (xs.take n) (us.take n)
 |_,_,0,_=>.nil
 |_,_,_+1,.nil=>.nil
 |_,_,n+1,.cons r t=>.cons r (Az.take n t)
theorem Az.drop:∀{xs:List V}{us:List af}(n:Nat),Az xs us->Az (xs.drop n) (us.drop n)
 |_,_,0,r=>r
 |_,_,_+1,.nil=>.nil
 |_,_,n+1,.cons _ t=>Az.drop n t
def GR:Option V->Option af->Prop
 |some v,some u=>RelV v u
 |none,none=>True
 |_,_=>False
def KV {κ:Type}:List (κ×V)->List (κ×af)->Prop:=Paired λ(p:κ×V) (q:κ×af)=>p.1=q.1/\RelV p.2 q.2
def kV:iH->V
 | .inl i=>.int i
 | .inr x=>.str x
inductive HO where
 |lst (xs:List V)
 |tup (xs:List V)
 |dK (kvs:List (iH×V))|dT (kvs:List (List iH×V))
 |set (S:Int->Bool) (n:Nat)
 |ins (C dx:ah) (fs:List (Str×V))
 |own (x:ah)
 |xd (fs:List (Str×V))
 |met (f x:ah)
 |rng (lo hi:Int)
 |frz (o:Obj) (u:HO)
 |tbl (ps:Array af)
 |ext (φ:cu->Prop)
abbrev Hp:=ah->Option HO
def aU (H:Hp) (a:ah) (o:HO):Hp:=λb=>if b=a then some o else H b
theorem dF {H:Hp}{a:ah}{o:HO}:aU H a o a=some o:=by unfold aU;rw[if_pos rfl]
theorem bV {H:Hp}{a b:ah}{o:HO}(h:b≠a):aU H a o b=H b:=by unfold aU;rw[if_neg h]
theorem oU {H:Hp}{a b:ah}{o u:HO}(h:H a=some o) (h':H b=some u) (d:o≠u):a≠b:=by intro e;subst e;rw[h]at h';exact d (cq h')
theorem gA {H:Hp}{a b:ah}{o:HO}(h:H a=some o) (h':H b=none):a≠b:=by intro e;subst e;rw[h]at h';cases h'
def Bv (h:cu) (a:ah) (items:Array af):Prop:=∃o,h.get? a=some o/\o.cls=.type "tuple"/\o.dict=none/\∃n,o.data=.seq items n
theorem Bv.tup {h:cu}{a:ah}{items:Array af}(x:Bv h a items):yz h a items:=let ⟨o,e,c,_,d⟩:=x;⟨o,e,c,d⟩
theorem Bv.lt {h:cu}{a:ah}{items:Array af}(x:Bv h a items):a<h.objs.size:=let ⟨_,e,_⟩:=x;au e
theorem Bv.new (h:cu) (items:Array af):Bv (h.push { cls:=.type "tuple",data:=.seq items }) h.objs.size items:=⟨_,bf _ rfl,rfl,rfl,_,rfl⟩
section
variable(P:bh) (w:cm)
def Bb (H:Hp) (h:cu) (a:ah):HO->Prop
 | .lst xs=>xs.length<=ck/\∃(its:List af) (n:Nat),Az xs its/\h.get? a=some { cls:=.type "list",data:=.seq its.toArray n }
 | .tup xs=>xs.length<=ck/\∃its:List af,Az xs its/\Bv h a its.toArray
 | .dK kvs=>kvs.length<=ck/\(a==sysModules)=false/\∃vs,KV kvs vs/\h.DictOf (AI P w) a vs
 | .dT kvs=>kvs.length<=ck/\(a==sysModules)=false/\∃xs:List (List iH×ah×af),
   Paired (λ(p:List iH×V) (q:List iH×ah×af)=>p.1=q.1/\H q.2.1=some (.tup (p.1.map kV))/\RelV p.2 q.2.2) kvs xs /\
   ∃o es ep,h.get? a=some o/\o.ExactDict/\o.data=.dict es ep/\es.toList=xs.map (entryOfKey (tupleKind (AI P w)))/\(xs.map (·.1)).Nodup
 | .set S n=>h.SetOf (intKind P w) a S n
 | .ins C dx fs=>H dx=some (.own a)/\fs.length<=1000/\dx≠a/\h.get? a=some (PySem.W.instObj C dx) /\
   ∃mA,h.Ns1 dx mA/\(∀f,GR (fs.lookup f) (mA f))/\PySem.Within mA (fs.map (·.1))
 | .own _=>∃o,h.get? a=some o
 | .xd fs=>∃mA,h.Ns1 a mA/\∀f,GR (fs.lookup f) (mA f)
 | .rng lo hi=>∃t u v,h.get? a=some { cls:=.type "range",data:=.fields #[.int lo t,.int hi u,.int 1 v] }
 | .frz o u=>h.get? a=some o/\Bb H h a u
 | .tbl ps=>h.get? a=some { cls:=.none,data:=.fields ps }
 | .met f x=>h.get? a=some (uy (.ref f) (.ref x))
 | .ext φ=>φ h/\(∃o,h.get? a=some o)/\∀h1 h2:cu,φ h1->(∀o,h1.get? a=some o->h2.get? a=some o)->φ h2
def Cc (H:Hp) (h:cu):Prop:=∀a o,H a=some o->Bb P w H h a o
end
section
variable{P:bh}{w:cm}{H H':Hp}{h h':cu}{a:ah}{o:HO}
theorem Bb.lt (x:Bb P w H h a o):a<h.objs.size:=by
 cases o with
 |lst xs=>obtain⟨_,_,_,_,e⟩:=x;exact au e
 |tup xs=>obtain⟨_,_,_,p⟩:=x;exact p.lt
 |dK kvs=>obtain⟨_,_,_,_,o,_,_,e,_⟩:=x;exact au e
 |dT kvs=>obtain⟨_,_,_,_,o,_,_,e,_⟩:=x;exact au e
 |set S n=>obtain⟨o,_,_,_,e,_⟩:=x;exact au e
 |ins C dx fs=>obtain⟨_,_,_,e,_⟩:=x;exact au e
 |own y=>obtain⟨_,e⟩:=x;exact au e
 |xd fs=>obtain⟨_,⟨_,_,_,e,_⟩,_⟩:=x;exact au e
 |rng lo hi=>obtain⟨_,_,_,e⟩:=x;exact au e
 |frz ob u=>obtain⟨e,_⟩:=x;exact au e
 |tbl ps=>exact au (show h.get? a=some _ from x)
 |met f y=>exact au (show h.get? a=some _ from x)
 |ext φ=>obtain⟨_,⟨_,e⟩,_⟩:=x;exact au e
theorem Paired.mapP {α β:Type}{F G:α->β->Prop}:∀{l₁:List α}{l₂:List β},Paired F l₁ l₂->(∀a b,F a b->G a b)->Paired G l₁ l₂
 |_,_,.nil,_=>.nil
 |_,_,.cons r t,f=>.cons (f _ _ r) (Paired.mapP t f)
theorem Bb.stay (x:Bb P w H h a o) (k:∀b u,(b=a∨H b=some (.own a))->h.get? b=some u->h'.get? b=some u)
  (ho:∀b,H b=some (.own a)->H' b=some (.own a)) (ht:∀b xs,H b=some (.tup xs)->H' b=some (.tup xs)):Bb P w H' h' a o:=by
 induction o with
 |lst xs=>obtain⟨z,its,n,r,e⟩:=x;exact⟨z,its,n,r,k _ _ (.inl rfl) e⟩
 |tup xs=>obtain⟨z,its,r,ob,e,c⟩:=x;exact⟨z,its,r,ob,k _ _ (.inl rfl) e,c⟩
 |dK kvs=>obtain⟨z,y,vs,r,ob,es,ep,e,c⟩:=x;exact⟨z,y,vs,r,ob,es,ep,k _ _ (.inl rfl) e,c⟩
 |dT kvs=>obtain⟨z,y,xs,r,ob,es,ep,e,c⟩:=x;exact⟨z,y,xs,Paired.mapP r λp q z=>⟨z.1,ht _ _ z.2.1,z.2.2⟩,ob,es,ep,k _ _ (.inl rfl) e,c⟩
 |set S n=>obtain⟨ob,es,ep,t,e,c⟩:=x;exact⟨ob,es,ep,t,k _ _ (.inl rfl) e,c⟩
 |ins C dx fs=>obtain⟨d,z,ne,e,mA,⟨od,es,ep,e2,c⟩,r⟩:=x;exact⟨ho _ d,z,ne,k _ _ (.inl rfl) e,mA,⟨od,es,ep,k _ _ (.inr d) e2,c⟩,r⟩
 |own y=>obtain⟨ob,e⟩:=x;exact⟨ob,k _ _ (.inl rfl) e⟩
 |xd fs=>obtain⟨mA,⟨od,es,ep,e,c⟩,r⟩:=x;exact⟨mA,⟨od,es,ep,k _ _ (.inl rfl) e,c⟩,r⟩
 |rng lo hi=>obtain⟨t,u,v,e⟩:=x;exact⟨t,u,v,k _ _ (.inl rfl) e⟩
 |frz ob u ih=>obtain⟨e,q⟩:=x;exact⟨k _ _ (.inl rfl) e,ih q⟩
 |tbl ps=>have e:h.get? a=some { cls:=.none,data:=.fields ps }:=x;show h'.get? a=some { cls:=.none,data:=.fields ps };exact k a _ (.inl rfl) e
 |met f y=>have e:h.get? a=some (uy (.ref f) (.ref y)):=x;show h'.get? a=some (uy (.ref f) (.ref y));exact k a _ (.inl rfl) e
 |ext φ=>obtain⟨p,⟨o,e⟩,st⟩:=x;exact⟨st _ _ p λo q=>k _ _ (.inl rfl) q,⟨o,k _ _ (.inl rfl) e⟩,st⟩
theorem Cc.lt (x:Cc P w H h) (e:H a=some o):a<h.objs.size:=(x a o e).lt
theorem Cc.fresh (x:Cc P w H h) (e:h.objs.size<=a):H a=none:=by
 cases q:H a with
 |none=>rfl
 |some u=>exact absurd (av (x.lt q) e) (gv _)
theorem Cc.kept (x:Cc P w H h) (k:∀b u,h.get? b=some u->h'.get? b=some u):Cc P w H h':=λa o e=>(x a o e).stay (λb u _ q=>k b u q) (λ_ q=>q) λ_ _ q=>q
theorem Cc.laid (x:Cc P w H h) (k:∀b u,h.get? b=some u->h'.get? b=some u) (hp:h.objs.size<=a) (new:Bb P w (aU H a o) h' a o):Cc P w (aU H a o) h':=λb u e=>by
 have hn:=x.fresh hp
 by_cases hb:b=a
 ·subst hb;rw[dF]at e;cases e;exact new
 ·rw[bV hb]at e;exact(x b u e).stay (λc v _ q=>k c v q) (λc q=>by rw[bV (gA q hn)];exact q) λc xs q=>by rw[bV (gA q hn)];exact q
end
def Rd (H:Hp) (a:ah) (u:HO):Prop:=H a=some u∨∃o,H a=some (.frz o u)
theorem Rd.ok {P:bh}{w:cm}{H:Hp}{h:cu}{a:ah}{u:HO}(r:Rd H a u) (x:Cc P w H h):Bb P w H h a u:=by
 rcases r with r|⟨o,r⟩
 ·exact x a u r
 ·obtain⟨_,q⟩:=x a _ r;exact q
def wH:Option HO->Prop
 |some (.lst _)=>True
 |some (.dK _)=>True
 |some (.dT _)=>True
 |some (.set _ _)=>True
 |some (.ins _ _ _)=>True
 |some (.ext _)=>True
 |_=>False
section
variable{P:bh}{w:cm}{H:Hp}{h h':cu}{x e:ah}{o':HO}
theorem Cc.write (ok:Cc P w H h) (mu:wH (H x)) (he:e=x∨H e=some (.own x)) (k:∀b u,b≠e->h.get? b=some u->h'.get? b=some u) (heo:∃u,h'.get? e=some u)
  (new:Bb P w (aU H x o') h' x o'):Cc P w (aU H x o') h':=λb u q=>by
 have nown:∀c y,H c=some (.own y)->c≠x:=λc y r z=>by subst z;rw[r]at mu;exact mu
 have ntup:∀c xs,H c=some (.tup xs)->c≠x:=λc xs r z=>by subst z;rw[r]at mu;exact mu
 by_cases hb:b=x
 ·subst hb;rw[dF]at q;cases q;exact new
 ·rw[bV hb]at q
  by_cases hbe:b=e
  ·have q':H b=some (.own x):=by
    rcases he with z|z
    ·exact absurd (hbe.trans z) hb
    ·rw[hbe];exact z
   rw[q]at q';cases q';obtain⟨v,hv⟩:=heo;exact⟨v,by rw[hbe];exact hv⟩
  ·refine(ok b u q).stay (λc v hc r=>k c v ?_ r) (λc r=>by rw[bV (nown c b r)];exact r) λc xs r=>by rw[bV (ntup c xs r)];exact r
   rcases hc with rfl|hc
   ·exact hbe
   ·rintro rfl
    rcases he with z|z
    ·exact nown c b hc z
    ·rw[hc]at z;cases z;exact hb rfl
end
structure Un (fs ex:List ah) (H H':Hp) (h h':cu):Prop where
 keep:∀b o,h.get? b=some o->H b=none->b∉fs->b∉ex->h'.get? b=some o
 slot:∀b o,h.get? b=some o->H b=none->b∈fs->b∉ex->∃sl,h'.get? b=some { o with slots:=sl }
 free:∀b o,h.get? b=some o->H b=none->b∉ex->H' b=none
 there:∀b o,h.get? b=some o->b∉ex->∃o',h'.get? b=some o'
 tups:∀b xs,H b=some (.tup xs)->H' b=some (.tup xs)
 frzs:∀b o u,H b=some (.frz o u)->H' b=some (.frz o u)
 tbls:∀b ps,H b=some (.tbl ps)->∃more,H' b=some (.tbl (ps++more))
section
variable{fs fs' ex ex':List ah}{H H1 H2:Hp}{h h1 h2 h':cu}{a x e:ah}{o:HO}
theorem Un.any (u:Un fs ex H H1 h h1) {b:ah}{ob:Obj}(q:h.get? b=some ob) (n:H b=none) (hx:b∉ex):∃sl,h1.get? b=some { ob with slots:=sl }:=by
 by_cases hb:b∈fs
 ·exact u.slot b ob q n hb hx
 ·exact⟨ob.slots,u.keep b ob q n hb hx⟩
theorem Un.kept (k:∀b u,h.get? b=some u->h'.get? b=some u):Un fs ex H H h h':=⟨λb ob q _ _ _=>k b ob q,λb ob q _ _ _=>⟨ob.slots,k b ob q⟩,λ_ _ _ n _=>n,λb ob q _=>⟨ob,k b ob q⟩,λ_ _ q=>q,λ_ _ _ q=>q,λ_ ps q=>⟨#[],by rw[q];simp⟩⟩
theorem Un.refl:Un fs ex H H h h:=Un.kept λ_ _ q=>q
theorem Un.laid (k:∀b u,h.get? b=some u->h'.get? b=some u) (hp:h.objs.size<=a) (hn:H a=none):Un fs ex H (aU H a o) h h' where
 keep:=λb u q _ _ _=>k b u q
 slot:=λb u q _ _ _=>⟨u.slots,k b u q⟩
 free:=λb u q n _=>by rw[bV (bg (av (au q) hp))];exact n
 there:=λb u q _=>⟨u,k b u q⟩
 tups:=λb xs q=>by rw[bV (gA q hn)];exact q
 frzs:=λb u xs q=>by rw[bV (gA q hn)];exact q
 tbls:=λb ps q=>⟨#[],by rw[bV (gA q hn),q];simp⟩
theorem Un.write (mu:wH (H x)) (he:e=x∨H e=some (.own x)) (k:∀b u,b≠e->h.get? b=some u->h'.get? b=some u) (heo:∃u,h'.get? e=some u):Un fs ex H (aU H x o) h h':=by
 have hx:∀b,H b=none->b≠x:=λb n z=>by subst z;rw[n]at mu;exact mu
 have hb:∀b,H b=none->b≠e:=λb n z=>by
  subst z
  rcases he with r|r
  ·exact hx b n r
  ·rw[n]at r;cases r
 have hm:∀b u,H b=some u->¬ wH (some u)->b≠x:=λb u q nm z=>by subst z;rw[q]at mu;exact nm mu
 refine⟨λb u q n _ _=>k b u (hb b n) q,λb u q n _ _=>⟨u.slots,k b u (hb b n) q⟩,λb u q n _=>by rw[bV (hx b n)];exact n,λb u q _=>?_,
  λb xs q=>by rw[bV (hm b _ q λz=>z)];exact q,λb u xs q=>by rw[bV (hm b _ q λz=>z)];exact q,λb ps q=>⟨#[],by rw[bV (hm b _ q λz=>z),q];simp⟩⟩
 by_cases hbe:b=e
 ·subst hbe;exact heo
 ·exact⟨u,k b u hbe q⟩
end
def wI (h:cu) (H:Hp):List ah:=(bp h.objs.size).filter λa=>(H a).isSome
def kW (h:cu) (H:Hp):cu:=PySem.W.hideAll h (wI h H)
theorem RA (h:cu) (H:Hp):(kW h H).objs.size=h.objs.size:=yo _ _
theorem RC {h:cu}{H:Hp}{b:ah}{o:Obj}(e:h.get? b=some o) (n:H b=none):(kW h H).get? b=some o:=yr _ e λhm=>by have q:(H b).isSome=true:=(gb.mp hm).2;rw[n]at q;simp at q
theorem RD {h:cu}{H:Hp}{b:ah}{o:Obj}(e:(kW h H).get? b=some o):h.get? b=some o/\H b=none:=by
 have e':h.get? b=some o:=zb (wI h H) e;refine⟨e', ?_⟩
 cases q:H b with
 |none=>rfl
 |some x=>have hm:b∈wI h H:=gb.mpr ⟨br.mpr (au e'),by simp[q]⟩;have z:(kW h H).get? b=none:=yp (wI h H) hm;rw[z]at e;cases e
structure Mod (K:aq) (mg:Str->Option af) (base:cu):Prop where
 kin:K.In base
 glob:base.Ns dg mg
 blt:∃mb,base.Ns builtinsNs mb/\∀x:Str,x ≠ "__name__"->mb x=di x
 nolimit:base.NoLimit
structure Cx where
 prog:bh
 w:cm
 K:aq
 mg:Str->Option af
 base:cu
 A:bu
 N:Aj
 s₀:ag
 H₀:Hp
 env:Env
 outer:List Env
 stack:List Env
 ex:List ah
 fn:Str->Bool
 calm:Bool
 pn:List (ah×Obj)
 xe:af->ag->Prop
def dY (l:List Env):List ah:=l.filterMap (·.frame)
abbrev Cx.fs (X:Cx):List ah:=dY X.outer
def qZ (sc:gu) (x:Str):Prop:=sc.names.lookup x=some .local∨sc.names.lookup x=some .cell∨sc.names.lookup x=some .free
def lX (sc:gu) (x:Str):Prop:=sc.names.lookup x=some .local∨sc.names.lookup x=some .cell
def GS (env:Env) (h:cu) (m:Str->Option af) (x:Str) (u:af):Prop:=(env.kindOf x=some .local/\m x=some u)∨((env.kindOf x=some .cell∨env.kindOf x=some .free)/\∃c,env.cells.lookup x=some c/\h.IsCell c (some u))
structure Cx.Ok (X:Cx):Prop where
 mod:Mod X.K X.mg X.base
 kind:X.env.scope.kind=.function
 glob:X.env.globals=dg
 blt:X.env.builtins=builtinsNs
 above:X.s₀.heap.objs.size<=X.env.locals
 inj:∀x y c,X.env.cells.lookup x=some c->X.env.cells.lookup y=some c->x=y
 has:∀x,(X.env.kindOf x=some .cell∨X.env.kindOf x=some .free)->∃c,X.env.cells.lookup x=some c
 cab:∀x c,X.fn x=true->X.env.cells.lookup x=some c->X.s₀.heap.objs.size<=c
 hd:X.calm=true->X.A.handled=none
 frames:X.A.frames=some X.stack
 stk:X.stack=X.outer∨(X.stack=X.env::X.outer/\X.env.frame=some X.env.locals)
 exf:∀b∈X.ex,b≠X.env.locals/\∀x c,X.env.cells.lookup x=some c->c≠b
 bs:∀b o,X.base.get? b=some o->X.s₀.heap.get? b=some o/\X.H₀ b=none
 bsz:X.base.objs.size<=X.s₀.heap.objs.size
 noex:∀b o,X.base.get? b=some o->b∉X.ex
 exfs:∀b∈X.ex,b∉X.fs
 funs:X.s₀.heap.FunFrames X.base X.outer
 frf:∀b∈X.fs,X.H₀ b=none
structure Inv (X:Cx) (pins:List (ah×Obj)) (σ:List (Option V)) (H:Hp) (s:ag):Prop where
 ok:X.Ok
 os:s.os=X.s₀.os
 bare:tq s.gens
 base:Un X.fs X.ex X.H₀ H X.s₀.heap s.heap
 loc:∃m,s.heap.Ns X.env.locals m/\∀(i:Nat) (x:Str) (v:V),X.N[i]?=some x->σ[i]?=some (some v)->qZ X.env.scope x->∃u,RelV v u/\GS X.env s.heap m x u
 cell:∀x c,X.env.cells.lookup x=some c->∃v,s.heap.IsCell c v
 free:H X.env.locals=none
 freeC:∀x c,X.env.cells.lookup x=some c->H c=none
 pin:∀p∈X.pn++pins,s.heap.get? p.1=some p.2/\H p.1=none/\p.1≠X.env.locals/\p.1∉X.fs/\∀v,p.2.data≠.cell v
 hok:Cc X.prog X.w H s.heap
 len:σ.length=X.N.length
section
variable{X:Cx}{pins:List (ah×Obj)}{σ:List (Option V)}{H H':Hp}{s:ag}{h':cu}
theorem Cx.Ok.nofr (ok:X.Ok) {b:ah}{o:Obj}(e:X.base.get? b=some o):b∉X.fs:=λhb=>by have:=(ok.funs.mem hb).1;rw[e]at this;cases this
theorem Inv.bs (I:Inv X pins σ H s):∀b o,X.base.get? b=some o->s.heap.get? b=some o/\H b=none:=λb o e=>⟨I.base.keep b o (I.ok.bs b o e).1 (I.ok.bs b o e).2 (I.ok.nofr e) (I.ok.noex b o e),I.base.free b o (I.ok.bs b o e).1 (I.ok.bs b o e).2 (I.ok.noex b o e)⟩
theorem Inv.bk (I:Inv X pins σ H s):∀b o,X.base.get? b=some o->s.heap.get? b=some o:=λb o e=>(I.bs b o e).1
theorem Inv.mod (I:Inv X pins σ H s):Mod X.K X.mg X.base:=I.ok.mod
theorem Inv.kIn (I:Inv X pins σ H s):X.K.In s.heap:=I.ok.mod.kin.keeps I.bk
theorem Inv.lt (I:Inv X pins σ H s):X.env.locals<s.heap.objs.size:=let ⟨_,hn,_⟩:=I.loc;hn.lt
theorem Inv.sz (I:Inv X pins σ H s):X.s₀.heap.objs.size<=s.heap.objs.size:=dh I.ok.above (gy I.lt)
theorem Inv.nofs (I:Inv X pins σ H s) {a:ah}(h:s.heap.objs.size<=a):a∉X.fs:=λhb=>by obtain⟨_,o,ho,_⟩:=I.ok.funs.mem hb;exact absurd (av (au ho) (dh I.sz h)) (gv _)
theorem Inv.cne (I:Inv X pins σ H s):∀x c,X.env.cells.lookup x=some c->c≠X.env.locals:=λx c e z=>by obtain⟨v,o,ho,hd⟩:=I.cell x c e;obtain⟨m,⟨o',es,ep,Dm,Cs,_⟩,_⟩:=I.loc;rw[z,Dm]at ho;cases ho;rw[Cs]at hd;cases hd
theorem Inv.funs (I:Inv X pins σ H s):s.heap.FunFrames X.base X.outer:=by
 have all:∀(l:List Env),(∀b∈dY l,b∈X.fs)->X.s₀.heap.FunFrames X.base l->s.heap.FunFrames X.base l:=by
  intro l
  induction l with
  |nil=>intro _ _;trivial
  |cons env r ih=>intro hs hl;obtain⟨hk,⟨L,o,hf,hn,ho,hd⟩,hr⟩:=hl;have hL:L∈X.fs:=hs L (by unfold dY;rw[bw,hf];exact ay);obtain⟨sl,e⟩:=I.base.slot L o ho (I.ok.frf L hL) hL λz=>I.ok.exfs L z hL;exact⟨hk,⟨L,_,hf,hn,e,hd⟩,ih (λb hb=>hs b (by unfold dY;rw[bw,hf];exact ao _ hb)) hr⟩
 exact all X.outer (λ_ hb=>hb) I.ok.funs
theorem Inv.stack (I:Inv X pins σ H s):s.heap.FunFrames X.base X.stack:=by
 rcases I.ok.stk with e|⟨e,hf⟩
 ·rw[e];exact I.funs
 ·rw[e];obtain⟨m,hn,_⟩:=I.loc;refine .cons (by rw[I.ok.kind];decide) hf hn ?_ I.funs;exact Heap.get?_none_of_le (dh I.ok.bsz I.ok.above)
theorem Inv.stkSub (I:Inv X pins σ H s):∀b∈dY X.stack,b∈X.env.locals::X.fs:=λb hb=>by
 rcases I.ok.stk with e|⟨e,hf⟩
 ·rw[e]at hb;exact ao _ hb
 ·rw[e]at hb;unfold dY at hb;rw[bw,hf]at hb;exact hb
theorem Inv.stkFree (I:Inv X pins σ H s):∀b∈dY X.stack,H b=none:=λb hb=>by
 rcases ba.mp (I.stkSub b hb)with e|hb
 ·rw[e];exact I.free
 ·obtain⟨_,o,ho,_⟩:=I.ok.funs.mem hb;exact I.base.free b o ho (I.ok.frf b hb) λz=>I.ok.exfs b z hb
theorem Inv.step {g':Array GenState}{t':Nat}{d':Drawn}{ch:List ah}(I:Inv X pins σ H s)
  (Dz:∀b∈ch,(b∈X.ex∨X.s₀.heap.objs.size<=b)/\b≠X.env.locals/\(∀x c,X.env.cells.lookup x=some c->c≠b)/\∀p∈X.pn++pins,p.1≠b)
  (keep:∀b o,b≠X.env.locals->b∉X.fs->b∉ch->s.heap.get? b=some o->H b=none->h'.get? b=some o)
  (slot:∀b o,b≠X.env.locals->b∈X.fs->b∉ch->s.heap.get? b=some o->H b=none->∃sl,h'.get? b=some { o with slots:=sl }) (free:∀b o,b∉ch->s.heap.get? b=some o->H b=none->H' b=none)
  (there:∀b o,b∉ch->s.heap.get? b=some o->∃o',h'.get? b=some o')
  (tups:∀b xs,H b=some (.tup xs)->H' b=some (.tup xs)) (frzs:∀b o u,H b=some (.frz o u)->H' b=some (.frz o u)) (tbls:∀b ps,H b=some (.tbl ps)->∃more,H' b=some (.tbl (ps++more)))
  (ns:∀m,s.heap.Ns X.env.locals m->h'.Ns X.env.locals m) (hok:Cc X.prog X.w H' h') (hg:tq g'):
  Inv X pins σ H' { s with heap:=h',gens:=g',drawn:=d',toks:=t' }:=by
 have neL:∀b o,X.s₀.heap.get? b=some o->b≠X.env.locals:=λb o e=>bg (av (au e) I.ok.above);have neC:∀b o,X.s₀.heap.get? b=some o->b∉X.ex->b∉ch:=λb o e hx hb=>by
  rcases(Dz b hb).1 with z|z
  ·exact hx z
  ·exact absurd (av (au e) z) (gv _)
 have cellK:∀x c,X.env.cells.lookup x=some c->∀v,s.heap.IsCell c v->h'.IsCell c v:=λx c e v ⟨o,ho,hd⟩=>by
  have nch:c∉ch:=λz=>(Dz c z).2.2.1 x c e rfl
  by_cases hc:c∈X.fs
  ·obtain⟨sl,q⟩:=slot c o (I.cne x c e) hc nch ho (I.freeC x c e);exact⟨_,q,hd⟩
  ·exact⟨o,keep c o (I.cne x c e) hc nch ho (I.freeC x c e),hd⟩
 refine⟨I.ok,I.os,hg,⟨λb o e n hb hx=>?_,λb o e n hb hx=>?_,λb o e n hx=>?_,λb o e hx=>?_,λb xs e=>tups b xs (I.base.tups b xs e),λb o xs e=>frzs b o xs (I.base.frzs b o xs e),λb ps e=>?_⟩, ?_,λx c e=>?_, ?_,λx c e=>?_,λp hp=>?_,hok,I.len⟩
 ·exact keep b o (neL b o e) hb (neC b o e hx) (I.base.keep b o e n hb hx) (I.base.free b o e n hx)
 ·obtain⟨sl,e1⟩:=I.base.slot b o e n hb hx;obtain⟨sl',e2⟩:=slot b _ (neL b o e) hb (neC b o e hx) e1 (I.base.free b o e n hx);exact⟨sl',e2⟩
 ·obtain⟨o',e1⟩:=I.base.there b o e hx;exact free b o' (neC b o e hx) e1 (I.base.free b o e n hx)
 ·obtain⟨o',e1⟩:=I.base.there b o e hx;exact there b o' (neC b o e hx) e1
 ·obtain⟨m1,e1⟩:=I.base.tbls b ps e;obtain⟨m2,e2⟩:=tbls b _ e1;exact⟨m1++m2,by rw[e2,Array.append_assoc]⟩
 ·obtain⟨m,hn,hl⟩:=I.loc;refine⟨m,ns m hn,λi x v e1 e2 e3=>?_⟩;obtain⟨u,r,l⟩:=hl i x v e1 e2 e3;refine⟨u,r, ?_⟩
  rcases l with l|⟨k,c,e,z⟩
  ·exact .inl l
  ·exact .inr ⟨k,c,e,cellK x c e _ z⟩
 ·obtain⟨v,z⟩:=I.cell x c e;exact⟨v,cellK x c e v z⟩
 ·obtain⟨m,⟨o,_,_,ho,_⟩,_⟩:=I.loc;exact free _ o (λz=>(Dz _ z).2.1 rfl) ho I.free
 ·obtain⟨v,o,ho,hd⟩:=I.cell x c e;exact free c o (λz=>(Dz c z).2.2.1 x c e rfl) ho (I.freeC x c e)
 ·obtain⟨e,n,ne,nf,d⟩:=I.pin p hp;have nch:p.1∉ch:=λz=>(Dz p.1 z).2.2.2 p hp rfl;exact⟨keep p.1 p.2 ne nf nch e n,free p.1 p.2 nch e n,ne,nf,d⟩
theorem Inv.un {t':Nat}(I:Inv X pins σ H s) (u:Un X.fs [] H H' s.heap h') (hok:Cc X.prog X.w H' h'):Inv X pins σ H' { s with heap:=h',toks:=t' }:=by obtain⟨m,⟨o,es,ep,ho,r⟩,_⟩:=id I.loc;obtain⟨sl,hL⟩:=u.any ho I.free (by simp);exact I.step (g':=s.gens) (d':=s.drawn) (ch:=[]) (λ_ z=>nomatch z) (λb o _ hb _ e n=>u.keep b o e n hb (by simp)) (λb o _ hb _ e n=>u.slot b o e n hb (by simp)) (λb o _ e n=>u.free b o e n (by simp)) (λb o _ e=>u.there b o e (by simp)) u.tups u.frzs u.tbls (λm' hm=>by obtain⟨o',es',ep',Dm,r'⟩:=hm;rw[ho]at Dm;cases Dm;exact⟨_,es',ep',hL,r'⟩) hok I.bare
theorem Inv.call {g':Array GenState}{t':Nat}{d':Drawn}{ch:List ah}(I:Inv X pins σ H s) (u:Un (dY X.stack) ch H H' s.heap h') (hok:Cc X.prog X.w H' h') (hg:tq g')
  (Dz:∀b∈ch,(b∈X.ex∨X.s₀.heap.objs.size<=b)/\b≠X.env.locals/\(∀x c,X.env.cells.lookup x=some c->c≠b)/\∀p∈X.pn++pins,p.1≠b):
  Inv X pins σ H' { s with heap:=h',gens:=g',drawn:=d',toks:=t' }:=by
 obtain⟨m,⟨o,es,ep,ho,r⟩,_⟩:=id I.loc;obtain⟨sl,hL⟩:=u.any ho I.free λz=>(Dz _ z).2.1 rfl;exact I.step (ch:=ch) Dz (λb o hL hb hc e n=>u.keep b o e n (λz=>(ba.mp (I.stkSub b z)).elim hL hb) hc) (λb o _ _ hc e n=>u.any e n hc) (λb o hc e n=>u.free b o e n hc) (λb o hc e=>u.there b o e hc) u.tups u.frzs u.tbls (λm' hm=>by obtain⟨o',es',ep',Dm,r'⟩:=hm;rw[ho]at Dm;cases Dm;exact⟨_,es',ep',hL,r'⟩) hok hg
theorem Inv.turned {t':Nat}{it:ah}(I:Inv X pins σ H s) (k:∀b o,b≠it->s.heap.get? b=some o->h'.get? b=some o) (hn:H it=none) (hL:it≠X.env.locals)
  (h1:it∈X.ex∨X.s₀.heap.objs.size<=it) (h2:∀x c,X.env.cells.lookup x=some c->c≠it) (h3:∀p∈X.pn++pins,p.1≠it):Inv X pins σ H { s with heap:=h',toks:=t' }:=by
 have nit:∀b u,H b=some u->b≠it:=λb u e z=>by rw[z,hn]at e;cases e
 refine I.step (g':=s.gens) (d':=s.drawn) (ch:=[it]) (λb hb=>?_) (λb o _ _ hc e _=>k b o (λz=>hc (by simp[z])) e) (λb o _ _ hc e _=>⟨o.slots,k b o (λz=>hc (by simp[z])) e⟩) (λ_ _ _ _ n=>n)
  (λb o hc e=>⟨o,k b o (λz=>hc (by simp[z])) e⟩) (λ_ _ e=>e) (λ_ _ _ e=>e) (λb ps e=>⟨#[],by rw[e];simp⟩) (λm hm=>?_) (λb u e=>?_) I.bare
 ·have e:b=it:=by simpa using hb
  subst e;exact⟨h1,hL,h2,h3⟩
 ·obtain⟨o,es,ep,ho,r⟩:=hm;exact⟨o,es,ep,k _ o (cx hL) ho,r⟩
 ·refine(I.hok b u e).stay (λc v hc q=>k c v ?_ q) (λ_ q=>q) λ_ _ q=>q
  rcases hc with z|z
  ·rw[z];exact nit b u e
  ·exact nit c _ z
theorem Inv.tok (I:Inv X pins σ H s) (t:Nat):Inv X pins σ H { s with toks:=t }:=I.un (h':=s.heap) (t':=t) Un.refl I.hok
theorem Inv.kept {t':Nat}(I:Inv X pins σ H s) (k:∀b u,s.heap.get? b=some u->h'.get? b=some u):Inv X pins σ H { s with heap:=h',toks:=t' }:=I.un (Un.kept k) (I.hok.kept k)
theorem Inv.laid {a:ah}{o:HO}{t':Nat}(I:Inv X pins σ H s) (k:∀b u,s.heap.get? b=some u->h'.get? b=some u) (hp:s.heap.objs.size<=a) (new:Bb X.prog X.w (aU H a o) h' a o):
  Inv X pins σ (aU H a o) { s with heap:=h',toks:=t' }:=I.un (Un.laid k hp (I.hok.fresh hp)) (I.hok.laid k hp new)
theorem Inv.write {x e:ah}{o:HO}{t':Nat}(I:Inv X pins σ H s) (mu:wH (H x)) (he:e=x∨H e=some (.own x)) (k:∀b u,b≠e->s.heap.get? b=some u->h'.get? b=some u) (heo:∃u,h'.get? e=some u)
  (new:Bb X.prog X.w (aU H x o) h' x o):Inv X pins σ (aU H x o) { s with heap:=h',toks:=t' }:=I.un (Un.write mu he k heo) (I.hok.write mu he k heo new)
theorem Inv.pins_of {pins':List (ah×Obj)}(I:Inv X pins σ H s) (h:∀p∈pins',s.heap.get? p.1=some p.2/\H p.1=none/\p.1≠X.env.locals/\p.1∉X.fs/\∀v,p.2.data≠.cell v):Inv X pins' σ H s:=⟨I.ok,I.os,I.bare,I.base,I.loc,I.cell,I.free,I.freeC,λp hp=>(cy.mp hp).elim (λz=>I.pin p (fj _ z)) (h p),I.hok,I.len⟩
theorem AJ {N:Aj}(hN:N.Nodup) {i j:Nat}{x:Str}(a:N[i]?=some x) (b:N[j]?=some x):i=j:=by obtain⟨h1,e1⟩:=az.mp a;obtain⟨h2,e2⟩:=az.mp b;exact(List.getElem_inj hN).mp (e1.trans e2.symm)
theorem GU {M:xc}{A:bu}{E:af->ag->Prop}{i:Nat}{x:Str}{v:V}{u:af}{Q:Unit->ag->Prop}(I:Inv X pins σ H s) (hN:X.N.Nodup) (hi:X.N[i]?=some x) (hx:lX X.env.scope x) (r:RelV v u)
  (h:∀s',Inv X pins (σ.set i (some v)) H s'->(∃a,ik a s.heap s'.heap/\(a=X.env.locals∨X.env.cells.lookup x=some a))->Q () s') (hf:X.fn x=true∨X.env.scope.names.lookup x=some .local:=by first|exact .inl rfl|exact .inr rfl|assumption):wpAny M A (storeName X.env x u) Q E s:=by
 obtain⟨m,hn,hl⟩:=id I.loc;have hcls:(X.env.scope.kind==.class||(X.env.scope.kind==.module&&X.env.locals != X.env.globals))=false:=by rw[I.ok.kind];rfl
 have hiσ:i<σ.length:=by rw[I.len];exact(az.mp hi).1
 have cne:=I.cne;have tracked:∀{a:ah}{h':cu},(∃o,s.heap.get? a=some o/\H a=none)->ik a s.heap h'->Cc X.prog X.w H h':=λ{a h'} ha hs b ob e=>by
  obtain⟨_,_,hfree⟩:=ha;refine(I.hok b ob e).stay (λc w' hc q=>(hs.2 c ?_).trans q) (λ_ q=>q) λ_ _ q=>q
  rintro rfl
  rcases hc with rfl|hc
  ·rw[hfree]at e;cases e
  ·rw[hfree]at hc;cases hc
 rcases hx with hk|hk
 ·refine wpAny_storeName_local hk hn (λh' hn' hs=>?_) hcls;obtain⟨oL,_,_,hoL,_⟩:=id hn;refine h _ ⟨I.ok,I.os,I.bare,⟨λb o e n hb hx=>?_,λb o e n hb hx=>?_,I.base.free,λb o e hx=>?_,I.base.tups,I.base.frzs,I.base.tbls⟩,⟨_,hn',λj y v' e1 e2 e3=>?_⟩,λy c e=>?_,I.free,I.freeC,λp hp=>?_,tracked ⟨oL,hoL,I.free⟩ hs,by simpa using I.len⟩ ⟨_,hs,.inl rfl⟩
  ·exact(hs.2 b (bg (av (au e) I.ok.above))).trans (I.base.keep b o e n hb hx)
  ·obtain⟨sl,e1⟩:=I.base.slot b o e n hb hx;exact⟨sl,(hs.2 b (bg (av (au e) I.ok.above))).trans e1⟩
  ·obtain⟨o',e1⟩:=I.base.there b o e hx;exact⟨o',(hs.2 b (bg (av (au e) I.ok.above))).trans e1⟩
  ·by_cases hj:j=i
   ·subst hj;rw[hi]at e1;cases e1;rw[df hiσ]at e2;cases e2;exact⟨u,r,.inl ⟨hk,by simp⟩⟩
   ·rw[du (cx hj)]at e2;obtain⟨u',r',q⟩:=hl j y v' e1 e2 e3;refine⟨u',r', ?_⟩
    rcases q with⟨k,e⟩|⟨k,c,e,z⟩
    ·refine .inl ⟨k, ?_⟩;have:y≠x:=λe=>hj (AJ hN e1 (e▸hi));simp[this,e]
    ·exact .inr ⟨k,c,e,z.sameBut hs (cne y c e)⟩
  ·obtain⟨w',z⟩:=I.cell y c e;exact⟨w',z.sameBut hs (cne y c e)⟩
  ·obtain⟨e,n,ne,nf,d⟩:=I.pin p hp;exact⟨(hs.2 p.1 ne).trans e,n,ne,nf,d⟩
 ·have hfn:X.fn x=true:=by
   rcases hf with z|z
   ·exact z
   ·rw[z]at hk;cases hk
  obtain⟨c,hc⟩:=I.ok.has x (.inl hk);obtain⟨w',z⟩:=I.cell x c hc;refine wpAny_storeName_cell I.ok.kind hk hc z (λh' hc' hs=>?_);obtain⟨oc,hoc,hocd⟩:=id z;refine h { s with heap:=h' } ⟨I.ok,I.os,I.bare,⟨λb o e n hb hx=>?_,λb o e n hb hx=>?_,I.base.free,λb o e hx=>?_,I.base.tups,I.base.frzs,I.base.tbls⟩,⟨m,hn.sameBut hs (cx (cne x c hc)),λj y v' e1 e2 e3=>?_⟩,λy c' e=>?_,I.free,I.freeC,λp hp=>?_,tracked ⟨oc,hoc,I.freeC x c hc⟩ hs,by simpa using I.len⟩ ⟨c,hs,.inr hc⟩
  ·exact(hs.2 b (bg (av (au e) (I.ok.cab x c hfn hc)))).trans (I.base.keep b o e n hb hx)
  ·obtain⟨sl,e1⟩:=I.base.slot b o e n hb hx;exact⟨sl,(hs.2 b (bg (av (au e) (I.ok.cab x c hfn hc)))).trans e1⟩
  ·obtain⟨o',e1⟩:=I.base.there b o e hx;exact⟨o',(hs.2 b (bg (av (au e) (I.ok.cab x c hfn hc)))).trans e1⟩
  ·by_cases hj:j=i
   ·subst hj;rw[hi]at e1;cases e1;rw[df hiσ]at e2;cases e2;exact⟨u,r,.inr ⟨.inl hk,c,hc,hc'⟩⟩
   ·rw[du (cx hj)]at e2;obtain⟨u',r',q⟩:=hl j y v' e1 e2 e3;refine⟨u',r', ?_⟩
    rcases q with q|⟨k,c',e,z'⟩
    ·exact .inl q
    ·refine .inr ⟨k,c',e,z'.sameBut hs ?_⟩
     rintro rfl
     exact hj (AJ hN e1 (I.ok.inj _ _ _ e hc▸hi))
  ·by_cases hcc:c'=c
   ·subst hcc;exact⟨_,hc'⟩
   ·obtain⟨w2,z2⟩:=I.cell y c' e;exact⟨w2,z2.sameBut hs hcc⟩
  ·obtain⟨e,n,ne,nf,d⟩:=I.pin p hp;refine⟨(hs.2 p.1 ?_).trans e,n,ne,nf,d⟩;intro q;rw[q,hoc]at e;have q':oc=p.2:=cq e;exact d w' (by rw[<-q'];exact hocd)
theorem AK {M:xc}{A:bu}{E:af->ag->Prop}{i:Nat}{x:Str}{v:V}{u:af}{Q:Unit->ag->Prop}(I:Inv X pins σ H s) (hN:X.N.Nodup) (hi:X.N[i]?=some x) (hx:lX X.env.scope x) (r:RelV v u)
  (h:∀s',Inv X pins (σ.set i (some v)) H s'->Q () s') (hf:X.fn x=true∨X.env.scope.names.lookup x=some .local:=by first|exact .inl rfl|exact .inr rfl|assumption):wpAny M A (storeName X.env x u) Q E s:=
 GU I hN hi hx r (λs' I' _=>h s' I') hf
theorem Inv.call' {s':ag}{ch:List ah}(I:Inv X pins σ H s) (ho:s'.os=s.os) (u:Un (dY X.stack) ch H H' s.heap s'.heap) (hok:Cc X.prog X.w H' s'.heap) (hg:tq s'.gens)
  (Dz:∀b∈ch,(b∈X.ex∨X.s₀.heap.objs.size<=b)/\b≠X.env.locals/\(∀x c,X.env.cells.lookup x=some c->c≠b)/\∀p∈X.pn++pins,p.1≠b):Inv X pins σ H' s':=by
 obtain⟨h',g',d',t',o'⟩:=s';have e:o'=s.os:=ho;subst e;exact I.call (g':=g') (t':=t') (d':=d') u hok hg Dz
end
abbrev XK:=af->Option ah->Hp->Prop
abbrev St:=List (Option V)
abbrev VK:=V->Hp->Prop
abbrev TE:=St->Hp->VK->Prop
abbrev TT:=St->Hp->(Bool->Hp->Prop)->Prop
abbrev TA:=St->Hp->(List V->Hp->Prop)->Prop
structure Ends where
 nx:St->Hp->Prop
 rt:VK
 bk:St->Hp->Prop:=λ_ _=>False
 ct:St->Hp->Prop:=λ_ _=>False
abbrev TS:=Ends->St->Hp->Prop
def EP (X:Cx) (pins:List (ah×Obj)) (σ:St) (Q:VK) (u:af) (s':ag):Prop:=∃v H',Inv X pins σ H' s'/\RelV v u/\Q v H'
def TP (X:Cx) (pins:List (ah×Obj)) (σ:St) (Q:Bool->Hp->Prop) (b:Bool) (s':ag):Prop:=∃H',Inv X pins σ H' s'/\Q b H'
def AP (X:Cx) (pins:List (ah×Obj)) (σ:St) (Q:List V->Hp->Prop) (us:List af) (s':ag):Prop:=∃vs H',Inv X pins σ H' s'/\Az vs us/\Q vs H'
def SP (X:Cx) (pins:List (ah×Obj)) (D:Ends) (f:Flow) (s':ag):Prop:=
 match f with
 | .next=>∃σ' H',Inv X pins σ' H' s'/\D.nx σ' H'
 | .brk=>∃σ' H',Inv X pins σ' H' s'/\D.bk σ' H'
 | .cont=>∃σ' H',Inv X pins σ' H' s'/\D.ct σ' H'
 | .ret u=>∃v σ' H',Inv X pins σ' H' s'/\RelV v u/\D.rt v H'
def PE (X:Cx) (e:bj) (t:TE):Prop:=∀(pins:List (ah×Obj)) (s:ag) (σ:St) (H:Hp) (Q:VK),Inv X pins σ H s->t σ H Q->wpAny (model X.prog X.w) X.A (eval e X.env) (EP X pins σ Q) X.xe s
def PT (X:Cx) (e:bj) (t:TT):Prop:=∀(pins:List (ah×Obj)) (s:ag) (σ:St) (H:Hp) (Q:Bool->Hp->Prop),Inv X pins σ H s->t σ H Q->wpAny (model X.prog X.w) X.A (isTrue e X.env (eval e X.env)) (TP X pins σ Q) X.xe s
def PW (X:Cx) (e:bj) (t:TT):Prop:=∀(whole:Sem af) (pins:List (ah×Obj)) (s:ag) (σ:St) (H:Hp) (Q:Bool->Hp->Prop),Inv X pins σ H s->t σ H Q->wpAny (model X.prog X.w) X.A (isTrue e X.env whole) (TP X pins σ Q) X.xe s
theorem PW.pt {X:Cx}{e:bj}{t:TT}(h:PW X e t):PT X e t:=h _
def PA (X:Cx) (es:List bj) (t:TA):Prop:=∀(pos:Pos) (pins:List (ah×Obj)) (s:ag) (σ:St) (H:Hp) (Q:List V->Hp->Prop),Inv X pins σ H s->t σ H Q->wpAny (model X.prog X.w) X.A (spliced (backTo pos (ar es X.env))) (AP X pins σ Q) X.xe s
def PS (X:Cx) (st:gw) (t:TS):Prop:=∀(pins:List (ah×Obj)) (s:ag) (σ:St) (H:Hp) (D:Ends),Inv X pins σ H s->t D σ H->wpAny (model X.prog X.w) X.A (exec st X.env) (SP X pins D) X.xe s
def Ey (X:Cx) (st:List gw) (t:TS):Prop:=∀(pins:List (ah×Obj)) (s:ag) (σ:St) (H:Hp) (D:Ends),Inv X pins σ H s->t D σ H->wpAny (model X.prog X.w) X.A (execs st X.env) (SP X pins D) X.xe s
theorem aZ {α:Type}{t:Sem α}{Q Q':α->ag->Prop}{M:xc}{A:bu}{E:af->ag->Prop}{s:ag}(h:wpAny M A t Q E s) (hQ:∀a s,Q a s->Q' a s):wpAny M A t Q' E s:=lh h hQ λ_ _ x=>x
section
variable{X:Cx}
def GV (i:Nat):TE:=λσ H Q=>∃v,σ[i]?=some (some v)/\Q v H
def tC (v:V):TE:=λ_ H Q=>Q v H
theorem sW {i:Nat}{x:Str}{pos:Pos}(hN:X.N[i]?=some x) (hv:qZ X.env.scope x) (hd:(x==Gd)=false:=by decide) (hcd:(x==("__classdict__" : Str))=false:=by decide):PE X (.Name x pos) (GV i):=by
 intro pins s σ H Q I h;obtain⟨v,e,h⟩:=h;obtain⟨m,hn,hl⟩:=I.loc;obtain⟨u,r,l⟩:=hl i x v hN e hv;have fin:EP X pins σ Q u s:=⟨v,H,I,r,h⟩
 rcases l with⟨hk,hm⟩|⟨hk,c,hc,hcell⟩
 ·exact wpAny_Name (wpAny_loadName_local I.ok.kind hk hn hm fin) hd
 ·rcases hk with hk|hk
  ·exact wpAny_Name (wpAny_loadName_cell I.ok.kind hk hc hcell fin) hd
  ·exact wpAny_Name (wpAny_loadName_free I.ok.kind hk hc hcell fin hcd) hd
theorem RE {i j pos}:PE X (.Constant (.int i) j pos) (tC (.int i)):=λ_ _ _ H _ I h=>wpAny_Constant_int ⟨.int i,H,I.tok _,⟨_,rfl⟩,h⟩
theorem RF {b j pos}:PE X (.Constant (.bool b) j pos) (tC (.bl b)):=λ_ _ _ H _ I h=>Constant_bool ⟨.bl b,H,I,rfl,h⟩
theorem GW {j pos}:PE X (.Constant .none j pos) (tC .non):=λ_ _ _ H _ I h=>Constant_none ⟨.non,H,I,rfl,h⟩
theorem GX {x j pos}:PE X (.Constant (.str x) j pos) (tC (.str x)):=λ_ _ _ H _ I h=>Calls.Constant_str ⟨.str x,H,I.tok _,⟨_,rfl⟩,h⟩
def Gl (X:Cx) (x:Str):Prop:=X.env.kindOf x=some .globalImplicit
theorem sX {E:af->ag->Prop}{pins:List (ah×Obj)}{s:ag}{σ:St}{H:Hp}{x:Str}{u:af}{pos:Pos}{Q:af->ag->Prop}(I:Inv X pins σ H s) (hg:Gl X x) (hm:X.mg x=some u) (h:Q u s)
  (hd:(x==Gd)=false:=by decide):wpAny (model X.prog X.w) X.A (eval (.Name x pos) X.env) Q E s:=
 xf I.ok.kind hg (Calls.loadGlobal_global (by rw[I.ok.glob];exact I.mod.glob.keeps I.bk) hm h) hd
theorem qA {E:af->ag->Prop}{pins:List (ah×Obj)}{s:ag}{σ:St}{H:Hp}{x:Str}{u:af}{pos:Pos}{Q:af->ag->Prop}(I:Inv X pins σ H s) (hg:Gl X x) (hm:X.mg x=none) (hv:di x=some u) (h:Q u s)
  (hn:x ≠ "__name__" := by decide) (hd:(x==Gd)=false:=by decide):wpAny (model X.prog X.w) X.A (eval (.Name x pos) X.env) Q E s:=by
 obtain⟨mb,h1,h2⟩:=I.mod.blt;exact xf I.ok.kind hg (Calls.loadGlobal_builtin (by rw[I.ok.glob];exact I.mod.glob.keeps I.bk) hm (by rw[I.ok.blt];exact h1.keeps I.bk) ((h2 x hn).trans hv) h) hd
theorem GY {x:Str}{v:V}{u:af}{pos:Pos}(hg:Gl X x) (hm:X.mg x=some u) (r:RelV v u) (hd:(x==Gd)=false:=by decide):PE X (.Name x pos) (tC v):=λ_ _ _ H _ I h=>sX I hg hm ⟨v,H,I,r,h⟩ hd
variable{a b:bj}{ta tb:TE}{pos:Pos}
def tB (t:TE):TT:=λσ H Q=>t σ H λx H1=>∃c,x=.bl c/\Q c H1
variable{tA tB':TT}{rest:List bj}
def GZ (t u:TT):TT:=λσ H Q=>t σ H λc H1=>if c=true then u σ H1 Q else Q false H1
def G1 (t u:TT):TT:=λσ H Q=>t σ H λc H1=>if c=true then Q true H1 else u σ H1 Q
def RG (t:TT):TT:=λσ H Q=>t σ H λc H1=>Q (!c) H1
theorem RH (ha:PT X a tA):PW X (.BoolOp .And [a] pos) tA:=by
 intro wh pins s σ H Q I h;refine isTrue_and (aZ (ha pins s σ H Q I h) λc s1 e=>?_)
 cases c with
 |true=>exact isTrue_and_nil e
 |false=>exact e
theorem RI (ha:PT X a tA):PW X (.BoolOp .Or [a] pos) tA:=by
 intro wh pins s σ H Q I h;refine isTrue_or (aZ (ha pins s σ H Q I h) λc s1 e=>?_)
 cases c with
 |false=>exact isTrue_or_nil e
 |true=>exact e
theorem RJ (ha:PT X a tA) (hb:PW X (.BoolOp .And (b::rest) pos) tB'):PW X (.BoolOp .And (a::b::rest) pos) (GZ tA tB'):=by
 intro wh pins s σ H Q I h;refine isTrue_and (aZ (ha pins s σ H _ I h) λc s1 ⟨H1,I1,q1⟩=>?_)
 cases c with
 |true=>exact hb wh pins s1 σ H1 Q I1 q1
 |false=>exact⟨H1,I1,q1⟩
theorem RK (ha:PT X a tA) (hb:PW X (.BoolOp .Or (b::rest) pos) tB'):PW X (.BoolOp .Or (a::b::rest) pos) (G1 tA tB'):=by
 intro wh pins s σ H Q I h;refine isTrue_or (aZ (ha pins s σ H _ I h) λc s1 ⟨H1,I1,q1⟩=>?_)
 cases c with
 |true=>exact⟨H1,I1,q1⟩
 |false=>exact hb wh pins s1 σ H1 Q I1 q1
theorem RM (ha:PT X a tA):PT X (.UnaryOp .Not a pos) (RG tA):=by intro pins s σ H Q I h;exact isTrue_not (ha pins s σ H (λc H1=>Q (!c) H1) I h)
def RN (ta tb:TE):TE:=λσ H Q=>ta σ H λx H1=>∃c,x=.bl c/\if c=true then tb σ H1 Q else Q (.bl false) H1
def RO (ta:TE):TE:=λσ H Q=>ta σ H λx H1=>∃c,x=.bl c/\Q (.bl (!c)) H1
theorem RP {op} {t:TE}(h:PE X a t):PE X (.BoolOp op [a] pos) t:=λpins s σ H Q I hw=>BoolOp_one (h pins s σ H Q I hw)
theorem RQ (ha:PE X a ta) (hb:PE X (.BoolOp .And (b::rest) pos) tb):PE X (.BoolOp .And (a::b::rest) pos) (RN ta tb):=by
 intro pins s σ H Q I h;refine BoolOp_and (aZ (ha pins s σ H _ I h) λv s1 ⟨x,H1,I1,r1,q1⟩=>?_);obtain⟨c,rfl,q1⟩:=q1;cases r1;refine jm ?_
 cases c with
 |true=>exact hb pins s1 σ H1 Q I1 q1
 |false=>exact⟨.bl false,H1,I1,rfl,q1⟩
theorem RR (ha:PE X a ta):PE X (.UnaryOp .Not a pos) (RO ta):=by intro pins s σ H Q I h;refine UnaryOp_ (aZ (ha pins s σ H _ I h) λv s1 ⟨x,H1,I1,r1,q1⟩=>?_);obtain⟨c,rfl,q1⟩:=q1;cases r1;exact not_of (jm ⟨.bl (!c),H1,I1,rfl,q1⟩)
end
def Bs (K:aq) (H:Hp) (a:ah) (xs:List V):Prop:=
 Rd H a (.lst xs) ∨
  ∃(o:Obj) (its:Array af) (n:Nat),K.lookup a=some o/\o.cls=.type "list"/\o.dict=none/\o.data=.seq its n/\its.size<=ck/\Az xs its.toList
def Bk (K:aq) (H:Hp) (a:ah) (xs:List V):Prop:=
 Rd H a (.tup xs) ∨
  ∃(o:Obj) (its:Array af) (n:Nat),K.lookup a=some o/\o.cls=.type "tuple"/\o.data=.seq its n/\its.size<=ck/\Az xs its.toList
def RS:af->Option V
 | .none=>some .non
 | .bool b=>some (.bl b)
 | .int i _=>some (.int i)
 | .str x _=>some (.str x)
 | .bytes b _=>some (.byt b)
 | .float b _=>some (.flt b)
 | .ref a=>some (.ref a)
 | .type n=>some (.ty n)
 |_=>none
theorem RelV.abs {x:V}{u:af}(r:RelV x u):RS u=some x:=by
 cases x with
 |non=>cases r;rfl
 |bl _=>cases r;rfl
 |int _=>obtain⟨t,rfl⟩:=r;rfl
 |str _=>obtain⟨t,rfl⟩:=r;rfl
 |byt _=>obtain⟨t,rfl⟩:=r;rfl
 |flt _=>obtain⟨t,rfl⟩:=r;rfl
 |ref _=>cases r;rfl
 |ty _=>cases r;rfl
theorem RelV.inj {x y:V}{u:af}(r:RelV x u) (q:RelV y u):x=y:=cq (r.abs.symm.trans q.abs)
theorem Az.inj:∀{xs ys:List V}{us:List af},Az xs us->Az ys us->xs=ys
 |_,_,_,.nil,.nil=>rfl
 |_,_,_,.cons r t,.cons r' t'=>by rw[r.inj r',Az.inj t t']
section
variable{X:Cx}{pins:List (ah×Obj)}{σ:St}{H:Hp}{s:ag}{a:ah}{xs ys:List V}
theorem Bs.of {K:aq}(h:H a=some (.lst xs)):Bs K H a xs:=.inl (.inl h)
theorem Bk.of {K:aq}(h:H a=some (.tup xs)):Bk K H a xs:=.inl (.inl h)
theorem Inv.list (I:Inv X pins σ H s) (h:Bs X.K H a xs):∃its:List af,Az xs its/\PlainL s.heap a its.toArray/\xs.length<=ck:=by
 rcases h with h|⟨o,its,n,hk,hc,hd,hs,hz,r⟩
 ·obtain⟨z,its,n,r,e⟩:=h.ok I.hok;exact⟨its,r,⟨_,n,e,rfl,rfl,rfl⟩,z⟩
 ·refine⟨its.toList,r,⟨o,n,I.kIn a o hk,hc,hd,by simpa using hs⟩, ?_⟩;have e:=r.length;simp only[mz]at e;omega
theorem Inv.tuple (I:Inv X pins σ H s) (h:Bk X.K H a xs):∃its:List af,Az xs its/\yz s.heap a its.toArray/\xs.length<=ck:=by
 rcases h with h|⟨o,its,n,hk,hc,hs,hz,r⟩
 ·obtain⟨z,its,r,p⟩:=h.ok I.hok;exact⟨its,r,p.tup,z⟩
 ·refine⟨its.toList,r,⟨o,I.kIn a o hk,hc,n,by simpa using hs⟩, ?_⟩;have e:=r.length;simp only[mz]at e;omega
theorem Inv.list_inj (I:Inv X pins σ H s) (h:Bs X.K H a xs) (h':Bs X.K H a ys):xs=ys:=by
 obtain⟨its,r,⟨o,n,e,_,_,d⟩,_⟩:=I.list h;obtain⟨its',r',⟨o',n',e',_,_,d'⟩,_⟩:=I.list h';rw[e]at e';cases e';rw[d]at d';injection d' with d1 _;have:its=its':=by simpa using congrArg Array.toList d1
 subst this;exact r.inj r'
theorem Inv.tuple_inj (I:Inv X pins σ H s) (h:Bk X.K H a xs) (h':Bk X.K H a ys):xs=ys:=by
 obtain⟨its,r,⟨o,e,_,n,d⟩,_⟩:=I.tuple h;obtain⟨its',r',⟨o',e',_,n',d'⟩,_⟩:=I.tuple h';rw[e]at e';cases e';rw[d]at d';injection d' with d1 _;have:its=its':=by simpa using congrArg Array.toList d1
 subst this;exact r.inj r'
end
abbrev Cx.wish (X:Cx) (E:af->ag->Prop):Cx:={ X with xe:=E }
abbrev Cx.nox (X:Cx):Cx:=X.wish λ_ _=>False
theorem Cx.Ok.wish {X:Cx}(ok:X.Ok) (E:af->ag->Prop):(X.wish E).Ok:=⟨ok.mod,ok.kind,ok.glob,ok.blt,ok.above,ok.inj,ok.has,ok.cab,ok.hd,ok.frames,ok.stk,ok.exf,ok.bs,ok.bsz,ok.noex,ok.exfs,ok.funs,ok.frf⟩
theorem Cx.Ok.unwish {X:Cx}{E:af->ag->Prop}(ok:(X.wish E).Ok):X.Ok:=⟨ok.mod,ok.kind,ok.glob,ok.blt,ok.above,ok.inj,ok.has,ok.cab,ok.hd,ok.frames,ok.stk,ok.exf,ok.bs,ok.bsz,ok.noex,ok.exfs,ok.funs,ok.frf⟩
section
variable{X:Cx}{pins:List (ah×Obj)}{σ:St}{H:Hp}{s:ag}{E:af->ag->Prop}
theorem Inv.wish (I:Inv X pins σ H s) (E:af->ag->Prop):Inv (X.wish E) pins σ H s:=⟨I.ok.wish E,I.os,I.bare,I.base,I.loc,I.cell,I.free,I.freeC,I.pin,I.hok,I.len⟩
theorem Inv.unwish (I:Inv (X.wish E) pins σ H s):Inv X pins σ H s:=⟨I.ok.unwish,I.os,I.bare,I.base,I.loc,I.cell,I.free,I.freeC,I.pin,I.hok,I.len⟩
end
section
variable{X:Cx}{st:gw}{rest:List gw}{t u:TS}{e:bj}{te:TE}{pos:Pos}
def RT:TS:=λD σ H=>D.nx σ H
def RU (t u:TS):TS:=λD σ H=>t { D with nx:=u D } σ H
theorem RV:Ey X [] RT:=λ_ _ σ H _ I h=>nt ⟨σ,H,I,h⟩
theorem RW (h1:PS X st t) (h2:Ey X rest u):Ey X (st::rest) (RU t u):=by
 intro pins s σ H D I h;refine pv (aZ (h1 pins s σ H { D with nx:=u D } I h) λf s1 q=>?_)
 cases f with
 |next=>obtain⟨σ',H',I',q⟩:=q;exact h2 pins s1 σ' H' D I' q
 |ret v=>exact q
 |brk=>exact q
 |cont=>exact q
theorem G2 (h1:PS X st t):Ey X [st] t:=by
 intro pins s σ H D I h;refine pv (aZ (h1 pins s σ H D I h) λf s1 q=>?_)
 cases f with
 |next=>exact nt q
 |ret v=>exact q
 |brk=>exact q
 |cont=>exact q
theorem Inv.quiet {pins:List (ah×Obj)}{σ:St}{H:Hp}{s:ag}(I:Inv X pins σ H s):interactive X.env=false:=by simp[interactive,I.ok.kind]
def RX (te:TE):TS:=λD σ H=>te σ H λ_ H1=>D.nx σ H1
theorem RY (he:PE X e te) (hs:swapsWith e none pos.line X.env=pure false:=by rfl):PS X (.Expr e pos) (RX te):=by intro pins s σ H D I h;exact wpAny_Expr_any (aZ (he pins s σ H _ I h) λv s1 ⟨x,H1,I1,r1,q1⟩=>⟨σ,H1,I1,q1⟩) I.quiet hs
def RZ (te:TE):TS:=λD σ H=>te σ H D.rt
theorem R0 (he:PE X e te):PS X (.Return (some e) pos) (RZ te):=by intro pins s σ H D I h;exact wpAny_Return_some (aZ (he pins s σ H _ I h) λv s1 ⟨x,H1,I1,r1,q1⟩=>⟨x,σ,H1,I1,r1,q1⟩)
def R3 (c:TT) (t u:TS):TS:=λD σ H=>c σ H λb H1=>if b=true then t D σ H1 else u D σ H1
theorem R4 {c:bj}{a b:List gw}{tc:TT}(hc:PT X c tc) (ha:Ey X a t) (hb:Ey X b u):PS X (.If c a b pos) (R3 tc t u):=by
 intro pins s σ H D I h;refine wpAny_If (aZ (hc pins s σ H _ I h) λd s1 ⟨H1,I1,q1⟩=>?_)
 cases d with
 |true=>exact ha pins s1 σ H1 D I1 q1
 |false=>exact hb pins s1 σ H1 D I1 q1
end
abbrev TG:=V->St->Hp->(St->Hp->Prop)->Prop
abbrev nS:=List V->St->Hp->(St->Hp->Prop)->Prop
def PG (X:Cx) (target:bj) (t:TG):Prop:=
 ∀(pins:List (ah×Obj)) (s:ag) (σ:St) (H:Hp) (v:V) (u:af) (Q:St->Hp->Prop),Inv X pins σ H s->RelV v u->t v σ H Q->
  wpAny (model X.prog X.w) X.A (assign target X.env u) (λ_ s'=>∃σ' H',Inv X pins σ' H' s'/\Q σ' H') X.xe s
def PGs (X:Cx) (ts:List bj) (t:nS):Prop:=
 ∀(pins:List (ah×Obj)) (s:ag) (σ:St) (H:Hp) (vs:List V) (us:List af) (Q:St->Hp->Prop),Inv X pins σ H s->Az vs us->t vs σ H Q->
  wpAny (model X.prog X.w) X.A (assignInOrder ((assignEach ts X.env).map (·.2)) us) (λ_ s'=>∃σ' H',Inv X pins σ' H' s'/\Q σ' H') X.xe s
abbrev AL:=V->V->V->Hp->(Hp->Prop)->Prop
def G3 (X:Cx) (t:AL):Prop:=
 ∀(pins:List (ah×Obj)) (s:ag) (σ:St) (H:Hp) (o i v:V) (ov iv u:af) (Q:Hp->Prop),Inv X pins σ H s->RelV o ov->RelV i iv->RelV v u->t o i v H Q->
  wpAny (model X.prog X.w) X.A (setItem ov iv u) (λ_ s'=>∃H',Inv X pins σ H' s'/\Q H') X.xe s
section
variable{X:Cx}{pos:Pos}
def AM (i:Nat):TG:=λv σ H Q=>Q (σ.set i (some v)) H
theorem R5 {i:Nat}{x:Str}(hN:X.N.Nodup) (hi:X.N[i]?=some x) (hx:lX X.env.scope x) (hf:X.fn x=true∨X.env.scope.names.lookup x=some .local:=by first|exact .inl rfl|exact .inr rfl|assumption):PG X (.Name x pos) (AM i):=by intro pins s σ H v u Q I r h;exact wpAny_assign_Name (AK I hN hi hx r (λs' I'=>⟨_,H,I',h⟩) hf)
def R6:nS:=λvs σ H Q=>vs=[]/\Q σ H
def R7 (t:TG) (u:nS):nS:=λvs σ H Q=>∃v r,vs=v::r/\t v σ H λσ' H'=>u r σ' H' Q
theorem R8:PGs X [] R6:=by intro pins s σ H vs us Q I r h;obtain⟨e,h⟩:=h;subst e;cases r;exact assignInOrder_nil ⟨σ,H,I,h⟩
theorem R9 {e:bj}{es:List bj}{t:TG}{u:nS}(h1:PG X e t) (h2:PGs X es u)
  (hs:(assignEach (e::es) X.env).map (·.2)=assign e X.env::(assignEach es X.env).map (·.2):=by rfl):PGs X (e::es) (R7 t u):=by
 intro pins s σ H vs us Q I r h;obtain⟨v,vr,e1,h⟩:=h;subst e1
 cases r with
 |cons r rr=>rw[hs];refine assignInOrder_cons (aZ (h1 pins s σ H _ _ _ I r h) λ_ s1 ⟨σ1,H1,I1,q1⟩=>?_);exact h2 pins s1 σ1 H1 _ _ Q I1 rr q1
def SA (K:aq) (n:Nat) (t:nS):TG:=λv σ H Q=>∃a xs,v=.ref a/\Bk K H a xs/\xs.length=n/\t xs σ H Q
theorem SD {es:List bj}{k:Nat}{t:nS}{n:Nat}(hc:X.calm=true) (h:PGs X es t)
  (hn:(assignEach es X.env).length=n:=by rfl) (Es:(assignEach es X.env).findIdx? (·.1)=none:=by rfl):PG X (.Tuple es k pos) (SA X.K n t):=by
 intro pins s σ H v u Q I r hw;obtain⟨a,xs,e1,hq,hl,hw⟩:=hw;subst e1;cases r;obtain⟨its,rv,ht,hz⟩:=I.tuple hq;refine assign_Tuple_tuple (I.ok.hd hc) ht (by simp[hn,<-hl,rv.length]) Es λh' hx=>?_;have I1:Inv X pins σ H { s with heap:=h' }:=I.kept (t':=s.toks) λb o e=>hx b o (bg (au e)) e;exact h pins _ σ H xs _ Q I1 (by simpa using rv) hw
def SE (to ti:TE) (t:AL):TG:=λv σ H Q=>to σ H λo H1=>ti σ H1 λi H2=>t o i v H2 λH3=>Q σ H3
theorem SF {o i:bj}{to ti:TE}{t:AL}(ho:PE X o to) (hi:PE X i ti) (hs:G3 X t)
  (ha:∀v,assign (.Subscript o i pos) X.env v=(do
   let ov <-holding [v] (eval o X.env)
   let iv <-holding [v,ov] (eval i X.env)
   standAt pos
   holding [v,ov,iv] (setItem ov iv v)
   release [v,ov,iv] []):=by intro _;rfl):PG X (.Subscript o i pos) (SE to ti t):=by
 intro pins s σ H v u Q I r h;rw[ha];refine aa (ig (aZ (ho pins s σ H _ I h) λov s1 ⟨x,H1,I1,r1,q1⟩=>?_));refine aa (ig (aZ (hi pins s1 σ H1 _ I1 q1) λiv s2 ⟨y,H2,I2,r2,q2⟩=>?_));refine aa (uc (aa (ig (aZ (hs pins s2 σ H2 x y v ov iv u _ I2 r1 r2 r q2) λ_ s3 ⟨H3,I3,q3⟩=>?_))));exact wpAny_release ⟨σ,H3,I3,q3⟩
def wJ (te:TE) (g:TG):TS:=λD σ H=>te σ H λx H1=>g x σ H1 D.nx
theorem G4 {tg e:bj}{te:TE}{g:TG}(he:PE X e te) (hg:PG X tg g) (hs:swapsWithSole [tg] e pos.line X.env=pure false:=by rfl) (hw:swappedStores [tg] e X.env=pure none:=by rfl)
  (h1:(assignEach [tg] X.env).map (·.2)=[assign tg X.env]:=by rfl):PS X (.Assign [tg] e pos) (wJ te g):=by
 intro pins s σ H D I h;refine wpAny_Assign_stores (aZ (he pins s σ H _ I h) λv s1 ⟨x,H1,I1,r1,q1⟩=>?_) hs hw;rw[h1];exact aZ (hg pins s1 σ H1 x v _ I1 r1 q1) λ_ s2 q=>q
theorem AN {i:Nat}{x:Str}{e:bj}{te:TE}{pos':Pos}(hN:X.N.Nodup) (hi:X.N[i]?=some x) (hx:lX X.env.scope x) (he:PE X e te) (hs:swapsWith e (some (.Name x pos')) pos.line X.env=pure false:=by rfl) (hf:X.fn x=true∨X.env.scope.names.lookup x=some .local:=by first|exact .inl rfl|exact .inr rfl|assumption):
  PS X (.Assign [.Name x pos'] e pos) (wJ te (AM i)):=by
 intro pins s σ H D I h;refine wpAny_Assign_Name (aZ (he pins s σ H _ I h) λv s1 ⟨y,H1,I1,r1,q1⟩=>?_) hs;exact AK I1 hN hi hx r1 (λs2 I2=>⟨_,H1,I2,q1⟩) hf
end
section
variable{X:Cx}{pos:Pos}
def SG (c:TT) (tb:TS):TS:=λD σ H=>∃W:Nat->St->Hp->Prop,(∃m,W m σ H)/\∀m σ H,W m σ H->
 c σ H λb H1=>if b=true then ∃N:St->Hp->Prop,(∀σ' H',N σ' H'->∃m',m'<m/\W m' σ' H')/\tb { D with nx:=N,ct:=N,bk:=D.nx } σ H1 else D.nx σ H1
theorem SH {c:bj}{body:List gw}{tc:TT}{tb:TS}(hp:ya (model X.prog X.w) X.A X.env X.xe) (hc:PT X c tc) (hb:Ey X body tb):PS X (.While c body [] pos) (SG tc tb):=by
 intro pins s σ H D I h;obtain⟨W,⟨m0,w0⟩,turn⟩:=h;refine wpAny_While (codeAny_whileLoop (λn s'=>∃σ' H',Inv X pins σ' H' s'/\W n σ' H') ?_ m0 ⟨σ,H,I,w0⟩)
 rintro n s1 ⟨σ1,H1,I1,w1⟩
 refine mf hp (aZ (hc pins s1 σ1 H1 _ I1 (turn n σ1 H1 w1)) λb s2 ⟨H2,I2,q2⟩=>?_)
 cases b with
 |true=>
  obtain⟨N,hN,q2⟩:=q2;rw[if_pos rfl];refine mf hp (aZ (hb pins s2 σ1 H2 _ I2 q2) λf s3 q3=>?_)
  cases f with
  |next=>obtain⟨σ3,H3,I3,n3⟩:=q3;obtain⟨m',hm,w3⟩:=hN σ3 H3 n3;exact⟨m',hm,σ3,H3,I3,w3⟩
  |cont=>obtain⟨σ3,H3,I3,n3⟩:=q3;obtain⟨m',hm,w3⟩:=hN σ3 H3 n3;exact⟨m',hm,σ3,H3,I3,w3⟩
  |brk=>exact q3
  |ret v=>exact q3
 |false=>rw[if_neg iw];exact nt ⟨σ1,H2,I2,q2⟩
end
structure It where
 go:Nat->Hp->Prop
 yld:Nat->Hp->V->Hp->Prop
 stop:Nat->Hp->Prop
def dN (X:Cx) (pins:List (ah×Obj)) (H:Hp) (b:ah):Prop:=H b=none/\b≠X.env.locals/\b∉X.fs/\(b∈X.ex∨X.s₀.heap.objs.size<=b)/\(∀x c,X.env.cells.lookup x=some c->c≠b)/\∀p∈X.pn++pins,p.1≠b
theorem Inv.fpOk {X:Cx}{pins:List (ah×Obj)}{σ:St}{H H':Hp}{s:ag}{b:ah}(I:Inv X pins σ H s) (hb:s.heap.objs.size<=b) (hn:H' b=none):dN X pins H' b:=by
 refine⟨hn,jq (av I.lt hb),I.nofs hb,.inr (dh I.sz hb),λx c e z=>?_,λp hp z=>?_⟩
 ·obtain⟨v,q⟩:=I.cell x c e;exact absurd (av q.lt (by rw[z];exact hb)) (gv _)
 ·exact absurd (av (au (I.pin p hp).1) (by rw[z];exact hb)) (gv _)
structure Turn (P:bh) (w:cm) (K:aq) (tg:bj) (J:It) (fp:List ah) (it:ah) (tn:Nat->cu->Prop):Prop where
 mem:it∈fp
 obj:∀i h,tn i h->∀b∈fp,∃o,h.get? b=some o/\∀v,o.data≠.cell v
 keep:∀i h h',tn i h->(∀b∈fp,∀o,h.get? b=some o->h'.get? b=some o)->tn i h'
 item:∀(X:Cx),X.prog=P->X.w=w->X.K=K->X.calm=true->∀(i:Nat) (pins:List (ah×Obj)) (s:ag) (σ:St) (H:Hp) (E:af->ag->Prop),Inv X pins σ H s->(∀b∈fp,dN X pins H b)->tn i s.heap->J.go i H->
  wpAny (model P w) X.A (pyNext (.ref it)) (λr s1=>∃u,r=some u /\
   wpAny (model P w) X.A (letOwnedTupleGo tg (.ref it) u) (λ_ s2=>∃x H',Inv X pins σ H' s2/\RelV x u/\J.yld i H x H'/\tn (i+1) s2.heap/\∀b∈fp,H' b=none) E s1) E s
 done:∀(X:Cx),X.prog=P->X.w=w->X.K=K->X.calm=true->∀(i:Nat) (pins:List (ah×Obj)) (s:ag) (σ:St) (H:Hp) (E:af->ag->Prop),Inv X pins σ H s->(∀b∈fp,dN X pins H b)->tn i s.heap->J.stop i H->
  wpAny (model P w) X.A (pyNext (.ref it)) (λr s1=>r=none/\Inv X pins σ H s1) E s
 self:∀(A:bu) (i:Nat) (s:ag) (Q:af->ag->Prop) (E:af->ag->Prop),tn i s.heap->Q (.ref it) s->wpAny (model P w) A (pyIter (.ref it)) Q E s
abbrev TI:=St->Hp->(It->Hp->Prop)->Prop
def G5 (X:Cx) (pins:List (ah×Obj)) (σ:St) (tg:bj) (R:It->Hp->Prop) (itv:af) (s2:ag):Prop:=∃(it:ah) (fp:List ah) (tn:Nat->cu->Prop) (J:It) (H':Hp),itv=.ref it/\Inv X pins σ H' s2/\Turn X.prog X.w X.K tg J fp it tn/\tn 0 s2.heap/\(∀b∈fp,dN X pins H' b)/\R J H'
def PI (X:Cx) (tg iter:bj) (wi:TI):Prop:=
 ∀(pins:List (ah×Obj)) (s:ag) (σ:St) (H:Hp) (R:It->Hp->Prop),Inv X pins σ H s->wi σ H R->
  wpAny (model X.prog X.w) X.A (eval iter X.env) (λv s1=>wpAny (model X.prog X.w) X.A (pyIter v) (G5 X pins σ tg R) X.xe s1) X.xe s
theorem AO {M:xc}{A:bu}{E:af->ag->Prop}{s:ag}{tg:bj}{it:ah}{u:af}{o:Obj}{n:String}{vs:Array af}{Q:Unit->ag->Prop}(ho:s.heap.get? it=some o) (hc:o.cls=.type n) (hd:o.data=.fields vs)
  (hn:["enumerate","zip","dict_itemiterator","dict_reverseitemiterator","odict_iterator","itertools.zip_longest","itertools.pairwise"].contains n=false) (hQ:Q () s):wpAny M A (letOwnedTupleGo tg (.ref it) u) Q E s:=by
 unfold letOwnedTupleGo
 cases tg <;> first
  |exact ai hQ
  |(cases u <;> first
    |exact ai hQ
    |(refine aa (wpAny_load ho ?_);rw[hc,hd];show wpAny M A (if(["enumerate","zip","dict_itemiterator","dict_reverseitemiterator","odict_iterator","itertools.zip_longest","itertools.pairwise"].contains n&&vs[0]?==some (rawInt _))=true then _ else _) Q E s;rw[if_neg (by intro h;rw[hn,Bool.false_and]at h;cases h)];exact ai hQ))
def G6 (K:aq) (a:ah):It:=⟨λi H=>∃xs x,Bs K H a xs/\xs[i]?=some x,λi H x H'=>H'=H/\∀xs,Bs K H a xs->xs[i]?=some x,λi H=>∃xs,Bs K H a xs/\xs.length<=i⟩
def AQ (K:aq) (a:ah):It:=⟨λi H=>∃xs x,Bk K H a xs/\xs[i]?=some x,λi H x H'=>H'=H/\∀xs,Bk K H a xs->xs[i]?=some x,λi H=>∃xs,Bk K H a xs/\xs.length<=i⟩
def sY (lo:Int) (n:Nat):It:=⟨λi _=>i<n,λi H x H'=>H'=H/\x=.int (lo+i),λi _=>n<=i⟩
theorem SI {P:bh}{w:cm}{K:aq}{tg:bj}(a it:ah):Turn P w K tg (G6 K a) [it] it (λi h=>h.IsListIter it a i) where
 mem:=by simp
 obj:=λi h st b hb=>by
  have e:b=it:=by simpa using hb
  subst e;obtain⟨o,e,c,d⟩:=st;exact⟨o,e,λv z=>by rw[d]at z;cases z⟩
 keep:=λi h h' st k=>st.at λo e=>k it (by simp) o e
 item:=by intro X hP hw hK hc i pins s σ H E I hf st hg;subst hP hw hK;obtain⟨xs,x,hq,hx⟩:=hg;obtain⟨its,rv,p,hz⟩:=I.list hq;obtain⟨u,hu,ru⟩:=rv.get hx;obtain⟨f0,f1,f2,f3,f4,f5⟩:=hf it (by simp);refine wpAny_pyNext_list_item st p.isList (x:=u) (by simpa using hu) λh' Dw sb=>?_;have I1:Inv X pins σ H { s with heap:=h' }:=I.turned (t':=s.toks) (λb o hb e=>(sb.2 b hb).trans e) f0 f1 f3 f4 f5;obtain⟨o,e,c,d⟩:=id Dw;exact⟨u,rfl,AO (s:={ s with heap:=h' }) e c d (by decide) ⟨x,H,I1,ru,⟨rfl,λys hy=>by rw[I.list_inj hy hq];exact hx⟩,Dw,λb hb=>(hf b hb).1⟩⟩
 done:=by intro X hP hw hK hc i pins s σ H E I hf st hg;subst hP hw hK;obtain⟨xs,hq,hx⟩:=hg;obtain⟨its,rv,p,hz⟩:=I.list hq;obtain⟨f0,f1,f2,f3,f4,f5⟩:=hf it (by simp);have hl:=rv.length;exact wpAny_pyNext_list_end (I.ok.hd hc) st p.isList (by simp;omega) λh' eb=>⟨rfl,I.turned (t':=s.toks) (λb o hb e=>eb b o hb e) f0 f1 f3 f4 f5⟩
 self:=λ_ _ _ _ _ st h=>wpAny_pyIter_listiter st h
theorem SJ {P:bh}{w:cm}{K:aq}{tg:bj}(a it:ah):Turn P w K tg (AQ K a) [it] it (λi h=>h.IsTupleIter it a i) where
 mem:=by simp
 obj:=λi h st b hb=>by
  have e:b=it:=by simpa using hb
  subst e;obtain⟨o,e,c,d⟩:=st;exact⟨o,e,λv z=>by rw[d]at z;cases z⟩
 keep:=λi h h' st k=>st.at λo e=>k it (by simp) o e
 item:=by intro X hP hw hK hc i pins s σ H E I hf st hg;subst hP hw hK;obtain⟨xs,x,hq,hx⟩:=hg;obtain⟨its,rv,p,hz⟩:=I.tuple hq;obtain⟨u,hu,ru⟩:=rv.get hx;obtain⟨f0,f1,f2,f3,f4,f5⟩:=hf it (by simp);refine wpAny_pyNext_tuple_item st (show s.heap.IsTuple a its.toArray from p) (x:=u) (by simpa using hu) λh' Dw sb=>?_;have I1:Inv X pins σ H { s with heap:=h' }:=I.turned (t':=s.toks) (λb o hb e=>(sb.2 b hb).trans e) f0 f1 f3 f4 f5;obtain⟨o,e,c,d⟩:=id Dw;exact⟨u,rfl,AO (s:={ s with heap:=h' }) e c d (by decide) ⟨x,H,I1,ru,⟨rfl,λys hy=>by rw[I.tuple_inj hy hq];exact hx⟩,Dw,λb hb=>(hf b hb).1⟩⟩
 done:=by intro X hP hw hK hc i pins s σ H E I hf st hg;subst hP hw hK;obtain⟨xs,hq,hx⟩:=hg;obtain⟨its,rv,p,hz⟩:=I.tuple hq;obtain⟨f0,f1,f2,f3,f4,f5⟩:=hf it (by simp);have hl:=rv.length;exact wpAny_pyNext_tuple_end (I.ok.hd hc) st (show s.heap.IsTuple a its.toArray from p) (by simp;omega) λh' eb=>⟨rfl,I.turned (t':=s.toks) (λb o hb e=>eb b o hb e) f0 f1 f3 f4 f5⟩
 self:=λ_ _ _ _ _ st h=>wpAny_pyIter_tupleiter st h
theorem SK {P:bh}{w:cm}{K:aq}{tg:bj}(it:ah) (lo:Int) (n:Nat):Turn P w K tg (sY lo n) [it] it (λi h=>IsRangeIter h it (lo+(i:Nat)*1) ((n:Int) - (i:Nat)) 1) where
 mem:=by simp
 obj:=λi h st b hb=>by
  have e:b=it:=by simpa using hb
  subst e;exact⟨_,st,λv z=>by
   have z':Data.fields _=Data.cell v:=z
   cases z'⟩
 keep:=λi h h' st k=>k it (by simp) _ st
 item:=by intro X hP hw hK hc i pins s σ H E I hf st hg;subst hP hw hK;obtain⟨f0,f1,f2,f3,f4,f5⟩:=hf it (by simp);have W:=Walks.range (prog:=X.prog) (w:=X.w) (I.ok.hd hc) it lo 1 n;refine W.item i s _ _ hg st λv h' tk hv Dw kk=>?_;obtain⟨t,rfl⟩:=hv;have I1:Inv X pins σ H { s with heap:=h',toks:=tk }:=I.turned (λb o hb e=>kk b o (by simpa using hb) e) f0 f1 f3 f4 f5;refine⟨_,rfl,AO (s:={ s with heap:=h',toks:=tk }) (n := "range_iterator") Dw rfl rfl (by decide) ⟨.int (lo+i),H,I1,⟨t, ?_⟩,⟨rfl,rfl⟩,Dw,λb hb=>(hf b hb).1⟩⟩;rw[Int.mul_one]
 done:=by intro X hP hw hK hc i pins s σ H E I hf st hg;subst hP hw hK;obtain⟨f0,f1,f2,f3,f4,f5⟩:=hf it (by simp);exact wpAny_pyNext_range_end (I.ok.hd hc) st (by have:n<=i:=hg;omega) λh' eb=>⟨rfl,I.turned (t':=s.toks) (λb o hb e=>eb b o hb e) f0 f1 f3 f4 f5⟩
 self:=λ_ _ _ _ _ st h=>wpAny_pyIter_rangeiter st h
section
variable{X:Cx}{tg:bj}
def SN (K:aq) (tl:TE):TI:=λσ H R=>tl σ H λx H1=>∃a,x=.ref a/\(∃xs,Bs K H1 a xs)/\R (G6 K a) H1
def SO (K:aq) (tl:TE):TI:=λσ H R=>tl σ H λx H1=>∃a,x=.ref a/\(∃xs,Bk K H1 a xs)/\R (AQ K a) H1
theorem SQ {l:bj}{tl:TE}(hl:PE X l tl):PI X tg l (SN X.K tl):=by
 intro pins s σ H R I h;refine aZ (hl pins s σ H _ I h) λv s1 ⟨x,H1,I1,r1,q1⟩=>?_;obtain⟨a,e,⟨xs,hq⟩,q⟩:=q1;subst e;cases r1;obtain⟨its,rv,p,hz⟩:=I1.list hq;refine ka p.isList ?_;refine⟨s1.heap.objs.size,[s1.heap.objs.size],_,_,H1,rfl,I1.kept (t':=s1.toks) λb o e=>ak _ e,SI a _,⟨_,bf _ rfl,rfl,rfl⟩,λb hb=>?_,q⟩;have e:b=s1.heap.objs.size:=by simpa using hb
 subst e;exact I1.fpOk (aj _) (I1.hok.fresh (aj _))
theorem SS {l:bj}{tl:TE}(hl:PE X l tl):PI X tg l (SO X.K tl):=by
 intro pins s σ H R I h;refine aZ (hl pins s σ H _ I h) λv s1 ⟨x,H1,I1,r1,q1⟩=>?_;obtain⟨a,e,⟨xs,hq⟩,q⟩:=q1;subst e;cases r1;obtain⟨its,rv,p,hz⟩:=I1.tuple hq;refine oh (show s1.heap.IsTuple a its.toArray from p) ?_;refine⟨s1.heap.objs.size,[s1.heap.objs.size],_,_,H1,rfl,I1.kept (t':=s1.toks) λb o e=>ak _ e,SJ a _,⟨_,bf _ rfl,rfl,rfl⟩,λb hb=>?_,q⟩;have e:b=s1.heap.objs.size:=by simpa using hb
 subst e;exact I1.fpOk (aj _) (I1.hok.fresh (aj _))
theorem G7 {pins:List (ah×Obj)}{σ:St}{H:Hp}{s:ag}{R:It->Hp->Prop}{E:af->ag->Prop}{lo hi:Int}{t u v:Tok}{tk:Nat}(I:Inv X pins σ H s) (h1 : -(2 ^ 62)<=lo) (h2:lo<2 ^ 62) (h3 : -(2 ^ 62)<=hi) (h4:hi<2 ^ 62)
  (q:R (sY lo (hi - lo).toNat) H):wpAny (model X.prog X.w) X.A (pyIter (.ref s.heap.objs.size)) (G5 X pins σ tg R) E { s with heap:=s.heap.push { cls:=.type "range",data:=.fields #[.int lo t,.int hi u,.int 1 v] },toks:=tk }:=by
 refine wpAny_pyIter_range (IsRange.new ..) (small_one h1 h2 h3 h4) ?_;have I1:Inv X pins σ H { s with heap:=s.heap.push { cls:=.type "range",data:=.fields #[.int lo t,.int hi u,.int 1 v] },toks:=tk }:=I.kept λb o e=>ak _ e;refine⟨(s.heap.push { cls:=.type "range",data:=.fields #[.int lo t,.int hi u,.int 1 v] }).objs.size,[(s.heap.push { cls:=.type "range",data:=.fields #[.int lo t,.int hi u,.int 1 v] }).objs.size],_,_,H,rfl,
  I1.kept (t':=tk) λb o e=>ak _ e,SK _ lo (hi - lo).toNat, ?_,λb hb=>?_,q⟩
 ·have e1:lo+((0:Nat):Int)*1=lo:=by simp
  have e2:(((hi - lo).toNat:Nat):Int) - ((0:Nat):Int)=Builtin.Range.rangeSize lo hi 1:=by rw[rangeSize_one];split <;> omega
  show IsRangeIter _ _ (lo+((0:Nat):Int)*1) ((((hi - lo).toNat:Nat):Int) - ((0:Nat):Int)) 1;rw[e1,e2];exact bf _ rfl
 ·have e:b=(s.heap.push { cls:=.type "range",data:=.fields #[.int lo t,.int hi u,.int 1 v] }).objs.size:=by simpa using hb
  subst e;exact I1.fpOk (aj _) (I1.hok.fresh (aj _))
def SU (ta:TA):TI:=λσ H R=>ta σ H λvs H1=>∃j:Int,vs=[.int j]/\-(2 ^ 62)<=j/\j<2 ^ 62/\R (sY 0 j.toNat) H1
def SV (ta:TA):TI:=λσ H R=>ta σ H λvs H1=>∃i j:Int,vs=[.int i,.int j]/\(-(2 ^ 62)<=i/\i<2 ^ 62/\-(2 ^ 62)<=j/\j<2 ^ 62)/\R (sY i (j - i).toNat) H1
theorem SX {a:bj}{ta:TA}{p pos:Pos}(hg:Gl X "range") (hm:X.mg "range" = none) (ha:PA X [a] ta) (hs:ar [a] X.env=[(false,eval a X.env)]:=by rfl):PI X tg (.Call (.Name "range" p) [a] [] pos) (SU ta):=by
 intro pins s σ H R I h;refine Call_ (qA I hg hm boot_range (je (aZ (ha pos pins s σ H _ I h) λus s1 ⟨vs,H1,I1,r1,q1⟩=>?_) hs rfl));obtain⟨j,e,q1,q2,q⟩:=q1;subst e
 cases r1 with
 |cons r rr=>cases rr;obtain⟨t,rfl⟩:=r;exact call_range_1 (G7 I1 (by omega) (by omega) q1 q2 (by simpa using q))
theorem SY {a b:bj}{ta:TA}{p pos:Pos}(hg:Gl X "range") (hm:X.mg "range" = none) (ha:PA X [a,b] ta) (hs:ar [a,b] X.env=[(false,eval a X.env),(false,eval b X.env)]:=by rfl) (hs2:ar [b] X.env=[(false,eval b X.env)]:=by rfl):
  PI X tg (.Call (.Name "range" p) [a,b] [] pos) (SV ta):=by
 intro pins s σ H R I h;refine Call_ (qA I hg hm boot_range (je (aZ (ha pos pins s σ H _ I h) λus s1 ⟨vs,H1,I1,r1,q1⟩=>?_) (by rw[hs,hs2]) (by rw[hs2];rfl)));obtain⟨i,j,e,⟨q1,q2,q3,q4⟩,q⟩:=q1;subst e
 cases r1 with
 |cons r rr=>
  cases rr with
  |cons r' rr=>cases rr;obtain⟨t,rfl⟩:=r;obtain⟨t',rfl⟩:=r';exact call_range_2 (G7 I1 q1 q2 q3 q4 q)
def S0 (wi:TI) (g:TG) (tb:TS):TS:=λD σ H=>wi σ H λJ H1=>∃W:Nat->Nat->St->Hp->Prop,(∃m,W 0 m σ H1)/\∀i m σ H,W i m σ H->
 (J.stop i H/\D.nx σ H)∨(J.go i H/\∃N:St->Hp->Prop,(∀σ' H',N σ' H'->∃m',m'<m/\W (i+1) m' σ' H')/\∀x H',J.yld i H x H'->g x σ H' λσ2 H2=>tb { D with nx:=N,ct:=N,bk:=D.nx } σ2 H2)
def kD (fp:List ah) (h:cu):List (ah×Obj):=fp.filterMap λb=>(h.get? b).map λo=>(b,o)
theorem rA {fp:List ah}{h:cu}{b:ah}{o:Obj}(hb:b∈fp) (e:h.get? b=some o):(b,o)∈kD fp h:=jv.mpr ⟨b,hb,by rw[e];rfl⟩
theorem AR {fp:List ah}{h:cu}{p:ah×Obj}(hp:p∈kD fp h):p.1∈fp/\h.get? p.1=some p.2:=by
 obtain⟨b,hb,e⟩:=jv.mp hp
 cases q:h.get? b with
 |none=>rw[q]at e;cases e
 |some o=>rw[q]at e;have e':(b,o)=p:=cq e;subst e';exact⟨hb,q⟩
theorem Inv.pinned {pins:List (ah×Obj)}{σ:St}{H:Hp}{s:ag}{fp:List ah}(I:Inv X pins σ H s) (hf:∀b∈fp,dN X pins H b) (ho:∀b∈fp,∃o,s.heap.get? b=some o/\∀v,o.data≠.cell v):Inv X (pins++kD fp s.heap) σ H s:=I.pins_of λp hp=>(cy.mp hp).elim (λz=>I.pin p (bx _ z)) λz=>by obtain⟨hb,e⟩:=AR z;obtain⟨f0,f1,f2,_⟩:=hf p.1 hb;obtain⟨o,e',d⟩:=ho p.1 hb;rw[e]at e';cases e';exact⟨e,f0,f1,f2,d⟩
theorem Inv.unpinned {pins pl:List (ah×Obj)}{σ:St}{H:Hp}{s:ag}(I:Inv X (pins++pl) σ H s):Inv X pins σ H s:=I.pins_of λp hp=>I.pin p (bx _ (fj _ hp))
theorem S1 {iter:bj}{body:List gw}{wi:TI}{g:TG}{tb:TS}{pos:Pos}(hp:ya (model X.prog X.w) X.A X.env X.xe) (hc:X.calm=true) (hi:PI X tg iter wi) (hg:PG X tg g) (hb:Ey X body tb)
  (hs:∀x,foldedSetIterable iter X.env x=pure x:=by intro _;rfl):PS X (.For tg iter body [] pos) (S0 wi g tb):=by
 intro pins s σ H D I h;refine wpAny_For (aZ (hi pins s σ H _ I h) λv s1 h1=>aZ h1 λitv s2 h2=>?_) hs;obtain⟨it,fp,tn,J,H2,e,I2,T,st2,f2,W,⟨m0,w0⟩,turn⟩:=h2;subst e;have stat:∀{H':Hp},(∀b∈fp,H' b=none)->∀b∈fp,dN X pins H' b:=λhn b hb=>⟨hn b hb,(f2 b hb).2⟩
 refine codeAny_forLoop_any (λn s'=>∃i σ' H',Inv X pins σ' H' s'/\tn i s'.heap/\(∀b∈fp,H' b=none)/\W i n σ' H') ?_ m0 ⟨0,σ,H2,I2,st2,λb hb=>(f2 b hb).1,w0⟩
 rintro n s3 ⟨i,σ3,H3,I3,st3,fr3,w3⟩
 rcases turn i n σ3 H3 w3 with⟨stop,qn⟩|⟨go,N,hN,step⟩
 ·refine mf hp (aZ (T.done X rfl rfl rfl hc i pins s3 σ3 H3 X.xe I3 (stat fr3) st3 stop) λr s4 ⟨hr,I4⟩=>?_);subst hr;exact nt ⟨σ3,H3,I4,qn⟩
 ·refine mf hp (aZ (T.item X rfl rfl rfl hc i pins s3 σ3 H3 X.xe I3 (stat fr3) st3 go) λr s4 ⟨u,hr,h4⟩=>?_);subst hr;refine mf hp (aZ h4 λ_ s5 ⟨x,H5,I5,r5,y5,st5,fr5⟩=>?_);have I5':=I5.pinned (stat fr5) (T.obj _ _ st5);refine mf hp (aZ (hg _ s5 σ3 H5 x u _ I5' r5 (step x H5 y5)) λ_ s6 ⟨σ6,H6,I6,q6⟩=>?_);refine mf hp (aZ (hb _ s6 σ6 H6 _ I6 q6) λf s7 q7=>?_);have again:∀{σ7:St}{H7:Hp},Inv X (pins++kD fp s5.heap) σ7 H7 s7->N σ7 H7->∃m,m<n/\∃i σ' H',Inv X pins σ' H' s7/\tn i s7.heap/\(∀b∈fp,H' b=none)/\W i m σ' H':=λ{σ7 H7} I7 n7=>by obtain⟨m',hm,w7⟩:=hN σ7 H7 n7;refine⟨m',hm,i+1,σ7,H7,I7.unpinned,T.keep _ _ _ st5 λb hb o e=>(I7.pin (b,o) (bx _ (bx _ (rA hb e)))).1,λb hb=>?_,w7⟩;obtain⟨o,e,d⟩:=T.obj _ _ st5 b hb;exact(I7.pin (b,o) (bx _ (bx _ (rA hb e)))).2.1
  cases f with
  |next=>obtain⟨σ7,H7,I7,n7⟩:=q7;exact again I7 n7
  |cont=>obtain⟨σ7,H7,I7,n7⟩:=q7;exact again I7 n7
  |brk=>obtain⟨σ7,H7,I7,q7⟩:=q7;exact⟨σ7,H7,I7.unpinned,q7⟩
  |ret v=>obtain⟨x7,σ7,H7,I7,r7,q7⟩:=q7;exact⟨x7,σ7,H7,I7.unpinned,r7,q7⟩
end
abbrev R2:=V->V->Hp->VK->Prop
def Bp (X:Cx) (f:af->af->Sem af) (r:R2):Prop:=
 ∀(pins:List (ah×Obj)) (s:ag) (σ:St) (H:Hp) (x y:V) (v u:af) (Q:VK),Inv X pins σ H s->RelV x v->RelV y u->r x y H Q->
  wpAny (model X.prog X.w) X.A (f v u) (EP X pins σ Q) X.xe s
def wK (X:Cx) (f:af->Sem af) (r:V->Hp->VK->Prop):Prop:=
 ∀(pins:List (ah×Obj)) (s:ag) (σ:St) (H:Hp) (x:V) (v:af) (Q:VK),Inv X pins σ H s->RelV x v->r x H Q->
  wpAny (model X.prog X.w) X.A (f v) (EP X pins σ Q) X.xe s
def Bc (X:Cx) (f:af) (r:List V->Hp->VK->Prop):Prop:=
 ∀(pins:List (ah×Obj)) (s:ag) (σ:St) (H:Hp) (xs:List V) (us:List af) (Q:VK),Inv X pins σ H s->Az xs us->r xs H Q->
  wpAny (model X.prog X.w) X.A (call f us) (EP X pins σ Q) X.xe s
def S3 (X:Cx) (r:V->Hp->(Bool->Hp->Prop)->Prop):Prop:=
 ∀(pins:List (ah×Obj)) (s:ag) (σ:St) (H:Hp) (x:V) (v:af) (Q:Bool->Hp->Prop),Inv X pins σ H s->RelV x v->r x H Q->
  wpAny (model X.prog X.w) X.A (truthy v) (TP X pins σ Q) X.xe s
def sZ (r:R2) (ta tb:TE):TE:=λσ H Q=>ta σ H λx H1=>tb σ H1 λy H2=>r x y H2 Q
def S4 (r:V->Hp->VK->Prop) (ta:TE):TE:=λσ H Q=>ta σ H λx H1=>r x H1 Q
def rI (C:Int->Int->Prop) (g:Int->Int->V):R2:=λx y H Q=>∃i j,x=.int i/\y=.int j/\C i j/\Q (g i j) H
def kE (g:Int->Int->V):R2:=λx y H Q=>∃i j,x=.int i/\y=.int j/\Q (g i j) H
def rU (g:Int->V):V->Hp->VK->Prop:=λx H Q=>∃i,x=.int i/\Q (g i) H
section
variable{X:Cx}{a b c:bj}{ta tb tc:TE}{pos:Pos}
theorem AS (ha:PE X a ta) (hb:PE X b tb) {pins:List (ah×Obj)}{s:ag}{σ:St}{H:Hp}{R:V->V->Hp->Prop}(I:Inv X pins σ H s)
  (h:ta σ H λx H1=>tb σ H1 λy H2=>R x y H2) {Q:af->ag->Prop}{f:af->af->Sem af}
  (hf:∀v u s2 x y H2,Inv X pins σ H2 s2->RelV x v->RelV y u->R x y H2->wpAny (model X.prog X.w) X.A (f v u) Q X.xe s2):
  wpAny (model X.prog X.w) X.A (eval a X.env) (λv s₁=>wpAny (model X.prog X.w) X.A (eval b X.env) (λu s₂=>wpAny (model X.prog X.w) X.A (f v u) Q X.xe s₂) X.xe s₁) X.xe s:=by
 refine aZ (ha pins s σ H _ I h) λv s1 ⟨x,H1,I1,r1,q1⟩=>?_;refine aZ (hb pins s1 σ H1 _ I1 q1) λu s2 ⟨y,H2,I2,r2,q2⟩=>?_;exact hf v u s2 x y H2 I2 r1 r2 q2
theorem S5 {op:Operator}{r:R2}(ho:Bp X (binaryOp op) r) (ha:PE X a ta) (hb:PE X b tb):PE X (.BinOp a op b pos) (sZ r ta tb):=by intro pins s σ H Q I h;exact wpAny_BinOp (AS ha hb I h λv u s2 x y H2 I2 rx ry q=>ho pins s2 σ H2 x y v u Q I2 rx ry q)
theorem S6 {op:UnaryOp}{r:V->Hp->VK->Prop}(ho:wK X (unaryOp op) r) (ha:PE X a ta):PE X (.UnaryOp op a pos) (S4 r ta):=by intro pins s σ H Q I h;exact UnaryOp_ (aZ (ha pins s σ H _ I h) λv s1 ⟨x,H1,I1,r1,q1⟩=>ho pins s1 σ H1 x v Q I1 r1 q1)
theorem wL {f:af->af->Sem af}{C:Int->Int->Prop}{g:Int->Int->Int}
  (rule:∀(i j:Int) (t u:Tok) (s:ag) (Q:af->ag->Prop) (E:af->ag->Prop),C i j->Q (.int (g i j) s.toks) { s with toks:=s.toks+1 }->wpAny (model X.prog X.w) X.A (f (.int i t) (.int j u)) Q E s):
  Bp X f (rI C λi j=>.int (g i j)):=by
 intro pins s σ H x y v u Q I rx ry h;obtain⟨i,j,rfl,rfl,hc,q⟩:=h;obtain⟨t,rfl⟩:=rx;obtain⟨t',rfl⟩:=ry;exact rule i j t t' s _ _ hc ⟨.int (g i j),H,I.tok _,⟨_,rfl⟩,q⟩
theorem G8 {f:af->af->Sem af}{g:Int->Int->Int}
  (rule:∀(i j:Int) (t u:Tok) (s:ag) (Q:af->ag->Prop) (E:af->ag->Prop),Q (.int (g i j) s.toks) { s with toks:=s.toks+1 }->wpAny (model X.prog X.w) X.A (f (.int i t) (.int j u)) Q E s):
  Bp X f (kE λi j=>.int (g i j)):=by
 intro pins s σ H x y v u Q I rx ry h;obtain⟨i,j,rfl,rfl,q⟩:=h;obtain⟨t,rfl⟩:=rx;obtain⟨t',rfl⟩:=ry;exact rule i j t t' s _ _ ⟨.int (g i j),H,I.tok _,⟨_,rfl⟩,q⟩
theorem wM {f:af->af->Sem af}{g:Int->Int->Bool}
  (rule:∀(i j:Int) (t u:Tok) (s:ag) (Q:af->ag->Prop) (E:af->ag->Prop),Q (.bool (g i j)) s->wpAny (model X.prog X.w) X.A (f (.int i t) (.int j u)) Q E s):
  Bp X f (kE λi j=>.bl (g i j)):=by
 intro pins s σ H x y v u Q I rx ry h;obtain⟨i,j,rfl,rfl,q⟩:=h;obtain⟨t,rfl⟩:=rx;obtain⟨t',rfl⟩:=ry;exact rule i j t t' s _ _ ⟨.bl (g i j),H,I,rfl,q⟩
def AU (i j:Int):Prop:=0<=j/\j<=1000000/\i.natAbs<2 ^ 64
def CMul (i j:Int):Prop:=(-(2 ^ 64)<i/\i<2 ^ 64)∨(-(2 ^ 64)<j/\j<2 ^ 64)
theorem CMul.ok {i j:Int}(h:CMul i j):IntMulOk i j:=by
 rcases h with⟨h1,h2⟩|⟨h1,h2⟩
 ·exact .of_left (intBits_le_64 h1 h2)
 ·exact .of_right (intBits_le_64 h1 h2)
theorem op_add:Bp X (binaryOp .Add) (kE λi j=>.int (i+j)):=G8 λ_ _ _ _ _ _ _ q=>add_int q
theorem S7:Bp X (binaryOp .Sub) (kE λi j=>.int (i - j)):=G8 λ_ _ _ _ _ _ _ q=>sub_int q
theorem S8:Bp X (binaryOp .Mult) (rI CMul λi j=>.int (i*j)):=wL λ_ _ _ _ _ _ _ hc q=>mul_int q hc.ok
theorem S9:Bp X (binaryOp .Mod) (rI (λ_ j=>0<j) λi j=>.int (i % j)):=wL λi j _ _ _ _ _ hc q=>by have h1:(0:Int)<j:=hc;exact mod_int' (by omega) (by rw[Int.fmod_eq_emod_of_nonneg i (by omega)];exact q)
theorem TB:Bp X (binaryOp .Pow) (rI AU λi j=>.int (i ^ j.toNat)):=wL λ_ _ _ _ _ _ _ hc q=>pow_int_small hc.1 hc.2.1 hc.2.2 q
theorem TF {f:af->Sem af}{g:Int->Int}
  (rule:∀(i:Int) (t:Tok) (s:ag) (Q:af->ag->Prop) (E:af->ag->Prop),Q (.int (g i) s.toks) { s with toks:=s.toks+1 }->wpAny (model X.prog X.w) X.A (f (.int i t)) Q E s):
  wK X f (rU λi=>.int (g i)):=by
 intro pins s σ H x v Q I rx h;obtain⟨i,rfl,q⟩:=h;obtain⟨t,rfl⟩:=rx;exact rule i t s _ _ ⟨.int (g i),H,I.tok _,⟨_,rfl⟩,q⟩
theorem TH:wK X (unaryOp .USub) (rU λi=>.int (-i)):=TF λ_ _ _ _ _ q=>neg_int q
end
section
variable{X:Cx}{a b c:bj}{ta tb tc:TE}{pos:Pos}
theorem G9 {pins:List (ah×Obj)}{σ:St}{H:Hp}{s:ag}{Q:VK}{k k':Bool}(I:Inv X pins σ H s) (q:Q (.bl k) H) (e:k=k'):EP X pins σ Q (.bool k') s:=by subst e;exact⟨.bl k,H,I,rfl,q⟩
theorem AV:Bp X (compareOp .Lt) (kE λi j=>.bl (decide (i<j))):=wM λ_ _ _ _ _ _ _ q=>lt_int q
theorem tD:Bp X (compareOp .LtE) (kE λi j=>.bl (decide (i<=j))):=wM λ_ _ _ _ _ _ _ q=>le_int q
theorem HC:Bp X (compareOp .Gt) (kE λi j=>.bl (decide (j<i))):=wM λ_ _ _ _ _ _ _ q=>gt_int q
theorem HD:Bp X (compareOp .GtE) (kE λi j=>.bl (decide (j<=i))):=wM λ_ _ _ _ _ _ _ q=>ge_int q
theorem TJ:Bp X (compareOp .Is) (λx y H Q=>y=.non/\Q (.bl (decide (x=.non))) H):=by
 intro pins s σ H x y v u Q I rx ry h;obtain⟨rfl,q⟩:=h;cases ry;refine is_none_gen (G9 I q ?_)
 cases x <;> first
  |(cases rx;rfl)
  |(obtain⟨t,rfl⟩:=rx;rfl)
theorem TL:Bp X (compareOp .IsNot) (λx y H Q=>y=.non/\Q (.bl (!decide (x=.non))) H):=by
 intro pins s σ H x y v u Q I rx ry h;obtain⟨rfl,q⟩:=h;cases ry;refine isnot_none_gen (G9 I q ?_)
 cases x <;> first
  |(cases rx;rfl)
  |(obtain⟨t,rfl⟩:=rx;rfl)
theorem Bp.or {f:af->af->Sem af}{r r':R2}(h:Bp X f r) (h':Bp X f r'):Bp X f (λx y H Q=>r x y H Q∨r' x y H Q):=by
 intro pins s σ H x y v u Q I rx ry q
 rcases q with q|q
 ·exact h pins s σ H x y v u Q I rx ry q
 ·exact h' pins s σ H x y v u Q I rx ry q
theorem iQ (b:bj) {op:zc}(h:op≠.In:=by decide) (h2:op≠.NotIn:=by decide):behindInMarks op b=false:=by
 have e1:(op==CmpOp.In)=false:=by cases op <;> first|rfl|exact absurd rfl h
 have e2:(op==CmpOp.NotIn)=false:=by cases op <;> first|rfl|exact absurd rfl h2
 cases b <;> simp[behindInMarks,e1,e2]
theorem TM {op:zc}{r:R2}(ho:Bp X (compareOp op) r) (ha:PE X a ta) (hb:PE X b tb) (hm:behindInMarks op b=false):PE X (.Compare a [op] [b] pos) (sZ r ta tb):=by intro pins s σ H Q I h;exact wpAny_Compare1 (AS ha hb I h λv u s2 x y H2 I2 rx ry q=>ho pins s2 σ H2 x y v u Q I2 rx ry q) hm
def HE (t:TE):TT:=λσ H Q=>t σ H λx H'=>∃k,x=.bl k/\Q k H'
theorem TN {op:zc}{r:R2}(ho:Bp X (compareOp op) r) (ha:PE X a ta) (hb:PE X b tb) (hm:behindInMarks op b=false):PT X (.Compare a [op] [b] pos) (HE (sZ r ta tb)):=by intro pins s σ H Q I h;refine wpAny_isTrue_Compare1 (aZ (ha pins s σ H _ I h) λv s1 ⟨x,H1,I1,r1,q1⟩=>aZ (hb pins s1 σ H1 _ I1 q1) λu s2 ⟨y,H2,I2,r2,q2⟩=>aZ (ho pins s2 σ H2 x y v u _ I2 r1 r2 q2) λc s3 ⟨z,H3,I3,r3,k,e,q3⟩=>?_) hm;subst e;cases r3;exact jm ⟨H3,I3,q3⟩
def AW (r r':R2) (ta tb tc:TE):TE:=λσ H Q=>ta σ H λx H1=>tb σ H1 λy H2=>r x y H2 λz H3=>∃k,z=.bl k /\
 (if k=true then tc σ H3 λw' H4=>r' y w' H4 Q else Q (.bl false) H3)
theorem TQ {op Eo:zc}{r r':R2}(ho:Bp X (compareOp op) r) (Dm:Bp X (compareOp Eo) r') (ha:PE X a ta) (hb:PE X b tb) (hc:PE X c tc)
  (hm:lastMarks [op,Eo] [b,c]=false:=by with_unfolding_all rfl):PE X (.Compare a [op,Eo] [b,c] pos) (AW r r' ta tb tc):=by
 intro pins s σ H Q I h;refine Compare_chain (aZ (ha pins s σ H _ I h) λv s1 ⟨x,H1,I1,r1,q1⟩=>chain_link (aZ (hb pins s1 σ H1 _ I1 q1) λu s2 ⟨y,H2,I2,r2,q2⟩=>aZ (ho pins s2 σ H2 x y v u _ I2 r1 r2 q2) λd s3 ⟨z,H3,I3,r3,k,e,q3⟩=>?_)) hm;subst e;cases r3;refine jm ?_
 cases k with
 |false=>exact ite_ff ⟨.bl false,H3,I3,rfl,q3⟩
 |true=>exact ite_tt (chain_last (aZ (hc pins s3 σ H3 _ I3 q3) λw' s4 ⟨z',H4,I4,r4,q4⟩=>Dm pins s4 σ H4 y z' u w' Q I4 r2 r4 q4))
theorem TR {op Eo:zc}{r r':R2}(ho:Bp X (compareOp op) r) (Dm:Bp X (compareOp Eo) r') (ha:PE X a ta) (hb:PE X b tb) (hc:PE X c tc)
  (hm:lastMarks [op,Eo] [b,c]=false:=by with_unfolding_all rfl):PT X (.Compare a [op,Eo] [b,c] pos) (HE (AW r r' ta tb tc)):=by
 intro pins s σ H Q I h;refine isTrue_chain (aZ (ha pins s σ H _ I h) λv s1 ⟨x,H1,I1,r1,q1⟩=>test_link (aZ (hb pins s1 σ H1 _ I1 q1) λu s2 ⟨y,H2,I2,r2,q2⟩=>aZ (ho pins s2 σ H2 x y v u _ I2 r1 r2 q2) λd s3 ⟨z,H3,I3,r3,k,e,q3⟩=>?_)) hm;subst e;cases r3;refine jm ?_
 cases k with
 |false=>obtain⟨k',e',q'⟩:=q3;cases e';exact ite_ff ⟨H3,I3,q'⟩
 |true=>refine ite_tt (test_last (aZ (hc pins s3 σ H3 _ I3 q3) λw' s4 ⟨z',H4,I4,r4,q4⟩=>aZ (Dm pins s4 σ H4 y z' u w' _ I4 r2 r4 q4) λd' s5 ⟨z2,H5,I5,r5,k2,e2,q5⟩=>?_));subst e2;cases r5;exact jm ⟨H5,I5,q5⟩
def HF (K:aq) (x:V) (H:Hp) (k:Bool):Prop:=
 match x with
 | .non=>k=false
 | .bl b=>k=b
 | .int i=>k=(i != 0)
 | .str y=>y.length<=ck/\k=((y.length:Int) != 0)
 | .byt y=>y.size<=ck/\k=((y.size:Int) != 0)
 | .ref p=>(∃xs,Bs K H p xs/\k=!xs.isEmpty)∨(∃xs,Bk K H p xs/\k=!xs.isEmpty)∨∃kvs,H p=some (.dK kvs)/\k=!kvs.isEmpty
 |_=>False
theorem TU {κ:Type}{kvs:List (κ×V)}{vs:List (κ×af)}(r:KV kvs vs):(!vs.isEmpty)=!kvs.isEmpty:=by cases r <;> rfl
theorem HG {xs:List V}{its:List af}(r:Az xs its):(!its.toArray.isEmpty)=!xs.isEmpty:=by cases r <;> simp
theorem rB:(ck:Nat)<2 ^ 63:=by rw[kd];decide
theorem TV:S3 X (λx H Q=>∃k,HF X.K x H k/\Q k H):=by
 intro pins s σ H x v Q I rx h;obtain⟨k,e,q⟩:=h;have hl:=rB;have hs:ck=16777216:=kd
 cases x with
 |non=>cases rx;have e':k=false:=e;subst e';exact truthy_none ⟨H,I,q⟩
 |bl b=>cases rx;have e':k=b:=e;subst e';exact jm ⟨H,I,q⟩
 |int i=>obtain⟨t,rfl⟩:=rx;have e':k=(i != 0):=e;subst e';exact PySem.P.truthy_int ⟨H,I,q⟩
 |str y=>obtain⟨t,rfl⟩:=rx;obtain⟨hy,e'⟩:y.length<=ck/\k=((y.length:Int) != 0):=e;subst e';exact PySem.P.truthy_str (by omega) ⟨H,I.tok _,q⟩
 |byt y=>obtain⟨t,rfl⟩:=rx;obtain⟨hy,e'⟩:y.size<=ck/\k=((y.size:Int) != 0):=e;subst e';exact PySem.W.truthy_bytes (by omega) ⟨H,I.tok _,q⟩
 |ref p=>
  cases rx;have e':(∃xs,Bs X.K H p xs/\k=!xs.isEmpty)∨(∃xs,Bk X.K H p xs/\k=!xs.isEmpty)∨∃kvs,H p=some (.dK kvs)/\k=!kvs.isEmpty:=e
  rcases e' with⟨xs,hx,e'⟩|⟨xs,hx,e'⟩|⟨kvs,hx,e'⟩
  ·subst e';obtain⟨its,r,pl,hz⟩:=I.list hx;have hlen:=r.length;exact wpAny_truthy_list pl.isList (by simp only[ax];omega) ⟨H,I.tok _,by rw[HG r];exact q⟩
  ·subst e';obtain⟨its,r,pl,hz⟩:=I.tuple hx;have hlen:=r.length;exact truthy_tuple pl (by simp only[ax];omega) ⟨H,I.tok _,by rw[HG r];exact q⟩
  ·subst e';obtain⟨hz,hS,vs,r,m⟩:kvs.length<=ck/\(p==sysModules)=false/\∃vs,KV kvs vs/\s.heap.DictOf (AI X.prog X.w) p vs:=I.hok p _ hx;have hlen:kvs.length=vs.length:=Paired.length r;exact wpAny_truthy_dict hS m (by omega) ⟨H,I.tok _,by rw[TU r];exact q⟩
 |_=>exact(show False from e).elim
theorem TX (ha:PE X a ta) (he:∀whole,isTrue a X.env whole=(do let v <-whole;standAt a.pos;holding [v] (truthy v))):
  PT X a (λσ H Q=>ta σ H λx H'=>∃k,HF X.K x H' k/\Q k H'):=by
 intro pins s σ H Q I h;exact isTrue_plain (aZ (ha pins s σ H _ I h) λv s1 ⟨x,H1,I1,r1,q1⟩=>TV pins s1 σ H1 x v Q I1 r1 q1) (he _)
theorem jD {x:V}{us:List af}(r:Az [x] us):∃u,us=[u]/\RelV x u:=by
 cases r with
 |cons r1 r2=>cases r2;exact⟨_,rfl,r1⟩
theorem rC {x y:V}{us:List af}(r:Az [x,y] us):∃u w',us=[u,w']/\RelV x u/\RelV y w':=by
 cases r with
 |cons r1 r2=>
  cases r2 with
  |cons r3 r4=>cases r4;exact⟨_,_,rfl,r1,r3⟩
theorem TY:Bc X (.builtin "abs") (λxs H Q=>∃i,xs=[.int i]/\Q (.int (if i<0 then -i else i)) H):=by intro pins s σ H xs us Q I r h;obtain⟨i,rfl,q⟩:=h;obtain⟨u,rfl,t,rfl⟩:=jD r;exact call_abs_int λu tk=>⟨.int (if i<0 then -i else i),H,I.tok _,⟨_,rfl⟩,q⟩
theorem TZ (hc:X.calm=true):Bc X (.builtin "max") (λxs H Q=>∃i j,xs=[.int i,.int j]/\Q (.int (if j>i then j else i)) H):=by
 intro pins s σ H xs us Q I r h;obtain⟨i,j,rfl,q⟩:=h;obtain⟨u,w',rfl,⟨t,rfl⟩,⟨t',rfl⟩⟩:=rC r;refine max_two_ints (I.ok.hd hc) λh' tk k=>⟨_,H,I.kept k, ?_,q⟩
 by_cases hj:j>i
 ·rw[if_pos hj,if_pos hj];exact⟨_,rfl⟩
 ·rw[if_neg hj,if_neg hj];exact⟨_,rfl⟩
theorem T1 (hc:X.calm=true):Bc X (.builtin "min") (λxs H Q=>∃i j,xs=[.int i,.int j]/\Q (.int (if j<i then j else i)) H):=by
 intro pins s σ H xs us Q I r h;obtain⟨i,j,rfl,q⟩:=h;obtain⟨u,w',rfl,⟨t,rfl⟩,⟨t',rfl⟩⟩:=rC r;refine min_two_ints (I.ok.hd hc) λh' tk k=>⟨_,H,I.kept k, ?_,q⟩
 by_cases hj:j<i
 ·rw[if_pos hj,if_pos hj];exact⟨_,rfl⟩
 ·rw[if_neg hj,if_neg hj];exact⟨_,rfl⟩
end
section
variable{prog:bh}{w:cm}{A:bu}{E:af->ag->Prop}{s:ag}{K:aq}{x dx C f:ah}{mA:Str->Option af}{name:Str}{v:af}
end
section
variable{P:bh}{w:cm}{H H':Hp}{h h':cu}{a C dx:ah}{fs fs':List (Str×V)}
end
section
variable{X:Cx}{pins:List (ah×Obj)}{σ:St}{H:Hp}{s:ag}{a C dx:ah}{fs:List (Str×V)}{f:Str}{v:V}{A:bu}{E:af->ag->Prop}
end
section
variable{X:Cx}{o e value:bj}{f:Str}{pos pos' tpos:Pos}{ta tv:TE}
end
section
variable{X:Cx}{pins:List (ah×Obj)}{σ:St}{H:Hp}{s:ag}{A:bu}{E:af->ag->Prop}{Q:af->ag->Prop}{c:af}{b:Bool}
end
structure Bo (k:Nat) (A:bu):Prop where
 hd:A.handled=none
 dp:A.depth+3*k+5<recursionLimit
 un:A.units+16*k+200<cLine
theorem Bo.mono {j k:Nat}{A:bu}(r:Bo k A) (h:j<=k):Bo j A:=⟨r.hd,by have:=r.dp;omega,by have:=r.un;omega⟩
theorem Bo.deeper {k:Nat}{A:bu}(r:Bo (k+1) A) (env:Env):Bo k (A.deeper env):=⟨r.hd,by have:=r.dp;show A.depth+1+3*k+5<_;omega,by have:=r.un;show A.units+3+16*k+200<_;omega⟩
theorem Bo.depth {k:Nat}{A:bu}(r:Bo k A):A.depth<recursionLimit:=by have:=r.dp;omega
theorem Bo.units {k:Nat}{A:bu}(r:Bo k A):A.units+64<cLine:=by have:=r.un;omega
def HH:TA:=λ_ H Q=>Q [] H
def HI (ta:TE) (tr:TA):TA:=λσ H Q=>ta σ H λx H1=>tr σ H1 λxs H2=>Q (x::xs) H2
section
variable{X:Cx}{e:bj}{es:List bj}{te:TE}{t:TA}{pos:Pos}
theorem jM:PA X [] HH:=λ_ _ _ _ H Q I h=>Calls.spliced_nil ⟨[],H,I,.nil,h⟩
theorem iI (ha:PE X e te) (hr:PA X es t) (hs:ar (e::es) X.env=(false,eval e X.env)::ar es X.env:=by rfl):PA X (e::es) (HI te t):=by intro pos pins s σ H Q I h;rw[hs];show wpAny _ _ (spliced ((false,eval e X.env)::backTo pos (ar es X.env))) _ _ s;refine Calls.spliced_cons (aZ (ha pins s σ H _ I h) λu s1 ⟨x,H1,I1,r1,q1⟩=>?_);exact aZ (hr pos pins s1 σ H1 _ I1 q1) λus s2 ⟨xs,H2,I2,r2,q2⟩=>⟨x::xs,H2,I2,.cons r1 r2,q2⟩
def T3 (t:TA):TE:=λσ H Q=>t σ H λxs H1=>xs.length<=ck/\∀p,H1 p=none->Q (.ref p) (aU H1 p (.tup xs))
def T4 (t:TA):TE:=λσ H Q=>t σ H λxs H1=>xs.length<=ck/\∀p,H1 p=none->Q (.ref p) (aU H1 p (.lst xs))
theorem HJ {x1} (h:PA X es t):PE X (.Tuple es x1 pos) (T3 t):=by intro pins s σ H Q I hq;refine wpAny_Tuple_spliced (aZ (h pos pins s σ H _ I hq) λus s1 ⟨xs,H1,I1,r,z,q⟩=>⟨by rw[<-r.length];exact z, ?_⟩);have hf:H1 s1.heap.objs.size=none:=I1.hok.fresh (aj _);refine⟨.ref s1.heap.objs.size,aU H1 s1.heap.objs.size (.tup xs),I1.laid (t':=s1.toks) (λb u e=>ak _ e) (aj _) ?_,rfl,q _ hf⟩;exact⟨z,us,r,⟨_,bf _ rfl,rfl,rfl,_,rfl⟩⟩
theorem T5 (h:PA X es t):PE X (.List es pos) (T4 t):=by intro pins s σ H Q I hq;refine wpAny_List_spliced (aZ (h pos pins s σ H _ I hq) λus s1 ⟨xs,H1,I1,r,z,q⟩=>⟨by rw[<-r.length];exact z, ?_⟩);have hf:H1 s1.heap.objs.size=none:=I1.hok.fresh (aj _);refine⟨.ref s1.heap.objs.size,aU H1 s1.heap.objs.size (.lst xs),I1.laid (t':=s1.toks) (λb u e=>ak _ e) (aj _) ?_,rfl,q _ hf⟩;exact⟨z,us,0,r,bf _ rfl⟩
end
abbrev Sp:=List V->Hp->VK->XK->Prop
abbrev nU:=List Env->Hp->ag->XK->af->ag->Prop
structure Fb (P:bh) (w:cm) (K:aq) (mg:Str->Option af) (base:cu) (A:bu) (outer:List Env) (s:ag) (H:Hp):Prop where
 frames:A.frames=some outer
 mod:Mod K mg base
 bs:∀b o,base.get? b=some o->s.heap.get? b=some o/\H b=none
 bsz:base.objs.size<=s.heap.objs.size
 funs:s.heap.FunFrames base outer
 frf:∀b∈dY outer,H b=none
 hok:Cc P w H s.heap
 bare:tq s.gens
def CE (outer:List Env) (P:bh) (w:cm) (H:Hp) (s:ag) (Q:VK) (u:af) (s':ag):Prop:=∃v H',s'.os=s.os/\tq s'.gens/\Un (dY outer) [] H H' s.heap s'.heap/\Cc P w H' s'.heap/\RelV v u/\Q v H'
def CR (CX:nU) (outer:List Env) (P:bh) (w:cm) (H:Hp) (s:ag) (Q:VK) (E:XK) (r:yb) (s':ag):Prop:=
 match r with
 | .ok (.ret u)=>CE outer P w H s Q u s'
 | .ok _=>False
 | .error e=>CX outer H s E e s'
structure Bd (P:bh) (w:cm) (K:aq) (mg:Str->Option af) (base:cu) (CX:nU) (k:Nat) (f:ah) (fd:bo) (ps:Aj) (sp:Sp):Prop where
 len:∀vs H Q E,sp vs H Q E->vs.length=ps.length
 run:∀(A:bu) (outer:List Env) (s:ag) (H:Hp) (args:Args) (us:List af) (vs:List V) (Q:VK) (E:XK),Bo k A->Fb P w K mg base A outer s H->yt s fd args (ps.zip us)->Az vs us->sp vs H Q E->
  codeAny (model P w) A (.call (.ref f) args) (CR CX outer P w H s Q E) s
section
variable{X:Cx}{pins:List (ah×Obj)}{σ:St}{H:Hp}{s s':ag}
theorem Inv.env0 (I:Inv X pins σ H s):Fb X.prog X.w X.K X.mg X.base X.A X.stack s H:=⟨I.ok.frames,I.ok.mod,I.bs,dh I.ok.bsz I.sz,I.stack,I.stkFree,I.hok,I.bare⟩
theorem Inv.after {Q:VK}{u:af}(I:Inv X pins σ H s) (h:CE X.stack X.prog X.w H s Q u s'):EP X pins σ Q u s':=by obtain⟨v,H',os,bare,un,hok,r,q⟩:=h;obtain⟨hh,g,d,t,os'⟩:=s';obtain rfl:os'=s.os:=os;exact⟨v,H',I.call (h':=hh) (g':=g) (d':=d) (t':=t) (ch:=[]) un hok bare (λb z=>absurd z (by simp)),r,q⟩
end
def T6 (sp:Sp) (dvs:List V) (E:XK) (t:TA):TE:=λσ H Q=>t σ H λvs H1=>sp (vs++dvs) H1 Q E
def Binds (K:aq) (fd:bo) (ps:Aj) (ds:List af):Prop:=∀(s:ag) (us:List af),K.In s.heap->(us++ds).length=ps.length->yt s fd ⟨us,[]⟩ (ps.zip (us++ds))
theorem Binds.all {K:aq}{fd:bo}{ps:Aj}(h:∀us:List af,us.length=ps.length->bindArgs fd ⟨us,[]⟩=pure (ps.zip us)):Binds K fd ps []:=λs us _ hl=>by rw[ku]at hl ⊢;exact .of_eq (h us hl)
def AX (CX:nU) (X:Cx) (E:XK):Prop:=∀(pins:List (ah×Obj)) (σ:St) (H:Hp) (s:ag) (e:af) (s':ag),Inv X pins σ H s->CX X.stack H s E e s'->X.xe e s'
section
variable{X:Cx}{CX:nU}{k:Nat}{f C:ah}{fd:bo}{ps:Aj}{sp:Sp}{dvs:List V}{ds:List af}{E:XK}{x m:Str}{p pos apos:Pos}{e o:bj}{es:List bj}{ta:TE}{t:TA}
theorem T7 {pins:List (ah×Obj)}{σ:St}{H:Hp}{s:ag}{Q:VK}{us:List af}{vs:List V}(F:Bd X.prog X.w X.K X.mg X.base CX k f fd ps sp) (hr:Bo k X.A) (hb:Binds X.K fd ps ds) (hd:Az dvs ds) (hx:AX CX X E)
  (I:Inv X pins σ H s) (r:Az vs us) (h:sp (vs++dvs) H Q E):wpAny (model X.prog X.w) X.A (call (.ref f) us) (EP X pins σ Q) X.xe s:=by
 have r2:Az (vs++dvs) (us++ds):=r.append hd;have hl:(us++ds).length=ps.length:=by rw[<-r2.length];exact F.len _ _ _ _ h
 refine zd (oz (F.run X.A X.stack s H ⟨us,[]⟩ (us++ds) (vs++dvs) Q E hr I.env0 (hb s us I.kIn hl) r2 h) λr s' hq=>?_)
 cases r with
 |error e=>exact hx pins σ H s e s' I hq
 |ok fl=>
  cases fl with
  |ret u=>exact I.after hq
  |next=>exact gz hq
  |brk=>exact gz hq
  |cont=>exact gz hq
theorem T9 (F:Bd X.prog X.w X.K X.mg X.base CX k f fd ps sp) (hr:Bo k X.A) (hg:Gl X x) (hm:X.mg x=some (.ref f)) (hk:lj X.K (.ref f)=true) (hb:Binds X.K fd ps ds) (hd:Az dvs ds) (hx:AX CX X E)
  (ha:PA X (e::es) t) (Du:(x==Gd)=false:=by decide) (he:ar (e::es) X.env=(false,eval e X.env)::ar es X.env:=by rfl) (Ce:(backTo pos (ar es X.env)).any (·.1)=false:=by rfl):
  PE X (.Call (.Name x p) (e::es) [] pos) (T6 sp dvs E t):=by
 intro pins s σ H Q I h;refine oi (sX I hg hm ?_ Du);refine ze (h₀:=X.base) I.ok.mod.kin hk (aZ (ha pos pins s σ H _ I h) λus s1 ⟨vs,H1,I1,r,q⟩=>⟨I1.kIn, ?_⟩) he Ce;exact T7 F hr hb hd hx I1 r q
end
section
variable{X:Cx}{CX:nU}{k:Nat}{f C:ah}{fd:bo}{ps ks:Aj}{sp:Sp}{E:XK}{x m:Str}{p pos apos kpos:Pos}{e o:bj}{es:List bj}{kws:List Keyword}{te ta:TE}{t tk:TA}{nm:Option Str}
variable{g:List af->List af->List af}{gV:List V->List V->List V}
end
structure Ay (N P:Aj) (sc:gu):Prop where
 kind:sc.kind=.function
 co:sc.isCoroutine=false
 gen:sc.isGenerator=false
 nd:N.Nodup
 pre:N.take P.length=P
 par:∀x∈P,sc.names.lookup x=some .local∨sc.names.lookup x=some .cell
 nofree:∀y∈sc.names,y.2≠.free
theorem HK {kindOf:Str->Option kr}{x:Str}:∀{binds:List (Str×af)}{m:Str->Option af},(∀v,(x,v)∉binds)->bindL kindOf binds m x=m x
 | [],_,_=>rfl
 |(n,v)::r,m,h=>by
  unfold bindL;rw[HK λw hw=>h w (ao _ hw)]
  split
  ·have:x≠n:=by rintro rfl;exact h v ay
   simp[this]
  ·rfl
theorem HL {kindOf:Str->Option kr}{x:Str}:∀{binds:List (Str×af)}{m:Str->Option af},(∀v,(x,v)∉binds)->bindC kindOf binds m x=m x
 | [],_,_=>rfl
 |(n,v)::r,m,h=>by
  unfold bindC;rw[HL λw hw=>h w (ao _ hw)]
  split
  ·rfl
  ·have:x≠n:=by rintro rfl;exact h v ay
   simp[this]
theorem HM {kindOf:Str->Option kr}{x:Str}{v:af}:∀{P:Aj}{vs:List af}{i:Nat}{m:Str->Option af},P.Nodup->P[i]?=some x->vs[i]?=some v->kindOf x=some .local->
  bindL kindOf (P.zip vs) m x=some v
 | [],_,_,_,_,h,_,_=>by simp at h
 |_::_,[],_,_,_,_,h,_=>by simp at h
 |p::P,w::vs,0,m,nd,h1,h2,hk=>by simp at h1 h2;subst h1;subst h2;show bindL kindOf ((p,w)::P.zip vs) m p=_;unfold bindL;rw[HK λv hv=>(ji.mp nd).1 (wz hv).1,if_pos hk];simp
 |p::P,w::vs,i+1,m,nd,h1,h2,hk=>by show bindL kindOf ((p,w)::P.zip vs) m x=_;unfold bindL;exact HM (i:=i) (ji.mp nd).2 (by simpa using h1) (by simpa using h2) hk
theorem HN {kindOf:Str->Option kr}{x:Str}{v:af}:∀{P:Aj}{vs:List af}{i:Nat}{m:Str->Option af},P.Nodup->P[i]?=some x->vs[i]?=some v->kindOf x≠some .local->
  bindC kindOf (P.zip vs) m x=some v
 | [],_,_,_,_,h,_,_=>by simp at h
 |_::_,[],_,_,_,_,h,_=>by simp at h
 |p::P,w::vs,0,m,nd,h1,h2,hk=>by simp at h1 h2;subst h1;subst h2;show bindC kindOf ((p,w)::P.zip vs) m p=_;unfold bindC;rw[HL λv hv=>(ji.mp nd).1 (wz hv).1,if_neg hk];simp
 |p::P,w::vs,i+1,m,nd,h1,h2,hk=>by show bindC kindOf ((p,w)::P.zip vs) m x=_;unfold bindC;exact HN (i:=i) (ji.mp nd).2 (by simpa using h1) (by simpa using h2) hk
def start (N:Aj) (vs:List V):St:=vs.map some++xl (N.length - vs.length) none
def gJ (CX:nU) (P:bh) (w:cm) (K:aq) (mg:Str->Option af) (base:cu) (N:Aj) (qual:Str) (scope:gu) (f:ah) (cd:af) (A:bu) (outer:List Env) (s:ag) (H:Hp) (E:XK):Cx where
 prog:=P
 w:=w
 K:=K
 mg:=mg
 base:=base
 A:=A.deeper (envOfC qual scope s.heap.objs.size f cd)
 N:=N
 s₀:=s
 H₀:=H
 env:=envOfC qual scope s.heap.objs.size f cd
 outer:=outer
 stack:=envOfC qual scope s.heap.objs.size f cd::outer
 ex:=[]
 calm:=true
 fn:=λ_=>true
 pn:=[]
 xe:=λe s'=>wpAny (model P w) (A.deeper (envOfC qual scope s.heap.objs.size f cd)) (leaving (envOfC qual scope s.heap.objs.size f cd) e) (λ_ s''=>CX outer H s E e s'') (λe' s''=>CX outer H s E e' s'') s'
theorem HP {sc:gu}{n:Nat}{x:Str}(h:sc.names.lookup x=some .cell):∃c,(cellsFrom n sc.names []).lookup x=some c:=by have q:=yc sc.names n [] (.inl h);exact xm.mp q
theorem UA {CX:nU}{P:bh}{w:cm}{K:aq}{mg:Str->Option af}{base:cu}{N ps:Aj}{qual:Str}{scope:gu}{f:ah}{cd:af}{A:bu}{outer:List Env}{s s1:ag}{H:Hp}{E:XK}{us:List af}{vs:List V}
  (S:Ay N ps scope) (hd:A.handled=none) (e0:Fb P w K mg base A outer s H) (hl:vs.length=ps.length) (r:Az vs us)
  (x:InCallC s s.heap.objs.size (bindL (envOfC qual scope s.heap.objs.size f cd).kindOf (ps.zip us) λ_=>none) (cellsFrom (s.heap.objs.size+1) scope.names []) (bindC (envOfC qual scope s.heap.objs.size f cd).kindOf (ps.zip us) λ_=>none) s1):
  Inv (gJ CX P w K mg base N qual scope f cd A outer s H E) [] (start N vs) H s1:=by
 have Ce:ps.length<=N.length:=by have:=congrArg qu S.pre;rw[iz]at this;omega
 obtain⟨h1,tk,rfl,hk⟩:=x.done;have noA:∀b:ah,b∉(gJ CX P w K mg base N qual scope f cd A outer s H E).ex:=λb z=>absurd (show b∈([]:List ah) from z) (by simp);refine⟨⟨e0.mod,S.kind,rfl,rfl,aj _,λy z c h1 h2=>?_,λy hy=>?_,λy c _ h=>?_,λ_=>hd,yu e0.frames,.inr ⟨rfl,rfl⟩,λb z=>absurd z (noA b),e0.bs,e0.bsz,λb _ _=>noA b,λb z=>absurd z (noA b),e0.funs,e0.frf⟩,
  rfl,e0.bare,Un.kept hk,⟨_,x.toInCall.ns,λi y v h1 h2 h3=>?_⟩,λy c h=>⟨_,x.cell y c h⟩,e0.hok.fresh (aj _),λy c h=>?_,λp hp=>absurd (show p∈([]:List (ah×Obj)) from hp) (by simp),e0.hok.kept hk, ?_⟩
 ·exact name_of_addr x.apart (fh h1) (fh h2)
 ·have hy:scope.names.lookup y=some .cell∨scope.names.lookup y=some .free:=hy
  rcases hy with hy|hy
  ·exact HP hy
  ·exact absurd rfl (S.nofree _ (fh hy))
 ·exact gy (x.above y c (fh h))
 ·have hi:i<vs.length:=by
   unfold start at h2
   by_cases hi:i<vs.length
   ·exact hi
   ·rw[gq (by simpa using hi)]at h2;rw[sh]at h2
    split at h2 <;> cases h2
  have ha:vs[i]?=some v:=by
   unfold start at h2;rw[dz (by simpa using hi),dw]at h2
   cases e:vs[i]? with
   |none=>rw[e]at h2;cases h2
   |some a=>rw[e]at h2;cases h2;rfl
  obtain⟨u,hu,rv⟩:=r.get ha;have hp:ps[i]?=some y:=by rw[<-S.pre,yk (by omega)];exact h1
  have ndP:ps.Nodup:=by rw[<-S.pre];exact S.nd.sublist (List.take_sublist _ _)
  refine⟨u,rv, ?_⟩
  rcases S.par y (cn hp)with k|k
  ·exact .inl ⟨k,HM ndP hp hu k⟩
  ·obtain⟨c,e⟩:=HP (n:=s.heap.objs.size+1) k;refine .inr ⟨.inl k,c,e, ?_⟩;have q:=x.cell y c e;rw[HN ndP hp hu (by show scope.names.lookup y≠_;rw[k];decide)]at q;exact q
 ·exact e0.hok.fresh (gy (x.above y c (fh h)))
 ·unfold start;show _=N.length;rw[bq,bc,List.length_replicate];omega
theorem AY {CX:nU}{P:bh}{w:cm}{K:aq}{mg:Str->Option af}{base:cu}{k:Nat}{f:ah}{name qual:Str}{params:mm}{body:List gw}{scope:gu}{dV kV doc pm cdv ct oc:af}{an od:Option ah}
  {osl:Array (Option af)}{N ps:Aj}{sp:Sp}(lk:K.lookup f=some ⟨oc,od,.func (pg name qual params body scope dV kV doc pm an cdv ct),osl⟩) (hcd:wm K cdv qual=true) (S:Ay N ps scope)
  (len:∀vs H Q E,sp vs H Q E->vs.length=ps.length)
  (Br:∀(A:bu) (outer:List Env) (s:ag) (H:Hp) (vs:List V) (Q:VK) (E:XK),Bo k (A.deeper (envOfC qual scope s.heap.objs.size f cdv))->sp vs H Q E->
   ∃t,Ey (gJ CX P w K mg base N qual scope f cdv A outer s H E) body t/\t { nx:=λ_ H'=>Q .non H',rt:=Q } (start N vs) H):
  Bd P w K mg base CX (k+1) f (pg name qual params body scope dV kV doc pm an cdv ct) ps sp:=by
 refine⟨len,λA outer s H args us vs Q E hr e0 hb r hsp=>?_⟩;have hl:=len _ _ _ _ hsp;have KX:K.In s.heap:=e0.mod.kin.keeps λb o e=>(e0.bs b o e).1;have lim:s.heap.NoLimit:=e0.mod.nolimit.keeps λb o e=>(e0.bs b o e).1;have Dn:∀y∈ps.zip us,scope.names.lookup y.1=some .local∨(scope.names.lookup y.1=some .cell/\((cellsFrom (s.heap.objs.size+1) scope.names []).lookup y.1).isSome=true):=λ⟨n,v⟩ hy=>by
  rcases S.par n (wz hy).1 with q|q
  ·exact .inl q
  ·exact .inr ⟨q,yc _ _ _ (.inl q)⟩
 refine codeAny_call_function hr.depth (KX _ _ lk) rfl S.co S.gen rfl (PySem.W.codeRec_of KX hcd) (hb _ _ _ _ ?_);refine wpAny_newFunctionEnv_cells S.kind Dn λenv he s1 x=>?_;subst he;refine⟨lim.keeps x.toInCall.keep,codeAny_func ?_⟩;obtain⟨t,ht,hq⟩:=Br A outer s H vs Q E (hr.deeper _) hsp;have I:Inv (gJ CX P w K mg base N qual scope f cdv A outer s H E) [] (start N vs) H s1:=UA S hr.hd e0 hl r x;refine lh (ht [] s1 (start N vs) H _ I hq) (λfl s' hs=>?_) λe s' hs=>hs;have fin:∀{σ':St}{H':Hp}{v:V}{u:af},Inv (gJ CX P w K mg base N qual scope f cdv A outer s H E) [] σ' H' s'->RelV v u->Q v H'->CE outer P w H s Q u s':=λ{σ' H' v u} J rv q=>⟨v,H',J.os,J.bare,J.base,J.hok,rv,q⟩
 cases fl with
 |ret u=>obtain⟨v,σ',H',J,rv,q⟩:=hs;exact fin J rv q
 |next=>obtain⟨σ',H',J,q⟩:=hs;exact fin (v:=V.non) (u:=jr) J rfl q
 |brk=>obtain⟨_,_,_,q⟩:=hs;exact gz q
 |cont=>obtain⟨_,_,_,q⟩:=hs;exact gz q
section
variable{X:Cx}{x:Str}{p pos:Pos}{e:bj}{es:List bj}{t:TA}{id T:String}{r:List V->Hp->VK->Prop}
def wN (r:List V->Hp->VK->Prop) (t:TA):TE:=λσ H Q=>t σ H λvs H1=>r vs H1 Q
theorem tE (hc:Bc X (.builtin id) r) (hg:Gl X x) (hm:X.mg x=none) (hv:di x=some (.builtin id)) (ha:PA X (e::es) t) (hn:x ≠ "__name__" := by decide) (Du:(x==Gd)=false:=by decide)
  (he:ar (e::es) X.env=(false,eval e X.env)::ar es X.env:=by rfl) (Ce:(backTo pos (ar es X.env)).any (·.1)=false:=by rfl):PE X (.Call (.Name x p) (e::es) [] pos) (wN r t):=by
 intro pins s σ H Q I h;refine oi (qA I hg hm hv ?_ hn Du);exact PyProof.Rows.callWith_builtin1 (aZ (ha pos pins s σ H _ I h) λus s1 ⟨vs,H1,I1,r1,q1⟩=>hc pins s1 σ H1 vs us Q I1 r1 q1) he Ce
theorem wO (hc:Bc X (.type T) r) (hg:Gl X x) (hm:X.mg x=none) (hv:di x=some (.type T)) (ha:PA X (e::es) t) (hn:x ≠ "__name__" := by decide) (Du:(x==Gd)=false:=by decide)
  (he:ar (e::es) X.env=(false,eval e X.env)::ar es X.env:=by rfl) (Ce:(backTo pos (ar es X.env)).any (·.1)=false:=by rfl):PE X (.Call (.Name x p) (e::es) [] pos) (wN r t):=by
 intro pins s σ H Q I h;refine oi (qA I hg hm hv ?_ hn Du);exact je (aZ (ha pos pins s σ H _ I h) λus s1 ⟨vs,H1,I1,r1,q1⟩=>hc pins s1 σ H1 vs us Q I1 r1 q1) he Ce
end
end L2
abbrev Ge:=List L2.V
open L2.Bk renaming of->Fi
open L2.V renaming int->Fm,ref->Gb
open L2.Bs renaming of->Fv
namespace HT
open PySem PyProof.Rows
def lexLt:Ah->Ah->Bool
 | [],[]=>false
 | [],_::_=>true
 |_::_,[]=>false
 |x::xs,y::ys=>if x=y then lexLt xs ys else decide (x<y)
theorem lexLt_cons (x y:Int) (xs ys:Ah):lexLt (x::xs) (y::ys)=if x=y then lexLt xs ys else decide (x<y):=rfl
theorem UB:lexLt [] []=false:=rfl
theorem UC (y:Int) (ys:Ah):lexLt [] (y::ys)=true:=rfl
theorem UD (x:Int) (xs:Ah):lexLt (x::xs) []=false:=rfl
theorem UE (A:bu) (s:ag) (a:Int) (t:Tok) (c:Int) (u:Tok):∃e,kj A s (.int a t) (.int c u) e/\(e=true↔a=c):=⟨(a==c),SeqAt.EqAt.int_int a t c u,by simp⟩
theorem UG (A:bu) (s:ag) (a:Int) (t:Tok) (c:Int) (u:Tok) (prog:bh) (w:cm) (E:af->ag->Prop) (Q:af->ag->Prop) (h:Q (.bool (decide (a<c))) s):
  wpAny (model prog w) A (richCompare .Lt (.int a t) (.int c u)) Q E s:=
 (xg h:wpAny (model prog w) A (compareOp .Lt (.int a t) (.int c u)) Q E s)
section
open PySem.SeqAt
open PySem.AutoSeq1 (wpAny_loadPart')
open PySem.MeetsSeq PySem.MeetsSeq2 PySem.MeetsSeq3
theorem UH (l b:ah) (items By:Array af) (n n2:Nat) (dd dd2:Option ah) (sl sl2:Array (Option af)) (ns ms:Ah) (hi:ll items.toList ns) (hj:ll By.toList ms):
  Meets (mw.«tuple.__lt__» ⟨[.ref l,.ref b],[]⟩)
   (λ_ R s=>s.heap.get? l=some { cls:=.type "tuple",dict:=dd,data:=.seq items n,slots:=sl }/\s.heap.get? b=some { cls:=.type "tuple",dict:=dd2,data:=.seq By n2,slots:=sl2 } /\
    R (.ok (.ret (.bool (lexLt ns ms)))) s):=
 .of_wp λprog w A R s h=>by
  obtain⟨hp,g,d,tk,os⟩:=s;obtain⟨hl,hb,h⟩:=h;have f2:=AutoSeq1.sub_tuple_tuple;have z1:items.size=ns.length:=by rw[<-hi.length];simp
  have z2:By.size=ms.length:=by rw[<-hj.length];simp
  wp_walk using wpAny_loadPart' hl,wpAny_loadPart' hb,pw _ (λrest b s'=>b.1=none/\s'=⟨hp,g,d,tk,os⟩/\∃(vs ws:List af) (ns' ms':Ah),rest=vs.zip ws /\
   ll vs ns'/\ll ws ms'/\ns'.length+By.size=ms'.length+items.size/\R (.ok (.ret (.bool (lexLt ns' ms')))) ⟨hp,g,d,tk,os⟩) _
  case turn=>
   rintro ⟨y,x⟩ rest b s' ⟨hb',rfl,vs,ws,ns',ms',hz,hvi,hwi,hlen,hR⟩
   cases hvi with
   |nil=>rw[List.zip_nil_left]at hz;cases hz
   |cons a t hvi'=>
    cases hwi with
    |nil=>rw[List.zip_nil_right]at hz;cases hz
    |cons c u hwi'=>
     rw[List.zip_cons_cons]at hz;injection hz with hyx Ea;injection hyx with hy hx;subst hy hx;rw[lexLt_cons]at hR;simp only[cg]at hlen;obtain⟨e,he,hiff⟩:=UE A.in1 ⟨hp,g,d,tk,os⟩ a t c u;refine aa (he prog w _ _ ?_)
     cases e with
     |true=>
      rw[if_pos (hiff.mp rfl)]at hR
      wp_walk
      exact⟨rfl,rfl,_,_,_,_,Ea,hvi',hwi',by omega,hR⟩
     |false=>
      rw[if_neg (λq=>absurd (hiff.mpr q) iw)]at hR;have hri:=UG A.in1 ⟨hp,g,d,tk,os⟩ a t c u prog w
      wp_walk using hri
      exact⟨_,rfl,by simpa using hR⟩
  case fin=>
   rintro ⟨b1,b2⟩ s' ⟨hb',rfl,vs,ws,ns',ms',hz,hvi,hwi,hlen,hR⟩
   simp only at hb';subst hb';have hv:lexLt ns' ms'=decide (items.size<By.size):=by
    cases hvi with
    |nil=>
     cases hwi with
     |nil=>simp only[ni]at hlen;rw[UB];exact(decide_eq_false (by omega)).symm
     |cons c u hw=>simp only[ni,cg]at hlen;rw[UC];exact(decide_eq_true (by omega)).symm
    |cons a t hv=>
     cases hwi with
     |nil=>simp only[ni,cg]at hlen;rw[UD];exact(decide_eq_false (by omega)).symm
     |cons c u hw=>rw[List.zip_cons_cons]at hz;cases hz
   rw[hv]at hR
   wp_walk
   exact⟨_,rfl,by simpa[Builtin.Tuple.tupleCompareSizes]using hR⟩
  case h=>exact⟨rfl,rfl,items.toList,By.toList,ns,ms,rfl,hi,hj,by omega,h⟩
end
section
variable{prog:bh}{w:cm}{A:bu}{E:af->ag->Prop}{s:ag}
theorem lt_tupInts {l b:ah}{items By:Array af}{ns ms:Ah}{Q:af->ag->Prop}(hl:yz s.heap l items) (hb:yz s.heap b By) (hi:ll items.toList ns) (hj:ll By.toList ms)
  (hu:A.units<cLine) (h:Q (.bool (lexLt ns ms)) s):wpAny (model prog w) A (compareOp .Lt (.ref l) (.ref b)) Q E s:=by
 obtain⟨⟨cls,dd,data,sl⟩,ho,hc,n,hd⟩:=id hl;obtain⟨⟨cls2,dd2,data2,sl2⟩,ho2,hc2,n2,hd2⟩:=id hb;simp only at hc hd hc2 hd2;subst hc hd hc2 hd2;exact richCompare_meets_room (op:=.Lt) ⟨_,ho,rfl⟩ ⟨_,ho2,rfl⟩ PySem.F.slot_tuple_lt PySem.F.entry_tuple_lt (PySem.F.args_tuple_lt_2 _ _) (UH l b items By n n2 dd dd2 sl sl2 ns ms hi hj)
  ⟨ho,ho2,show ux (lexLt ns ms)≠Value.notImplemented/\Q (.bool (lexLt ns ms)) s from⟨(λx=>nomatch x),h⟩⟩ hu
theorem cat_tup {t b:ah}{vs ws:List af}{Q:af->ag->Prop}(ht:yz s.heap t vs.toArray) (hb:yz s.heap b ws.toArray) (hv:vs≠[])
  (h1:ws=[]->Q (.ref t) s) (h2:ws≠[]->Q (.ref s.heap.objs.size) { s with heap:=s.heap.push { cls:=.type "tuple",data:=.seq (vs++ws).toArray } })
  (Cd:vs.length+ws.length<=ck):wpAny (model prog w) A (binaryOp .Add (.ref t) (.ref b)) Q E s:=by
 obtain⟨⟨cls,dd,data,sl⟩,ho,hc,n,hd⟩:=id ht;obtain⟨⟨cls2,dd2,data2,sl2⟩,ho2,hc2,n2,hd2⟩:=id hb;simp only at hc hd hc2 hd2;subst hc hd hc2 hd2;have e:vs.toArray++ws.toArray=(vs++ws).toArray:=by simp
 by_cases hw:ws=[]
 ·exact concat_meets ⟨_,ho,rfl⟩ ⟨_,ho2,rfl⟩ yd zx sd qv (ql _ _)
   (tuple_addW1 t b vs.toArray ws.toArray n n2 dd dd2 sl sl2 (by simpa using hv) (by simp[hw])) ⟨ho,ho2,h1 hw⟩
 ·refine concat_meets ⟨_,ho,rfl⟩ ⟨_,ho2,rfl⟩ yd zx sd qv (ql _ _)
   (tuple_addW2 t b vs.toArray ws.toArray n n2 dd dd2 sl sl2 (by simpa using hv) (by simpa using hw) (by rw[ax,ax];exact Cd)) ⟨ho,ho2, ?_⟩
  rw[e];exact h2 hw
def sIx (n d:Nat):Option Int->Nat
 |none=>d
 |some v=>if v<0 then(v+(n:Int)).toNat else min v.toNat n
theorem sIx_none (n d:Nat):sIx n d none=d:=rfl
theorem sIx_nat (n d k:Nat):sIx n d (some (k:Int))=min k n:=by show(if(k:Int)<0 then((k:Int)+(n:Int)).toNat else min (k:Int).toNat n)=min k n;rw[if_neg (by omega),gh]
theorem UI (n d:Nat) (hd:d<=n) (o:Option Int):sIx n d o<=n:=by
 cases o with
 |none=>exact hd
 |some v=>
  show(if v<0 then(v+(n:Int)).toNat else min v.toNat n)<=n
  by_cases hv:v<0
  ·rw[if_pos hv];omega
  ·rw[if_neg hv];exact Nat.min_le_right _ _
theorem HQ (v:Int) (n d:Nat):(if v<0 then max (v+(n:Int)) 0 else min v (n:Int))=((sIx n d (some v):Nat):Int):=by
 show(if v<0 then max (v+(n:Int)) 0 else min v (n:Int))=(((if v<0 then(v+(n:Int)).toNat else min v.toNat n):Nat):Int)
 by_cases hv:v<0
 ·simp only[if_pos hv];omega
 ·simp only[if_neg hv];omega
theorem UJ (lo hi:Option Int) (n:Nat):pb lo hi 1 (n:Int)=(((sIx n 0 lo:Nat):Int),((sIx n n hi:Nat):Int)):=by
 have h1:¬ ((1:Int)<0):=by omega
 unfold pb;simp only[h1,if_false];refine Prod.ext ?_ ?_
 ·cases lo with
  |none=>rfl
  |some v=>exact HQ v n 0
 ·cases hi with
  |none=>rfl
  |some v=>exact HQ v n n
theorem UK (i j:Nat):kv (i:Int) (j:Int) 1=j - i:=by
 unfold kv;have h1:(1:Int)>0:=by omega
 simp only[h1,if_true,Int.ediv_one]
 split <;> omega
theorem HR {v:af}{o:Option Int}{Q:Option Int->ag->Prop}(p:vh v o) (h:Q o s):wpAny (model prog w) A (Builtin.Slice.slicePartIndex v) Q E s:=by
 cases p with
 |none=>exact slicePart_none h
 |int i t=>exact slicePart_int h
theorem sliceApplied_gen {sl:ah}{vl vu:af}{lo hi:Option Int}{n:Nat}{Q:Int×Int×Nat->ag->Prop}(hs:s.heap.IsSliceOf sl vl vu .none) (pl:vh vl lo) (pu:vh vu hi)
  (h:Q (((sIx n 0 lo:Nat):Int),1,sIx n n hi - sIx n 0 lo) s):wpAny (model prog w) A (uz (.ref sl) (pure (n:Int))) Q E s:=by
 obtain⟨os,hos,hcs,hds⟩:=id hs;unfold uz Builtin.Slice.sliceFields;refine aa (aa (fz hos hds (x:=vl) rfl (aa (fz hos hds (x:=vu) rfl (aa (fz hos hds (x:=.none) rfl (ai ?_)))))));refine aa (slicePart_none ?_);show wpAny _ _ (if((1:Int)==0)=true then _ else _) _ _ s;rw[if_neg (by decide)];refine aa (HR pl (aa (HR pu (aa (ai ?_)))));show wpAny _ _ (match pb lo hi 1 (n:Int)with|(lo,hi)=>pure (lo,(1:Int),kv lo hi 1)) _ _ s;rw[UJ lo hi n];show wpAny _ _ (pure (((sIx n 0 lo:Nat):Int),(1:Int),kv ((sIx n 0 lo:Nat):Int) ((sIx n n hi:Nat):Int) 1)) _ _ s;rw[UK];exact ai h
theorem UL (xs:Array af) (i k:Nat):((bp k).filterMap λ(m:Nat)=>xs[((i:Int)+(m:Int)*1).toNat]?).toArray=((xs.toList.drop i).take k).toArray:=by
 have e:(λ(m:Nat)=>xs[((i:Int)+(m:Int)*1).toNat]?)=λm=>xs[i+m]?:=by
  funext m
  have:((i:Int)+(m:Int)*1).toNat=i+m:=by omega
  rw[this]
 rw[e];have:=pick_run xs i k;rw[List.filterMap_map]at this;have e2:((λx=>xs[x]?)∘λx=>i+x)=λm=>xs[i+m]?:=rfl;rw[e2]at this;rw[this]
theorem getItem_tuple_cut {t sl:ah}{items:Array af}{vl vu:af}{lo hi:Option Int}{Q:af->ag->Prop}(ht:yz s.heap t items) (hs:s.heap.IsSliceOf sl vl vu .none) (pl:vh vl lo) (pu:vh vu hi)
  (hw:¬ (sIx items.size 0 lo=0/\sIx items.size items.size hi=items.size))
  (h:Q (.ref s.heap.objs.size) { s with heap:=s.heap.push { cls:=.type "tuple",data:=.seq ((items.toList.drop (sIx items.size 0 lo)).take (sIx items.size items.size hi - sIx items.size 0 lo)).toArray } })
  (Cd:items.size<=ck):wpAny (model prog w) A (getItem (.ref t) (.ref sl)) Q E s:=by
 have htake:sizeOk (.seq ((items.toList.drop (sIx items.size 0 lo)).take (sIx items.size items.size hi - sIx items.size 0 lo)).toArray):=by show((items.toList.drop (sIx items.size 0 lo)).take (sIx items.size items.size hi - sIx items.size 0 lo)).toArray.size<=ck;rw[ax,iz,ou,mz];omega
 have hj:sIx items.size items.size hi<=items.size:=UI _ _ (aj _) hi;obtain⟨os,hos,hcs,hds⟩:=id hs;have hTs:s.TypeIs (.ref sl) "slice" := ⟨os,hos,hcs⟩;unfold getItem
 try with_reducible refine ig ?_
 first|refine aa (ai ?_)|skip
 refine aa (wpAny_sequenceKey ht.typeIs (by decide) ?_);refine aa (fe (name:=jz "__getitem__") ht.typeIs gg
  (ff gg ht.typeIs entry_tuple_getitem ?_ (args_tuple_getitem _ _)))
 show wpAny _ _ (vc (.ref t) >>= _) _ _ s;refine aa (zy ht ?_);refine aa (qw hTs ?_);rw[if_pos (by decide)];refine aa (sliceApplied_gen hs pl pu ?_);have hno:¬ ((((sIx items.size 0 lo:Nat):Int)==0&&(1:Int)==1&&(sIx items.size items.size hi - sIx items.size 0 lo)==items.size)=true):=by intro q;rw[da,da]at q;have q1:((sIx items.size 0 lo:Nat):Int)=0:=eq_of_beq q.1.1;have q2:sIx items.size items.size hi - sIx items.size 0 lo=items.size:=eq_of_beq q.2;exact hw ⟨by omega,by omega⟩
 show wpAny _ _ (if(((sIx items.size 0 lo:Nat):Int)==0&&(1:Int)==1&&(sIx items.size items.size hi - sIx items.size 0 lo)==items.size)=true then _ else _) _ _ s;rw[if_neg hno,UL]
 first
  |exact aa (m:=lr _) (gn (ai ⟨_,rfl,ai h⟩) htake)
  |exact aa (m:=lr _) (gn (aa (ai (ai ⟨_,rfl,ai h⟩))) htake)
  |exact aa (aa (m:=lr _) (gn (ai (ai ⟨_,rfl,ai h⟩)) htake))
  |exact aa (aa (m:=lr _) (gn (ai ⟨_,rfl,ai h⟩) htake))
end
end HT
namespace L2
abbrev TO:=St->Hp->(Option Int->Hp->Prop)->Prop
def PO (X:Cx) (e:Option bj) (t:TO):Prop:=
 ∀(pins:List (ah×Obj)) (s:ag) (σ:St) (H:Hp) (Q:Option Int->Hp->Prop),Inv X pins σ H s->t σ H Q->
  wpAny (model X.prog X.w) X.A (evalPart e X.env) (λu s'=>∃o H',Inv X pins σ H' s'/\vh u o/\Q o H') X.xe s
def UM:TO:=λ_ H Q=>Q none H
def UN (t:TE):TO:=λσ H Q=>t σ H λx H1=>∃i,x=.int i/\Q (some i) H1
theorem HS {ns:Ah}:∀{us:List af},Az (ns.map Fm) us->ll us ns:=by
 induction ns with
 |nil=>intro us r;rw[List.map_nil]at r;cases r;exact .nil
 |cons n ns ih=>
  intro us r;rw[dk]at r
  cases r with
  |cons r1 r2=>obtain⟨t,e⟩:=r1;subst e;exact .cons n t (ih r2)
section
variable{X:Cx}{e:bj}{te:TE}{lo hi:Option bj}{tl th:TO}{pos p2:Pos}
theorem UO:PO X none UM:=by intro pins s σ H Q I h;rw[evalPart_none];exact ai ⟨none,H,I,.none,h⟩
theorem UP (h:PE X e te):PO X (some e) (UN te):=by intro pins s σ H Q I hw;rw[evalPart_some];refine aZ (h pins s σ H _ I hw) λu s1 ⟨x,H1,I1,r1,q1⟩=>?_;obtain⟨i,rfl,q⟩:=q1;obtain⟨t,rfl⟩:=r1;exact⟨some i,H1,I1,.int i t,q⟩
def SlR (X:Cx) (r:V->Option Int->Option Int->Hp->VK->Prop):Prop:=
 ∀(pins:List (ah×Obj)) (s:ag) (σ:St) (H:Hp) (x:V) (v vl vu:af) (lo hi:Option Int) (sl:ah) (Q:VK),Inv X pins σ H s->RelV x v->s.heap.IsSliceOf sl vl vu .none->vh vl lo->vh vu hi->r x lo hi H Q->
  ∃T id,typeLookup (.type T) "__getitem__" = pure (some (.builtin id))/\s.TypeIs v T/\wpAny (model X.prog X.w) X.A (getItem v (.ref sl)) (EP X pins σ Q) X.xe s
theorem SlR.or {r r':V->Option Int->Option Int->Hp->VK->Prop}(h:SlR X r) (h':SlR X r'):SlR X (λx lo hi H Q=>r x lo hi H Q∨r' x lo hi H Q):=by
 intro pins s σ H x v vl vu lo hi sl Q I rx hs pl pu q
 rcases q with q|q
 ·exact h pins s σ H x v vl vu lo hi sl Q I rx hs pl pu q
 ·exact h' pins s σ H x v vl vu lo hi sl Q I rx hs pl pu q
def UQ (r:V->Option Int->Option Int->Hp->VK->Prop) (te:TE) (tl th:TO):TE:=λσ H Q=>te σ H λx H1=>tl σ H1 λl H2=>th σ H2 λu H3=>r x l u H3 Q
theorem UR {r:V->Option Int->Option Int->Hp->VK->Prop}(hr:SlR X r) (he:PE X e te) (hl:PO X lo tl) (hu:PO X hi th):PE X (.Subscript e (.Slice lo hi none p2) pos) (UQ r te tl th):=by intro pins s σ H Q I h;refine Subscript_ (aZ (he pins s σ H _ I h) λv s1 ⟨x,H1,I1,r1,q1⟩=>?_);refine wpAny_Slice (aZ (hl pins s1 σ H1 _ I1 q1) λvl s2 ⟨l,H2,I2,pl,q2⟩=>aZ (hu pins s2 σ H2 _ I2 q2) λvu s3 ⟨u,H3,I3,pu,q3⟩=>?_);rw[evalPart_none];refine ai ?_;have I4:Inv X pins σ H3 { s3 with heap:=s3.heap.push { cls:=.type "slice",data:=.fields #[vl,vu,.none] } }:=I3.kept (t':=s3.toks) λb ob q=>ak _ q;obtain⟨T,id,hT,ht,hg⟩:=hr pins { s3 with heap:=s3.heap.push { cls:=.type "slice",data:=.fields #[vl,vu,.none] } } σ H3 x v vl vu l u s3.heap.objs.size Q I4 r1 (Heap.IsSliceOf.new ..) pl pu q3;show wpAny (model X.prog X.w) X.A (subscriptTail e (.Slice lo hi none p2) v (.ref s3.heap.objs.size)) (EP X pins σ Q) X.xe { s3 with heap:=s3.heap.push { cls:=.type "slice",data:=.fields #[vl,vu,.none] } };exact tail_any (ops:=[.ref s3.heap.objs.size,v]) ht hT hg (by with_unfolding_all rfl)
def oV (xs:Ge) (lo hi:Option Int):Ge:=(xs.drop (HT.sIx xs.length 0 lo)).take (HT.sIx xs.length xs.length hi - HT.sIx xs.length 0 lo)
theorem HU (xs:Ge) (lo hi:Option Int):(oV xs lo hi).length<=xs.length:=by unfold oV;rw[iz,ou];omega
def US (K:aq):V->Option Int->Option Int->Hp->VK->Prop:=λx lo hi H Q=>∃a xs,x=.ref a/\Bk K H a xs /\
 ¬ (HT.sIx xs.length 0 lo=0/\HT.sIx xs.length xs.length hi=xs.length)/\∀p,H p=none->Q (.ref p) (aU H p (.tup (oV xs lo hi)))
theorem UT:SlR X (US X.K):=by
 intro pins s σ H x v vl vu lo hi sl Q I rx hs pl pu h;obtain⟨a,xs,rfl,hx,hw,q⟩:=h;cases rx;obtain⟨its,r,ht,hz⟩:=I.tuple hx;have hlen:its.toArray.size=xs.length:=by rw[ax];exact r.length.symm
 refine⟨"tuple",_,gg.lookup,ht.typeIs, ?_⟩;refine HT.getItem_tuple_cut ht hs pl pu (by rw[hlen];exact hw) ?_ (by rw[hlen];exact hz);rw[hlen];refine⟨.ref s.heap.objs.size,_,I.laid (t':=s.toks) (o:=.tup (oV xs lo hi)) (λb ob q=>ak _ q) (aj _) ?_,rfl,q _ (I.hok.fresh (aj _))⟩;exact⟨dh (HU xs lo hi) hz,_,(r.drop (HT.sIx xs.length 0 lo)).take (HT.sIx xs.length xs.length hi - HT.sIx xs.length 0 lo),Bv.new _ _⟩
def HV (K:aq):R2:=λx y H Q=>∃a b ns ms,x=.ref a/\y=.ref b/\Bk K H a (ns.map Fm)/\Bk K H b (ms.map Fm)/\Q (.bl (HT.lexLt ns ms)) H
theorem HW (hu:X.A.units<cLine):Bp X (compareOp .Lt) (HV X.K):=by intro pins s σ H x y v u Q I rx ry h;obtain⟨a,b,ns,ms,rfl,rfl,ha,hb,q⟩:=h;cases rx;cases ry;obtain⟨its,r1,p1,_⟩:=I.tuple ha;obtain⟨Ci,r2,p2,_⟩:=I.tuple hb;have i1:ll its.toArray.toList ns:=HS r1;have i2:ll Ci.toArray.toList ms:=HS r2;exact HT.lt_tupInts p1 p2 i1 i2 hu ⟨.bl (HT.lexLt ns ms),H,I,rfl,q⟩
def HX (K:aq):R2:=λx y H Q=>∃a b xs ys,x=.ref a/\y=.ref b/\Bk K H a xs/\Bk K H b ys/\xs≠[]/\xs.length+ys.length<=ck /\
 (ys=[]->Q (.ref a) H)/\(ys≠[]->∀p,H p=none->Q (.ref p) (aU H p (.tup (xs++ys))))
theorem Az.nil_iff {xs:Ge}{us:List af}(r:Az xs us):us=[]↔xs=[]:=by
 cases r with
 |nil=>simp
 |cons _ _=>simp
theorem UU:Bp X (binaryOp .Add) (HX X.K):=by intro pins s σ H x y v u Q I rx ry h;obtain⟨a,b,xs,ys,rfl,rfl,ha,hb,hx,hz,q1,q2⟩:=h;cases rx;cases ry;obtain⟨its,r1,p1,_⟩:=I.tuple ha;obtain⟨Ci,r2,p2,_⟩:=I.tuple hb;refine HT.cat_tup p1 p2 (λz=>hx (r1.nil_iff.mp z)) (λz=>⟨.ref a,H,I,rfl,q1 (r2.nil_iff.mp z)⟩) (λz=>?_) (by rw[<-r1.length,<-r2.length];exact hz);refine⟨.ref s.heap.objs.size,_,I.laid (t':=s.toks) (o:=.tup (xs++ys)) (λb ob q=>ak _ q) (aj _) ?_,rfl,q2 (λw=>z (r2.nil_iff.mpr w)) _ (I.hok.fresh (aj _))⟩;exact⟨by rw[bq];exact hz,_,r1.append r2,Bv.new _ _⟩
end
def fR (n:Nat) (i:Int):Option Nat:=if 0<=i then(if i<n then some i.toNat else none)else if -(n:Int)<=i then some (i+n).toNat else none
def gK {α:Type}(xs:List α) (i:Int):Option α:=(fR xs.length i).bind λj=>xs[j]?
theorem AZ {n:Nat}{i:Int}{j:Nat}(h:fR n i=some j):seqIndex? i n=some j/\j<n/\-(n:Int)<=i/\i<n:=by
 unfold fR at h
 by_cases h0:0<=i
 ·rw[if_pos h0]at h
  by_cases h1:i<n
  ·rw[if_pos h1]at h;have e:i.toNat=j:=cq h;exact⟨by rw[seqIndex_of h0 h1,e],by omega,by omega,h1⟩
  ·rw[if_neg h1]at h;cases h
 ·rw[if_neg h0]at h
  by_cases h1 : -(n:Int)<=i
  ·rw[if_pos h1]at h;have e:(i+n).toNat=j:=cq h;exact⟨by rw[seqIndex_neg (by omega) h1,e],by omega,h1,by omega⟩
  ·rw[if_neg h1]at h;cases h
theorem A0 {α:Type}{xs:List α}{i:Int}{v:α}(h:gK xs i=some v):∃j,seqIndex? i xs.length=some j/\xs[j]?=some v/\j<xs.length/\-(xs.length:Int)<=i/\i<xs.length:=by
 unfold gK at h
 cases e:fR xs.length i with
 |none=>rw[e]at h;cases h
 |some j=>rw[e]at h;obtain⟨h1,h2,h3,h4⟩:=AZ e;exact⟨j,h1,h,h2,h3,h4⟩
def A1 (b:bj):Prop:=∀o i,subscripted b false o i=operate [o,i] (getItem o i)
def IxR (X:Cx) (r:R2):Prop:=
 ∀(value slice:bj) (pins:List (ah×Obj)) (s:ag) (σ:St) (H:Hp) (x y:V) (v u:af) (Q:VK),Inv X pins σ H s->RelV x v->RelV y u->r x y H Q->
  subscripted slice false v u=operate [v,u] (getItem v u)->wpAny (model X.prog X.w) X.A (subscriptTail value slice v u) (EP X pins σ Q) X.xe s
def A2 (X:Cx) (id:String) (r:V->Ge->Hp->VK->Prop):Prop:=
 ∀(pins:List (ah×Obj)) (s:ag) (σ:St) (H:Hp) (x:V) (xs:Ge) (v:af) (us:List af) (Q:VK),Inv X pins σ H s->RelV x v->Az xs us->r x xs H Q->
  wpAny (model X.prog X.w) X.A (call (.builtin id) (v::us)) (EP X pins σ Q) X.xe s
section
variable{X:Cx}{a b:bj}{ta tb:TE}{pos:Pos}
theorem IxR.or {r r':R2}(h:IxR X r) (h':IxR X r'):IxR X (λx y H Q=>r x y H Q∨r' x y H Q):=by
 intro value slice pins s σ H x y v u Q I rx ry q hs
 rcases q with q|q
 ·exact h value slice pins s σ H x y v u Q I rx ry q hs
 ·exact h' value slice pins s σ H x y v u Q I rx ry q hs
theorem HY {r:R2}(hr:IxR X r) (ha:PE X a ta) (hb:PE X b tb) (hs:A1 b):PE X (.Subscript a b pos) (sZ r ta tb):=by intro pins s σ H Q I h;exact Subscript_ (AS ha hb I h λv u s2 x y H2 I2 rx ry q=>hr a b pins s2 σ H2 x y v u Q I2 rx ry q (hs _ _))
def HZ (K:aq):R2:=λx y H Q=>∃p xs i v,x=.ref p/\y=.int i/\Bs K H p xs/\gK xs i=some v/\Q v H
def IA (K:aq):R2:=λx y H Q=>∃p xs i v,x=.ref p/\y=.int i/\Bk K H p xs/\gK xs i=some v/\Q v H
def IB:R2:=λx y H Q=>∃z i c,x=.str z/\y=.int i/\z.length<=ck/\gK z.cps.toList i=some c/\Q (.str ⟨#[c]⟩) H
theorem ix_list:IxR X (HZ X.K):=by
 intro value slice pins s σ H x y v u Q I rx ry h hs;obtain⟨p,xs,i,z,rfl,rfl,hq,he,q⟩:=h;cases rx;obtain⟨t,rfl⟩:=ry;obtain⟨its,r,pl,hz⟩:=I.list hq;obtain⟨j,h1,h2,h3,h4,h5⟩:=A0 he;obtain⟨w,ew,rw'⟩:=r.get h2;have hl:=r.length;have hn:=rB;have fin:EP X pins σ Q w s:=⟨z,H,I,rw',q⟩
 by_cases h0:0<=i
 ·have hj:i.toNat=j:=by rw[seqIndex_of h0 h5]at h1;exact cq h1
  exact item_listR pl.isList h0 (by omega) (by rw[hj];simpa using ew) fin hs
 ·have hj:(i+(its.toArray.size:Int)).toNat=j:=by rw[seqIndex_neg (by omega) h4]at h1;rw[ax,<-hl];exact cq h1
  exact subscriptTail_builtinR (x:=w) pl.isList.typeIs slot_list_getitem.lookup
   (wpAny_getItem_list_neg (Q:=λr s'=>r=w/\EP X pins σ Q r s') pl.isList (by omega) (by rw[ax] <;> omega) (by omega) (by rw[hj];simpa using ew) ⟨rfl,fin⟩) hs
theorem ix_tup:IxR X (IA X.K):=by
 intro value slice pins s σ H x y v u Q I rx ry h hs;obtain⟨p,xs,i,z,rfl,rfl,hq,he,q⟩:=h;cases rx;obtain⟨t,rfl⟩:=ry;obtain⟨its,r,pl,hz⟩:=I.tuple hq;obtain⟨j,h1,h2,h3,h4,h5⟩:=A0 he;obtain⟨w,ew,rw'⟩:=r.get h2;have hl:=r.length;have hn:=rB;have fin:EP X pins σ Q w s:=⟨z,H,I,rw',q⟩
 exact subscriptTail_builtinR (x:=w) pl.typeIs slot_tuple_getitem.lookup
  (getItem_tuple (j:=j) (Q:=λr s'=>r=w/\EP X pins σ Q r s') pl (by omega) (by omega) (by rw[ax,<-hl];exact h1) (by simpa using ew) ⟨rfl,fin⟩) hs
theorem UW:IxR X IB:=by
 intro value slice pins s σ H x y v u Q I rx ry h hs;obtain⟨z,i,c,rfl,rfl,hz,he,q⟩:=h;obtain⟨t,rfl⟩:=rx;obtain⟨t',rfl⟩:=ry;obtain⟨j,h1,h2,h3,h4,h5⟩:=A0 he;have hl:z.cps.toList.length=z.length:=by simp[Str.length]
 rw[hl]at h1 h4 h5;have hn:=rB;exact tail_any (typeIs_str s z t) slot_str_getitem.lookup (getItem_str (c:=c) (by have e1:decide (i < -(2 ^ 63:Int))=false:=decide_eq_false (by omega);have e2:decide (i>=2 ^ 63)=false:=decide_eq_false (by omega);rw[e1,e2,Bool.or_false]) (by rw[h1];simpa using h2) ⟨.str ⟨#[c]⟩,H,I.tok _,⟨_,rfl⟩,q⟩) hs
def A3 (K:aq):R2:=λx y H Q=>HZ K x y H Q∨IA K x y H Q∨IB x y H Q
theorem IC:IxR X (A3 X.K):=ix_list.or (ix_tup.or UW)
theorem UX (its:List af) (n j:Nat) (u:af):pd (·.setIfInBounds j u) { cls:=.type "list",data:=.seq its.toArray n }={ cls:=.type "list",data:=.seq (its.set j u).toArray n }:=by simp[pd]
theorem Inv.lst {pins:List (ah×Obj)}{σ:St}{H:Hp}{s:ag}{p:ah}{xs:Ge}(I:Inv X pins σ H s) (h:H p=some (.lst xs)):
  ∃(its:List af) (n:Nat),Az xs its/\s.heap.get? p=some { cls:=.type "list",data:=.seq its.toArray n }/\xs.length<=ck:=by
 obtain⟨z,its,n,r,e⟩:=I.hok p _ h;exact⟨its,n,r,e,z⟩
theorem Inv.lstUpd {pins:List (ah×Obj)}{σ:St}{H:Hp}{s:ag}{p:ah}{xs ys:Ge}{its its':List af}{n n':Nat}{f:Obj->Obj}(I:Inv X pins σ H s) (h:H p=some (.lst xs))
  (ho:s.heap.get? p=some { cls:=.type "list",data:=.seq its.toArray n }) (hf:f { cls:=.type "list",data:=.seq its.toArray n }={ cls:=.type "list",data:=.seq its'.toArray n' }) (r:Az ys its') (hz:ys.length<=ck) (t:Nat):
  Inv X pins σ (aU H p (.lst ys)) { s with heap:=s.heap.update p f,toks:=t }:=by
 have e:(s.heap.update p f).get? p=some { cls:=.type "list",data:=.seq its'.toArray n' }:=by rw[oq f ho (by rw[hf] <;> rfl),hf]
 refine I.write (x:=p) (e:=p) (by rw[h];trivial) (.inl rfl) (λb u hb q=>(nu _ _ (cx hb)).trans q) ⟨_,e⟩ ?_;exact⟨hz,its',n',r,e⟩
def UY:V->V->V->Hp->(Hp->Prop)->Prop:=λo i v H Q=>∃p xs k j,o=.ref p/\i=.int k/\H p=some (.lst xs)/\fR xs.length k=some j/\Q (aU H p (.lst (xs.set j v)))
theorem UZ:G3 X UY:=by
 intro pins s σ H o i v ov iv u Q I ro ri rv h;obtain⟨p,xs,k,j,rfl,rfl,hp,hj,q⟩:=h;cases ro;obtain⟨t,rfl⟩:=ri;obtain⟨its,n,r,ho,hz⟩:=I.lst hp;obtain⟨h1,h2,h3,h4⟩:=AZ hj;have hl:=r.length;have hn:=rB;have I':Inv X pins σ (aU H p (.lst (xs.set j v))) { s with heap:=s.heap.update p (pd (·.setIfInBounds j u)) }:=I.lstUpd hp ho (UX its n j u) (r.set rv j) (by rw[kz];exact hz) s.toks
 by_cases h0:0<=k
 ·have hk:k.toNat=j:=by rw[seqIndex_of h0 h4]at h1;exact cq h1
  exact PySem.W.ki_setAt ho h0 (by omega) (by rw[ax,<-hl];exact h4) (by rw[hk];exact⟨_,I',q⟩)
 ·have hk:(k+(its.toArray.size:Int)).toNat=j:=by rw[seqIndex_neg (by omega) h3]at h1;rw[ax,<-hl];exact cq h1
  exact PySem.W.ki_setBack ho (by omega) (by rw[ax,<-hl];exact h3) (by omega) (by rw[hk];exact⟨_,I',q⟩)
theorem VA (lo hi:Option Int) (n:Nat):(sliceBounds lo hi none n).1=((HT.sIx n 0 lo:Nat):Int)/\(sliceBounds lo hi none n).2.1=((HT.sIx n n hi:Nat):Int)/\(sliceBounds lo hi none n).2.2=1:=by
 refine⟨?_, ?_,rfl⟩
 ·cases lo with
  |none=>simp[sliceBounds,HT.sIx]
  |some i=>
   simp only[sliceBounds,HT.sIx,Option.getD_none,show(1:Int)>0 by decide,if_true]
   by_cases h:i<0
   ·simp only[h,if_true] <;> omega
   ·simp only[h,if_false] <;> omega
 ·cases hi with
  |none=>simp[sliceBounds,HT.sIx]
  |some i=>
   simp only[sliceBounds,HT.sIx,Option.getD_none,show(1:Int)>0 by decide,if_true]
   by_cases h:i<0
   ·simp only[h,if_true] <;> omega
   ·simp only[h,if_false] <;> omega
theorem VB (its:List af) (lo hi:Option Int):slicePick its.toArray lo hi none=((its.drop (HT.sIx its.length 0 lo)).take (HT.sIx its.length its.length hi - HT.sIx its.length 0 lo)).toArray:=by obtain⟨h1,h2,h3⟩:=VA lo hi its.toArray.size;unfold slicePick;rw[h1,h2,h3];simp only[sliceRange_one,pick_run,ax] <;> rfl
def VC (K:aq):V->Option Int->Option Int->Hp->VK->Prop:=λx lo hi H Q=>∃a xs,x=.ref a/\Bs K H a xs/\∀p,H p=none->Q (.ref p) (aU H p (.lst (oV xs lo hi)))
theorem VD:SlR X (VC X.K):=by intro pins s σ H x v vl vu lo hi sl Q I rx hs pl pu h;obtain⟨a,xs,rfl,hx,q⟩:=h;cases rx;obtain⟨its,r,ht,hz⟩:=I.list hx;have hlen:=r.length;refine⟨"list",_,slot_list_getitem.lookup,ht.isList.typeIs, ?_⟩;refine wpAny_getItem_list_slice ht.isList hs pl pu .none (by simp) ?_ (by rw[ax] <;> omega);rw[VB,<-hlen];refine⟨.ref s.heap.objs.size,_,I.laid (t':=s.toks) (o:=.lst (oV xs lo hi)) (λb ob q=>ak _ q) (aj _) ?_,rfl,q _ (I.hok.fresh (aj _))⟩;exact⟨dh (HU xs lo hi) hz,_,0,(r.drop (HT.sIx xs.length 0 lo)).take (HT.sIx xs.length xs.length hi - HT.sIx xs.length 0 lo),bf _ rfl⟩
theorem ID:Bc X (.builtin "len") (λxs H Q=>∃p ys,xs=[.ref p]/\(Bs X.K H p ys∨Bk X.K H p ys)/\Q (.int ys.length) H):=by
 intro pins s σ H xs us Q I r h;obtain⟨p,ys,rfl,hq,q⟩:=h;obtain⟨u,rfl,rx⟩:=jD r;cases rx;have hn:=rB
 rcases hq with hq|hq
 ·obtain⟨its,r',pl,hz⟩:=I.list hq;have hlen:=r'.length;exact Calls.call_len_list pl.isList (by simp only[ax] <;> omega) ⟨.int ys.length,H,I.tok _,⟨s.toks+1,by rw[ax,hlen]⟩,q⟩
 ·obtain⟨its,r',pl,hz⟩:=I.tuple hq;have hlen:=r'.length;exact len_tuple pl (by simp only[ax] <;> omega) ⟨.int ys.length,H,I.tok _,⟨s.toks+1,by rw[ax,hlen]⟩,q⟩
theorem VE:Bc X (.type "list") (λxs H Q=>∃p ys,xs=[.ref p]/\(Bs X.K H p ys∨Bk X.K H p ys)/\∀l,H l=none->Q (.ref l) (aU H l (.lst ys))):=by
 intro pins s σ H xs us Q I r h;obtain⟨p,ys,rfl,hq,q⟩:=h;obtain⟨u,rfl,rx⟩:=jD r;cases rx;have fin:∀(its:List af),Az ys its->ys.length<=ck->∀(h':cu) (c':Nat),(∀b o',s.heap.get? b=some o'->h'.get? b=some o')->
   h'.get? s.heap.objs.size=some { cls:=.type "list",dict:=none,data:=.seq its.toArray c',slots:=#[] }->EP X pins σ Q (.ref s.heap.objs.size) { s with heap:=h' }:=λits r' hz h' c' kp e=>
  ⟨.ref s.heap.objs.size,_,I.laid (t':=s.toks) kp (aj _) (show Bb X.prog X.w _ h' _ (.lst ys) from⟨hz,its,c',r',e⟩),rfl,q _ (I.hok.fresh (aj _))⟩
 rcases hq with hq|hq
 ·obtain⟨its,r',pl,hz⟩:=I.list hq;have hlen:=r'.length;obtain⟨o,ho,hc,n,hd⟩:=pl.isList;exact call_list_seq p (.inl rfl) ho hc hd (λh' c' kp e=>fin its r' hz h' c' kp e) (by simp only[ax] <;> omega)
 ·obtain⟨its,r',pl,hz⟩:=I.tuple hq;have hlen:=r'.length;obtain⟨o,ho,hc,n,hd⟩:=pl;exact call_list_seq p (.inr rfl) ho hc hd (λh' c' kp e=>fin its r' hz h' c' kp e) (by simp only[ax] <;> omega)
theorem VF:Bc X (.type "tuple") (λxs H Q=>∃p ys,xs=[.ref p]/\((Bs X.K H p ys/\∀l,H l=none->Q (.ref l) (aU H l (.tup ys)))∨(Bk X.K H p ys/\Q (.ref p) H))):=by
 intro pins s σ H xs us Q I r h;obtain⟨p,ys,rfl,h⟩:=h;obtain⟨u,rfl,rx⟩:=jD r;cases rx
 rcases h with⟨hq,q⟩|⟨hq,q⟩
 ·obtain⟨its,r',pl,hz⟩:=I.list hq;have hlen:=r'.length;refine call_tuple_list pl.isList (λh' kp=>?_) (by simp only[ax] <;> omega);have I1:Inv X pins σ H { s with heap:=h' }:=I.kept (t':=s.toks) kp;have I2:Inv X pins σ (aU H h'.objs.size (.tup ys)) { s with heap:=h'.push { cls:=.type "tuple",data:=.seq its.toArray } }:=I1.laid (t':=s.toks) (λb o e=>ak _ e) (aj _) (show Bb X.prog X.w _ _ _ (.tup ys) from⟨hz,its,r',Bv.new _ _⟩);exact⟨.ref h'.objs.size,_,I2,rfl,q _ (I1.hok.fresh (aj _))⟩
 ·obtain⟨its,r',pl,hz⟩:=I.tuple hq;exact call_tuple_same pl ⟨.ref p,H,I,rfl,q⟩
def wQ (K:aq) (T:String) (x:V) (H:Hp):Prop:=match x with
 | .str _=>T = "str"
 | .int _=>T = "int"
 | .ref p=>(T = "list"/\∃xs,Bs K H p xs)∨(T = "tuple"/\∃o,K.lookup p=some o/\o.cls=.type "tuple"/\o.dict=none) ∨
   (T = "dict"/\((∃kvs,H p=some (.dK kvs))∨∃kvs,H p=some (.dT kvs)))∨(T = "set"/\∃S n,H p=some (.set S n))
 |_=>False
theorem VG {pins:List (ah×Obj)}{σ:St}{H:Hp}{s:ag}{T:String}{x:V}{v:af}(I:Inv X pins σ H s) (r:RelV x v) (ty:wQ X.K T x H):
  s.TypeIs v T/\∀a,v=.ref a->∃ob,s.heap.get? a=some ob/\ob.dict=none:=by
 cases x with
 |str z=>
  obtain⟨t,rfl⟩:=r
  cases (show T = "str" from ty)
  exact⟨typeIs_str s z t,λ_ e=>nomatch e⟩
 |int i=>
  obtain⟨t,rfl⟩:=r
  cases (show T = "int" from ty)
  exact⟨typeIs_int s i t,λ_ e=>nomatch e⟩
 |ref p=>
  cases r
  rcases ty with⟨rfl,xs,hq⟩|⟨rfl,o,hk,hc,hd⟩|⟨rfl,hk⟩|⟨rfl,S,n,hk⟩
  ·obtain⟨its,_,pl,_⟩:=I.list hq;refine⟨pl.isList.typeIs,λa e=>?_⟩;cases e;obtain⟨o,n,e,c,hd,_⟩:=pl;exact⟨o,e,hd⟩
  ·refine⟨⟨o,I.kIn p o hk,hc⟩,λa e=>?_⟩;cases e;exact⟨o,I.kIn _ o hk,hd⟩
  ·have z:∃o,s.heap.get? p=some o/\o.ExactDict:=by
    rcases hk with⟨kvs,hk⟩|⟨kvs,hk⟩
    ·obtain⟨_,_,_,_,o,_,_,e,ex,_⟩:=I.hok p _ hk;exact⟨o,e,ex⟩
    ·obtain⟨_,_,_,_,o,_,_,e,ex,_⟩:=I.hok p _ hk;exact⟨o,e,ex⟩
   obtain⟨o,e,ex⟩:=z;refine⟨⟨o,e,ex.1⟩,λa e2=>?_⟩;cases e2;exact⟨o,e,ex.2.1⟩
  ·obtain⟨o,_,_,_,e,ex,_⟩:=I.hok p _ hk;refine⟨⟨o,e,ex.1⟩,λa e2=>?_⟩;cases e2;exact⟨o,e,ex.2.1⟩
 |_=>exact gz ty
def VH (K:aq) (T:String) (r:V->Ge->Hp->VK->Prop) (to:TE) (t:TA):TE:=λσ H Q=>to σ H λx H1=>wQ K T x H1/\t σ H1 λxs H2=>r x xs H2 Q
variable{o e:bj}{es:List bj}{to:TE}{t:TA}{name:Str}{apos cpos:Pos}{T id:String}{r:V->Ge->Hp->VK->Prop}
theorem A4 (pa:PlainAttrs T) (slot:Slot T name id) (hty:typeOf (.builtin id)=pure (.type "method_descriptor")) (hm:A2 X id r) (ho:PE X o to) (ha:PA X (e::es) t)
  (hbase:attributeBase o name X.env (eval o X.env)=eval o X.env:=by rfl)
  (hfew:((backTo cpos (ar (e::es) X.env)).all (λx=>!x.1)&&(backToKw cpos (keywordEach [] X.env)).all (λx=>x.1.isSome)
   && decide ((e::es).length+([]:List Keyword).length+(if([]:List Keyword).isEmpty then 0 else 1)<30))=true:=by rfl)
  (hline:(apos.endLine==cpos.line)=true:=by rfl) (hs:ar (e::es) X.env=(false,eval e X.env)::ar es X.env:=by rfl) (hplain:(backTo cpos (ar es X.env)).any (·.1)=false:=by rfl):
  PE X (.Call (.Attribute o name apos) (e::es) [] cpos) (VH X.K T r to t):=by
 intro pins s σ H Q I h;refine wpAny_Call_method_late hbase hfew hline rfl (aZ (ho pins s σ H _ I h) λv s1 ⟨x,H1,I1,r1,ty,q1⟩=>?_);obtain⟨h1,h2⟩:=VG I1 r1 ty;refine⟨T,id,pa,slot,hty,h1,h2, ?_⟩;have hA:=ha cpos pins s1 σ H1 _ I1 q1;rw[hs]at hA ⊢;refine yq (by show(false||(backTo cpos (ar es X.env)).any (·.1))=false;rw[hplain] <;> rfl) (uh ?_);exact aZ hA λus s2 ⟨vs,H2,I2,r2,q2⟩=>hm pins s2 σ H2 x vs v us Q I2 r1 r2 q2
end
def A5 (X:Cx) (id:String) (r:V->Ge->Hp->VK->Prop):Prop:=
 ∀(pins:List (ah×Obj)) (s:ag) (σ:St) (H:Hp) (x:V) (xs:Ge) (v:af) (us:List af) (Q:VK),Inv X pins σ H s->RelV x v->Az xs us->r x xs H Q->
  wpAny (model X.prog X.w) X.A (call (.builtin id) (v::us)) (EP X pins σ Q) X.xe s
theorem Az.one:∀{x:V}{us:List af},Az [x] us->∃u,us=[u]/\RelV x u
 |_,_,.cons r .nil=>⟨_,rfl,r⟩
theorem Az.eraseIdx:∀{xs:Ge}{us:List af}(i:Nat),Az xs us->Az (xs.eraseIdx i) (us.eraseIdx i)
 |_,_,_,.nil=>.nil
 |_,_,0,.cons _ t=>t
 |_,_,i+1,.cons r t=>.cons r (Az.eraseIdx i t)
theorem IE {α:Type}:∀(l:List α) (i:Nat),(l.eraseIdx i).length<=l.length
 | [],_=>aj _
 |_::_,0=>Nat.le_succ _
 |_::r,i+1=>Nat.succ_le_succ (IE r i)
section
variable{X:Cx}{pins:List (ah×Obj)}{σ:St}{H:Hp}{s:ag}{l b:ah}{xs ys zs:Ge}
theorem Inv.lset {its its':List af}{n:Nat}{f:Array af->Array af}{t':Nat}(I:Inv X pins σ H s) (hH:H l=some (.lst xs))
  (e:s.heap.get? l=some { cls:=.type "list",data:=.seq its.toArray n }) (hf:f its.toArray=its'.toArray) (hv:Az ys its') (hz:ys.length<=ck):
  Inv X pins σ (aU H l (.lst ys)) { s with heap:=s.heap.update l (pd f),toks:=t' }:=by
 have q:=zf e f;rw[hf]at q;refine I.write (x:=l) (e:=l) (by rw[hH];exact trivial) (.inl rfl) (λb' u hb hu=>(nu s.heap (pd f) (cx hb)).trans hu) ⟨_,q⟩ ?_;exact⟨hz,its',_,hv,q⟩
theorem Inv.lnew {its:List af}{t':Nat}(I:Inv X pins σ H s) (hv:Az ys its) (hz:ys.length<=ck):
  Inv X pins σ (aU H s.heap.objs.size (.lst ys)) { s with heap:=s.heap.push { cls:=.type "list",data:=.seq its.toArray },toks:=t' }:=
 I.laid (λ_ _ q=>ak _ q) (aj _) ⟨hz,its,0,hv,bf _ rfl⟩
theorem Inv.fresh (I:Inv X pins σ H s):H s.heap.objs.size=none:=I.hok.fresh (aj _)
theorem Inv.lstM (I:Inv X pins σ H s) (hH:H l=some (.lst xs)):xs.length<=ck/\∃(its:List af) (n:Nat),Az xs its/\xs.length=its.length/\s.heap.get? l=some { cls:=.type "list",data:=.seq its.toArray n }:=by obtain⟨z,its,n,r,e⟩:=I.hok l _ hH;exact⟨z,its,n,r,r.length,e⟩
theorem VI {n:Nat}(h:n<=ck):ph n=false:=by unfold ph;exact decide_eq_false (by omega)
end
section
variable{X:Cx}
def VJ:V->Ge->Hp->VK->Prop:=λx vs H Q=>∃l xs y,x=.ref l/\vs=[y]/\H l=some (.lst xs)/\xs.length<ck/\Q .non (aU H l (.lst (xs++[y])))
theorem VL:A5 X "list.append" VJ:=by intro pins s σ H x vs v us Q I rx rv h;obtain⟨l,xs,y,rfl,rfl,hH,hz,q⟩:=h;cases rx;obtain⟨u,rfl,ru⟩:=rv.one;obtain⟨z,its,n,r,hl,e⟩:=I.lstM hH;refine zg F.slot_list_append ⟨_,e,rfl⟩ F.entry_list_append (F.args_list_append_2 _ _) (PySem.list_append l its.toArray n u (by rw[ax];omega)) ⟨e, ?_⟩;refine⟨.non,_,I.lset (its':=its++[u]) hH e (by simp) (r.append (.cons ru .nil)) ?_,rfl,q⟩;rw[bq,uf];omega
def VM:V->Ge->Hp->VK->Prop:=λx vs H Q=>∃l b xs zs,x=.ref l/\vs=[.ref b]/\H l=some (.lst xs)/\H b=some (.lst zs)/\xs.length+zs.length<=ck/\Q .non (aU H l (.lst (xs++zs)))
theorem VN:A5 X "list.extend" VM:=by
 intro pins s σ H x vs v us Q I rx rv h;obtain⟨l,b,xs,zs,rfl,rfl,hH,hB,hz,q⟩:=h;cases rx;obtain⟨u,rfl,ru⟩:=rv.one;cases ru;obtain⟨z,its,n,r,hl,e⟩:=I.lstM hH;obtain⟨z2,Ci,n2,r2,hl2,e2⟩:=I.lstM hB;have Cd:its.toArray.size+Ci.toArray.size<=ck:=by rw[ax,ax];omega
 have hlong:¬ (!its.toArray.isEmpty&&ph (its.toArray.size+Ci.toArray.size))=true:=by rw[VI Cd,qh];exact iw
 refine zg F.slot_list_extend ⟨_,e,rfl⟩ F.entry_list_extend (F.args_list_extend_2 _ _)
  (AutoSeq1.list_extend_list_list_0 l its.toArray n b Ci.toArray n2 hlong (by rw[ax];omega) (by omega)) ⟨e,e2, ?_⟩
 refine⟨.non,_,I.lset (its':=its++Ci) hH e (by simp) (r.append r2) ?_,rfl,q⟩;rw[bq];omega
def VO:V->Ge->Hp->VK->Prop:=λx vs H Q=>∃l xs i k y,x=.ref l/\vs=[.int i]/\H l=some (.lst xs)/\-(2 ^ 63)<=i/\i<2 ^ 63/\seqIndex? i xs.length=some k/\xs[k]?=some y/\Q y (aU H l (.lst (xs.eraseIdx k)))
theorem VP:A5 X "list.pop" VO:=by
 intro pins s σ H x vs v us Q I rx rv h;obtain⟨l,xs,i,k,y,rfl,rfl,hH,h1,h2,hk,hy,q⟩:=h;cases rx;obtain⟨u,rfl,ru⟩:=rv.one;obtain⟨t,rfl⟩:=ru;obtain⟨z,its,n,r,hl,e⟩:=I.lstM hH;obtain⟨w,hw,rw'⟩:=r.get hy;refine zg F.slot_list_pop ⟨_,e,rfl⟩ F.entry_list_pop (F.args_list_pop_2 _ _)
  (MeetsSeq.list_pop_at l its.toArray n i t k w (fitsIndex_both h1 h2) (by rw[ax,<-hl];exact hk) (by rw[<-om];exact hw) (by rw[ax];omega)) ⟨e, ?_⟩
 refine⟨y,_,I.lset (its':=its.eraseIdx k) hH e ?_ (r.eraseIdx k) ?_,rw',q⟩
 ·show its.toArray.eraseIdxIfInBounds k=(its.eraseIdx k).toArray;rw[List.eraseIdxIfInBounds_toArray]
 ·have:=IE xs k;omega
def IF:R2:=λx y H Q=>∃l b xs zs,x=.ref l/\y=.ref b/\H l=some (.lst xs)/\H b=some (.lst zs)/\xs.length+zs.length<=ck/\∀p,H p=none->Q (.ref p) (aU H p (.lst (xs++zs)))
theorem op_cat:Bp X (binaryOp .Add) IF:=by
 intro pins s σ H x y v u Q I rx ry h;obtain⟨l,b,xs,zs,rfl,rfl,hH,hB,hz,q⟩:=h;cases rx;cases ry;obtain⟨z,its,n,r,hl,e⟩:=I.lstM hH;obtain⟨z2,Ci,n2,r2,hl2,e2⟩:=I.lstM hB;refine PySem.P.add_list e e2 ?_ (by rw[ax,ax];omega);have ea:its.toArray++Ci.toArray=(its++Ci).toArray:=by simp
 rw[ea];exact⟨.ref _,_,I.lnew (t':=s.toks) (r.append r2) (by rw[bq];omega),rfl,q _ I.fresh⟩
end
section
variable{prog:bh}{w:cm}{A:bu}{E:af->ag->Prop}{s:ag}
set_option maxRecDepth 100000 in
end
section
variable{X:Cx}
end
end L2
namespace Att
open PySem PySem.W PySem.Calls PyProof.Rows
theorem VQ {P:Params}{h:cu}:∀(ns:Ah) (vs:List af),WellAll P h vs (ns.map WData.int)->ll vs ns:=by
 intro ns
 induction ns with
 |nil=>intro vs w;rw[List.map_nil]at w;cases w;exact .nil
 |cons n ns ih=>
  intro vs w;rw[dk]at w
  cases w with
  |cons a b=>cases a;exact .cons _ _ (ih _ b)
theorem VR {l:OpenLaw}{n:Nat}(hn:l.most=some n) {P:Params}{h:cu}{args:List WData}{vals:List af}
  (hpre:l.row.toRowW.claim.pre args=true) (hwl:WellAll P h vals args):
  ∃a vs ns,vals=[ib a]/\args=[WData.list (ns.map WData.int)]/\h.get? a=some { cls:=.type "list",data:=.seq vs.toArray }/\ll vs ns/\ns.length<=n:=by
 have hsh:WShape.hasAll [] args [.list .int]=true:=(pre_splitW hpre).1;have hc:l.pre.holds [] { args:=args }=true:=(pre_splitW hpre).2;obtain⟨d,r,rfl,h1,h2⟩:=hasAllW_cons hsh;obtain rfl:=hasAllW_nil h2;obtain⟨xs,rfl,h3⟩:=hasW_list h1;obtain⟨ns,rfl⟩:=items_int h3;have hlen:ns.length<=n:=by
  unfold OpenLaw.pre at hc;have h4:(WTm.not (.lt (.lit (.int (n:Int))) (.len (.arg 0)))).holds [] { args:=[.list (ns.map .int)] }=true:=by have h4:=(holds_andW hc).1;rw[hn]at h4;exact h4
  have h5:=condW_of h4 (w_not (w_lt w_lit (w_len_list (w_arg rfl))));rw[bc]at h5;refine wq λq=>?_;have q':(n:Int)<((ns.length:Nat):Int):=by omega
  first
   |(rw[decide_eq_true q']at h5;exact absurd h5 (by decide))
   |(simp at h5;omega)
 cases hwl with
 |cons w1 w2=>
  cases w2
  cases w1 with
  |list ho Bz=>exact⟨_,_,ns,rfl,rfl,ho,VQ ns _ Bz,hlen⟩
theorem VS (l:OpenLaw) (args:List WData):l.row.toRowW.claim.post args (.bool true) args=true:=
 postW_of (r:=l.row.toRowW) (X:=(true==true))
  (show WShape.has [] (.bool true) .bool=true by first|rfl|decide|simp[WShape.has,WShape.arms,WShape.armsAll])
  (show(WTm.eq .res (.lit (.bool true))).value [] { args:=args,res:=some (.bool true),after:=args }=some (.bool (true==true)) from w_eq_bool (w_res rfl) w_lit) rfl
theorem attach_call {l:OpenLaw}{n:Nat}{q:bh}{loose:Aj}{XP:(Str->Option af)->cu->Prop}{YP:cm->cu->Prop}{d:DefRec}
  (hn:l.most=some n) (hdf:d.params.defaults=[])
  (call:∀(w:cm) (s₀ s₁:ag) (mg mb:Str->Option af) (fa:ah) (o:Obj) (pm cd doc:af) (a:ah) (vs:List af) (ns:Ah),
   Ground q loose [] XP w s₀ mg mb s₁.heap->YP w s₁.heap->
   s₁.heap.get? fa=some o->o.data=.func (docDef d.name d.params d.body d.scope pm cd doc)->s₁.heap.CodeRec cd d.name->mg d.name=some (.ref fa)->
   s₁.heap.get? a=some { cls:=.type "list",data:=.seq vs.toArray }->ll vs ns->ns.length<=n->s₁.gens=#[]->
   codeAny (model l.prog w) callerA (.call (.ref fa) ⟨[.ref a],[]⟩) (λr s'=>r=.ok (.ret (.bool true))/\OldK s₁.heap s'.heap/\s'.os=s₁.os/\tq s'.gens) s₁):
  WalkO q loose XP YP l.row.toRowW d [] (λf vs=>Aa f vs):=by
 intro w s₀ s₁ mg mb G Y fa o pm cd doc dV kV ho hd hcd hD hmg hg args vals as hpre hlay hrd hwl hlo;obtain rfl:dV=.none:=Dflts.none hD hdf;obtain rfl:kV=.none:=Dflts.noKw hD;obtain⟨a,vs,ns,rfl,rfl,hobj,hints,hlen⟩:=VR hn hpre hwl;refine enter_call (oz (call w s₀ s₁ mg mb fa o pm cd doc a vs ns G Y ho (fd_plain hd) hcd hmg hobj hints hlen hg) λr s' hq=>?_);obtain⟨rfl,h2,h3,h4⟩:=hq;exact⟨.inl ⟨.bool true,.bool true,[],rfl,λ_=>rfl,.bool true,VS l _,λ_=>⟨xq,λ_ hm=>(nomatch hm)⟩⟩,h2,h3,h4⟩
section
variable{prog:bh}{w:cm}{A:bu}{E:af->ag->Prop}{s:ag}{K:Frag}
end
end Att
namespace L2
theorem IG:∀{vs:List af}{ns:Ah},ll vs ns->Az (ns.map Fm) vs
 |_,_,.nil=>.nil
 |_,_,.cons n t h=>.cons ⟨t,rfl⟩ (IG h)
def oW (s:gw):mm:=match s with
 | .FunctionDef _ a _ _ _ _ _ _ _ _=>a
 |_=>{ posonlyargs:=[],args:=[],vararg:=none,kwonlyargs:=[],kw_defaults:=[],kwarg:=none,defaults:=[] }
def jN (s:gw):List gw:=match s with
 | .FunctionDef _ _ b _ _ _ _ _ _ _=>b
 |_=>[]
def aX (s:gw):gu:=match s with
 | .FunctionDef _ _ _ _ _ _ sc _ _ _=>sc
 |_=>{ kind:=.function,names:=[],isGenerator:=false,isCoroutine:=false }
abbrev E0:XK:=λ_ _ _=>False
structure Bx (K:aq) (x qual:Str) (st:gw) (f:ah) (fd:bo):Prop where
 ex:∃(oc:af) (od:Option ah) (kV doc pm:af) (an:Option ah) (cdv ct:af) (osl:Array (Option af)),
  fd=pg x qual (oW st) (jN st) (aX st) .none kV doc pm an cdv ct/\K.lookup f=some ⟨oc,od,.func fd,osl⟩/\wm K cdv qual=true
 kp:lj K (.ref f)=true
section
variable{P:bh}{w:cm}{K:aq}{mg:Str->Option af}{base:cu}
theorem Bx.binds {x qual:Str}{st:gw}{f:ah}{fd:bo}{ps:Aj}(F:Bx K x qual st f fd)
  (h:∀(kV doc pm:af) (an:Option ah) (cdv ct:af) (us:List af),us.length=ps.length->bindArgs (pg x qual (oW st) (jN st) (aX st) .none kV doc pm an cdv ct) ⟨us,[]⟩=pure (ps.zip us)):Binds K fd ps []:=by
 obtain⟨oc,od,kV,doc,pm,an,cdv,ct,osl,rfl,lk,hcd⟩:=F.ex;exact .all (h kV doc pm an cdv ct)
theorem IH {x qual:Str}{st:gw}{f:ah}{oc:af}{od an:Option ah}{osl:Array (Option af)}{kV doc pm cdv ct:af}(l:K.lookup f=some ⟨oc,od,.func (pg x qual (oW st) (jN st) (aX st) .none kV doc pm an cdv ct),osl⟩)
  (c:wm K cdv qual=true) (k:lj K (.ref f)=true):Bx K x qual st f (pg x qual (oW st) (jN st) (aX st) .none kV doc pm an cdv ct):=⟨⟨oc,od,kV,doc,pm,an,cdv,ct,osl,rfl,l,c⟩,k⟩
end
section
variable{X:Cx}
end
theorem II {A B:Prop}(h:B):if false=true then A else B:=by rw[if_neg iw];exact h
theorem IJ {A B:Prop}(h:A):if true=true then A else B:=by rw[if_pos rfl];exact h
def Cj (H H':Hp):Prop:=∀b o,H b=some o->H' b=some o
theorem Cj.refl (H:Hp):Cj H H:=λ_ _ h=>h
theorem wR {β:Type}(x y:Str) (c:β) (acc:List (Str×β)):((y,c)::acc).lookup x=if x=y then some c else acc.lookup x:=by
 rw[ij]
 by_cases e:x=y
 ·have hb:(x==y)=true:=beq_iff_eq.mpr e;rw[hb,if_pos e]
 ·have hb:(x==y)=false:=beq_eq_false_iff_ne.mpr e;rw[hb,if_neg e]
def dJ (env:Env):List (Str×kr)->List (Str×ah)->List (Str×ah)
 | [],acc=>acc
 |(x,k)::r,acc=>dJ env r (if k==.free then(x,(env.cells.lookup x).getD 0)::acc else acc)
theorem A6 {env:Env}:∀(l:List (Str×kr)) (acc:List (Str×ah)),(∀x,(x,bz)∈l->∃c,env.cells.lookup x=some c)->
  (forIn l acc (λ(x:Str×kr) (r:List (Str×ah))=>match x with
   |(name,kind)=>if(kind==bz)=true then(do let a <-cellOf env name;pure (rp ((name,a)::r)))else(pure (rp r):Sem (ForInStep (List (Str×ah))))))=(pure (dJ env l acc):Sem (List (Str×ah)))
 | [],acc,_=>rfl
 |(x,k)::l,acc,h=>by
  rw[pj];dsimp only
  cases hk:k==bz with
  |true=>
   have e:k=.free:=by cases k <;> first|rfl|cases hk
   subst e;obtain⟨c,hc⟩:=h x (ay ..);rw[if_pos rfl,show dJ env ((x,bz)::l) acc=dJ env l ((x,c)::acc)by rw[dJ,if_pos hk,hc];rfl,<-A6 l ((x,c)::acc) λy hy=>h y (ao _ hy)];unfold cellOf;rw[hc];rfl
  |false=>rw[if_neg (by simp),show dJ env ((x,k)::l) acc=dJ env l acc by rw[dJ,hk];rfl,<-A6 l acc λy hy=>h y (ao _ hy)];rfl
theorem A7 {env:Env}{scope:gu}(h:∀x,(x,bz)∈scope.names->∃c,env.cells.lookup x=some c):closureFor scope env=pure (dJ env scope.names []):=by unfold closureFor;have:=A6 (env:=env) scope.names [] h;show(forIn scope.names [] _ >>= λcs=>pure cs)=_;exact(congrArg (λ(m:Sem (List (Str×ah)))=>m >>= λcs=>pure cs) this)
theorem tF {env:Env}{x:Str}:∀(l:List (Str×kr)) (acc:List (Str×ah)),((x,bz)∈l∨acc.lookup x=some ((env.cells.lookup x).getD 0))->(dJ env l acc).lookup x=some ((env.cells.lookup x).getD 0)
 | [],acc,h=>h.elim (λz=>nomatch z) id
 |(y,k)::l,acc,h=>by
  rw[dJ]
  cases hk:k==bz with
  |true=>
   refine tF l _ ?_;rw[if_pos rfl]
   by_cases e:x=y
   ·subst e;right;rw[wR,if_pos rfl]
   ·rcases h with h|h
    ·rcases ba.mp h with h|h
     ·cases h;exact absurd rfl e
     ·exact .inl h
    ·right;rw[wR,if_neg e];exact h
  |false=>
   refine tF l _ ?_
   rcases h with h|h
   ·rcases ba.mp h with h|h
    ·cases h;simp at hk
    ·exact .inl h
   ·exact .inr h
structure BlkCells (h h':cu) (names:List (Str×kr)) (acc cs:List (Str×ah)):Prop where
 cases:∀x c,cs.lookup x=some c->acc.lookup x=some c∨(h.objs.size<=c/\h'.IsCell c none/\(x,dv)∈names)
 own:∀x,(x,dv)∈names->∃c,cs.lookup x=some c
 old:∀x,(x,dv)∉names->cs.lookup x=acc.lookup x
 inj:(∀x y c,acc.lookup x=some c->acc.lookup y=some c->x=y)->(∀x c,acc.lookup x=some c->c<h.objs.size)->∀x y c,cs.lookup x=some c->cs.lookup y=some c->x=y
theorem tG:∀(names:List (Str×kr)) (h:cu) (acc:List (Str×ah)),BlkCells h (pushCells h names) names acc (cellsFrom h.objs.size names acc)
 | [],h,acc=>{ cases:=λ_ _ e=>.inl e,own:=λ_ z=>(nomatch z),old:=λ_ _=>rfl,inj:=λa _=>a }
 |(y,k)::r,h,acc=>by
  cases hk:k==dv with
  |true=>
   have ek:k=.cell:=by cases k <;> first|rfl|cases hk
   subst ek;have ih:=tG r (h.push { cls:=.type "cell",data:=.cell none }) ((y,h.objs.size)::acc);have e1:pushCells h ((y,dv)::r)=pushCells (h.push { cls:=.type "cell",data:=.cell none }) r:=rfl;have e2:cellsFrom h.objs.size ((y,dv)::r) acc=cellsFrom (h.push { cls:=.type "cell",data:=.cell none }).objs.size r ((y,h.objs.size)::acc):=by rw[cw];rfl
   rw[e1,e2];have look:∀x,((y,h.objs.size)::acc).lookup x=if x=y then some h.objs.size else acc.lookup x:=λx=>wR ..
   refine⟨λx c e=>?_,λx hx=>?_,λx hx=>?_,λh1 h2 x z c ex ez=>?_⟩
   ·rcases ih.cases x c e with q|⟨q1,q2,q3⟩
    ·rw[look]at q
     by_cases exy:x=y
     ·rw[if_pos exy]at q;cases q;refine .inr ⟨aj _,⟨_,qo r _ _ _ (bf _ rfl),rfl⟩,by rw[exy];exact ay ..⟩
     ·rw[if_neg exy]at q;exact .inl q
    ·rw[cw]at q1;exact .inr ⟨Nat.le_of_succ_le q1,q2,ao _ q3⟩
   ·by_cases hr:(x,dv)∈r
    ·exact ih.own x hr
    ·rw[ih.old x hr,look]
     rcases ba.mp hx with z|z
     ·cases z;exact⟨_,if_pos rfl⟩
     ·exact absurd z hr
   ·rw[ih.old x λz=>hx (ao _ z),look,if_neg]
    rintro rfl
    exact hx (ay ..)
   ·refine ih.inj ?_ ?_ x z c ex ez
    ·intro a b c ea eb;rw[look]at ea eb
     by_cases qa:a=y
     ·rw[if_pos qa]at ea;cases ea
      by_cases qb:b=y
      ·exact qa.trans qb.symm
      ·rw[if_neg qb]at eb;exact absurd (h2 b _ eb) (gv _)
     ·rw[if_neg qa]at ea
      by_cases qb:b=y
      ·rw[if_pos qb]at eb;cases eb;exact absurd (h2 a _ ea) (gv _)
      ·rw[if_neg qb]at eb;exact h1 a b c ea eb
    ·intro a c ea;rw[cw];rw[look]at ea
     by_cases qa:a=y
     ·rw[if_pos qa]at ea;cases ea;exact jt _
     ·rw[if_neg qa]at ea;exact jk (h2 a c ea)
  |false=>
   have ih:=tG r h acc;have e1:pushCells h ((y,k)::r)=pushCells h r:=by rw[pushCells,hk];rfl
   have e2:cellsFrom h.objs.size ((y,k)::r) acc=cellsFrom h.objs.size r acc:=by rw[cellsFrom,hk];rfl
   rw[e1,e2];have nk:∀x,(x,dv)∈(y,k)::r->(x,dv)∈r:=λx z=>by
    rcases ba.mp z with z|z
    ·cases z;simp at hk
    ·exact z
   exact⟨λx c e=>(ih.cases x c e).imp id λ⟨a,b,c⟩=>⟨a,b,ao _ c⟩,λx hx=>ih.own x (nk x hx),λx hx=>ih.old x λz=>hx (ao _ z),ih.inj⟩
def IK (scope:gu) (env:Env) (L:ah):Env:={ scope:=relabel scope env,locals:=L,globals:=env.globals,cells:=cellsFrom (L+1) scope.names (dJ env scope.names []),qual:=env.qual,func:=none,code:=env.code,frame:=env.frame,builtins:=env.builtins }
theorem VT {M:xc}{A:bu}{E:af->ag->Prop}{s:ag}{scope:gu}{env:Env}{cl:List (Str×ah)}{qual:Str}{g:ah}{Q:Env->ag->Prop}
  (h:Q { scope:=scope,locals:=s.heap.objs.size,globals:=g,cells:=cellsFrom (s.heap.objs.size+1) scope.names cl,qual:=qual,func:=none,code:=env.code,frame:=env.frame,builtins:=env.builtins }
   { s with heap:=pushCells (s.heap.push { cls:=.type "dict",data:=.dict #[] }) scope.names }):
  wpAny M A (newFunctionEnv scope g cl [] qual none .none (some env)) Q E s:=by
 simp only[newFunctionEnv,Option.isSome_some,if_true];refine aa (wpAny_alloc ?_);refine aa (wpAny_layCells _ (λname kind cells=>by cases hkc:kind==dv <;> simp[hkc]) _ _ _ _ ?_);rw[show({ s with heap:=s.heap.push { cls:=.type "dict",data:=.dict #[] } }:ag).heap.objs.size=s.heap.objs.size+1 from cw ..];exact aa (ai (ai h))
def dM (X:Cx) (scope:gu) (N:Aj) (s:ag) (H:Hp) (ex:List ah):Cx:={ X with N:=N,s₀:=s,H₀:=H,env:=IK scope X.env s.heap.objs.size,outer:=X.stack,stack:=X.stack,ex:=ex,fn:=λx=>scope.names.lookup x==some .cell,xe:=λ_ _=>False }
def rD (cap:List (Option Nat)) (σ:St):St:=cap.map λo=>match o with|some j=>(σ[j]?).getD none|none=>none
structure Ca (X:Cx) (scope:gu) (N:Aj) (cap:List (Option Nat)):Prop where
 kind:scope.kind=.function
 nd:∀x∈scope.names,x.2=.local->scope.names.lookup x.1=some .local
 len:cap.length=N.length
 free:∀x,(x,bz)∈scope.names->X.env.kindOf x=some .cell∨X.env.kindOf x=some .free
 apart:∀x,(x,bz)∈scope.names->(x,dv)∉scope.names
 cap:∀(i j:Nat) (x:Str),cap[i]?=some (some j)->N[i]?=some x->X.N[j]?=some x/\(x,bz)∈scope.names/\(relabel scope X.env).names.lookup x≠some .local
theorem A8 {scope:gu}{env:Env}{x:Str}:∀{l:List (Str×kr)}{k:kr},(l.map λ(n,k)=>if(k==bz&&env.scope.kind==.function&&env.kindOf n==some .cell)then(n,dv)else(n,k)).lookup x=some k->
  (x,k)∈l∨(k=.cell/\(x,bz)∈l)
 | [],_,h=>by simp at h
 |(n,q)::r,k,h=>by
  have ih:=@A8 scope env x r k;rw[dk]at h
  by_cases hc:(q==bz&&env.scope.kind==.function&&env.kindOf n==some .cell)=true
  ·have hq:q=.free:=by
    have:(q==bz)=true:=by
     cases z:q==bz with
     |true=>rfl
     |false=>rw[z]at hc;simp at hc
    cases q <;> first|rfl|cases this
   dsimp only at h;rw[if_pos hc,ij]at h
   cases e:x==n with
   |true=>rw[e]at h;have h':dv=k:=cq h;subst h';have ex:=beq_iff_eq.mp e;subst ex;subst hq;exact .inr ⟨rfl,ay ..⟩
   |false=>rw[e]at h;exact(ih h).imp (ao _) λ⟨a,b⟩=>⟨a,ao _ b⟩
  ·dsimp only at h;rw[if_neg hc,ij]at h
   cases e:x==n with
   |true=>rw[e]at h;have h':q=k:=cq h;subst h';have ex:=beq_iff_eq.mp e;subst ex;exact .inl (ay ..)
   |false=>rw[e]at h;exact(ih h).imp (ao _) λ⟨a,b⟩=>⟨a,ao _ b⟩
theorem wU {env:Env}{x:Str}{c:ah}:∀(l:List (Str×kr)) (acc:List (Str×ah)),(dJ env l acc).lookup x=some c->acc.lookup x=some c∨((x,bz)∈l/\c=(env.cells.lookup x).getD 0)
 | [],acc,h=>.inl h
 |(y,k)::l,acc,h=>by
  rw[dJ]at h
  cases hk:k==bz with
  |true=>
   have ek:k=.free:=by cases k <;> first|rfl|cases hk
   subst ek;rw[if_pos hk]at h
   rcases wU l _ h with q|⟨q1,q2⟩
   ·rw[wR]at q
    by_cases e:x=y
    ·rw[if_pos e]at q;subst e;exact .inr ⟨ay ..,(cq q).symm⟩
    ·rw[if_neg e]at q;exact .inl q
   ·exact .inr ⟨ao _ q1,q2⟩
  |false=>rw[if_neg (by rw[hk];exact iw)]at h;exact(wU l _ h).imp id λ⟨a,b⟩=>⟨ao _ a,b⟩
section
variable{X:Cx}{pins:List (ah×Obj)}{σ:St}{H:Hp}{s:ag}{scope:gu}{N:Aj}{cap:List (Option Nat)}{ex:List ah}
theorem wV (I:Inv X pins σ H s) (C:Ca X scope N cap) {x:Str}{c:ah}(e:(dJ X.env scope.names []).lookup x=some c):(x,bz)∈scope.names/\X.env.cells.lookup x=some c:=by
 rcases wU _ _ e with q|⟨q1,q2⟩
 ·cases q
 ·obtain⟨c',h'⟩:=I.ok.has x (C.free x q1);rw[h']at q2;subst q2;exact⟨q1,h'⟩
theorem wW (I:Inv X pins σ H s) (C:Ca X scope N cap) {x:Str}{c:ah}(e:(IK scope X.env s.heap.objs.size).cells.lookup x=some c):
  (X.env.cells.lookup x=some c/\(x,bz)∈scope.names)∨(s.heap.objs.size<c/\(pushCells (s.heap.push { cls:=.type "dict",data:=.dict #[] }) scope.names).IsCell c none/\(x,dv)∈scope.names):=by
 have B:=tG scope.names (s.heap.push { cls:=.type "dict",data:=.dict #[] }) (dJ X.env scope.names []);rw[cw]at B
 rcases B.cases x c e with q|⟨q1,q2,q3⟩
 ·obtain⟨a,b⟩:=wV I C q;exact .inl ⟨b,a⟩
 ·rw[cw]at q1;exact .inr ⟨q1,q2,q3⟩
theorem IL (I:Inv X pins σ H s) (C:Ca X scope N cap) (hex:∀b∈ex,dN X pins H b/\b<s.heap.objs.size):(dM X scope N s H ex).Ok:=by
 have B:=tG scope.names (s.heap.push { cls:=.type "dict",data:=.dict #[] }) (dJ X.env scope.names []);rw[cw]at B;have kf:∀x,(x,bz)∈scope.names->∃c,X.env.cells.lookup x=some c:=λx hx=>I.ok.has x (C.free x hx);refine⟨I.ok.mod,C.kind,I.ok.glob,I.ok.blt,aj _, ?_, ?_, ?_,I.ok.hd,I.ok.frames,.inl rfl, ?_,I.bs,dh I.ok.bsz I.sz, ?_, ?_,I.stack,I.stkFree⟩
 ·refine B.inj (λx y c e1 e2=>?_) λx c e=>?_
  ·exact I.ok.inj x y c (wV I C e1).2 (wV I C e2).2
  ·obtain⟨v,q⟩:=I.cell x c (wV I C e).2;rw[cw];exact jk q.lt
 ·intro x hx;have hx':(relabel scope X.env).names.lookup x=some .cell∨(relabel scope X.env).names.lookup x=some .free:=hx;have mem:(x,dv)∈scope.names∨(x,bz)∈scope.names:=by
   rcases hx' with h|h
   ·rcases A8 (scope:=scope) h with q|⟨_,q⟩
    ·exact .inl q
    ·exact .inr q
   ·rcases A8 (scope:=scope) h with q|⟨z,q⟩
    ·exact .inr q
    ·exact .inr q
  by_cases hc:(x,dv)∈scope.names
  ·exact B.own x hc
  ·rcases mem with h|h
   ·exact absurd h hc
   ·exact⟨_,(B.old x hc).trans (tF _ _ (.inl h))⟩
 ·intro x c hf e;have hf':(scope.names.lookup x==some .cell)=true:=hf;have hm:(x,dv)∈scope.names:=fh (eq_of_beq hf')
  rcases wW I C e with⟨_,q⟩|⟨q,_⟩
  ·exact absurd hm (C.apart x q)
  ·exact gy q
 ·intro b hb;obtain⟨⟨f0,f1,f2,f3,f4,f5⟩,hlt⟩:=hex b hb;refine⟨bg hlt,λx c e z=>?_⟩
  rcases wW I C e with⟨q,_⟩|⟨q,_⟩
  ·exact f4 x c q z
  ·subst z;exact gv _ (Nat.lt_trans q hlt)
 ·intro b o e hb;obtain⟨⟨f0,f1,f2,f3,f4,f5⟩,hlt⟩:=hex b hb
  rcases f3 with q|q
  ·exact I.ok.noex b o e q
  ·exact gv _ (av (au e) (dh I.ok.bsz q))
 ·intro b hb z;obtain⟨⟨f0,f1,f2,f3,f4,f5⟩,hlt⟩:=hex b hb
  rcases ba.mp (I.stkSub b z)with q|q
  ·exact f1 q
  ·exact f2 q
theorem VU (I:Inv X pins σ H s) (C:Ca X scope N cap) (hex:∀b∈ex,dN X pins H b/\b<s.heap.objs.size):
  Inv (dM X scope N s H ex) pins (rD cap σ) H { s with heap:=pushCells (s.heap.push { cls:=.type "dict",data:=.dict #[] }) scope.names }:=by
 have B:=tG scope.names (s.heap.push { cls:=.type "dict",data:=.dict #[] }) (dJ X.env scope.names []);rw[cw]at B;have kp:∀b o,s.heap.get? b=some o->(pushCells (s.heap.push { cls:=.type "dict",data:=.dict #[] }) scope.names).get? b=some o:=λb o e=>qo _ _ _ _ (ak _ e);have ns:(pushCells (s.heap.push { cls:=.type "dict",data:=.dict #[] }) scope.names).Ns s.heap.objs.size (λ_=>none):=⟨_,#[],_,qo _ _ _ _ (bf _ rfl),rfl,(λe he=>absurd he (by simp)),λ_=>rfl⟩
 obtain⟨m,hn,hl⟩:=I.loc;refine⟨IL I C hex,rfl,I.bare,Un.kept kp,⟨_,ns,λi x v h1 h2 h3=>?_⟩,λx c e=>?_,I.hok.fresh (aj _),λx c e=>?_,λp hp=>?_,I.hok.kept kp, ?_⟩
 ·have h2':(cap.map λo=>match o with|some j=>(σ[j]?).getD none|none=>none)[i]?=some (some v):=h2;rw[dw]at h2'
  cases q:cap[i]? with
  |none=>rw[q]at h2';cases h2'
  |some o=>
   rw[q]at h2'
   cases o with
   |none=>cases h2'
   |some j=>
    have e1:(σ[j]?).getD none=some v:=cq h2';have e2:σ[j]?=some (some v):=by
     cases z:σ[j]? with
     |none=>rw[z]at e1;cases e1
     |some w=>rw[z]at e1;exact congrArg some e1
    obtain⟨c1,c2,c3⟩:=C.cap i j x q h1;have vis:qZ X.env.scope x:=by
     rcases C.free x c2 with z|z
     ·exact .inr (.inl z)
     ·exact .inr (.inr z)
    obtain⟨u,r,l⟩:=hl j x v c1 e2 vis;refine⟨u,r, ?_⟩
    rcases l with⟨hk,hm⟩|⟨hk,c,hc,hcell⟩
    ·rcases C.free x c2 with z|z
     ·rw[z]at hk;cases hk
     ·rw[z]at hk;cases hk
    ·refine .inr ⟨?_,c, ?_, ?_⟩
     ·have h3':qZ (relabel scope X.env) x:=h3
      rcases h3' with z|z|z
      ·exact absurd z c3
      ·exact .inl z
      ·exact .inr z
     ·have:=(B.old x (C.apart x c2)).trans (tF _ _ (.inl c2));rw[hc]at this;exact this
     ·obtain⟨o,ho,hd⟩:=hcell;exact⟨o,kp _ _ ho,hd⟩
 ·rcases wW I C e with⟨q,_⟩|⟨_,q,_⟩
  ·obtain⟨v,o,ho,hd⟩:=I.cell x c q;exact⟨v,o,kp _ _ ho,hd⟩
  ·exact⟨none,q⟩
 ·rcases wW I C e with⟨q,_⟩|⟨q,_⟩
  ·exact I.freeC x c q
  ·exact I.hok.fresh (gy q)
 ·obtain⟨a1,a2,a3,a4,a5⟩:=I.pin p hp;refine⟨kp _ _ a1,a2,bg (au a1),λz=>?_,a5⟩
  rcases ba.mp (I.stkSub _ z)with q|q
  ·exact a3 q
  ·exact a4 q
 ·show(cap.map _).length=N.length;rw[bc];exact C.len
theorem VV (I:Inv X pins σ H s) (C:Ca X scope N cap) (hex:∀b∈ex,dN X pins H b/\b<s.heap.objs.size):∀b∈ex,dN (dM X scope N s H ex) pins H b:=by intro b hb;obtain⟨⟨f0,f1,f2,f3,f4,f5⟩,hlt⟩:=hex b hb;have ok:=IL (N:=N) I C hex;exact⟨f0,(ok.exf b hb).1,ok.exfs b hb,.inl hb,(ok.exf b hb).2,f5⟩
theorem VW {σ':St}{H':Hp}{s':ag}{h':cu}(I:Inv X pins σ H s) (hex:∀b∈ex,dN X pins H b/\b<s.heap.objs.size) (I':Inv (dM X scope N s H ex) pins σ' H' s') (hh:ik s.heap.objs.size s'.heap h'):
  Inv X pins σ H' { s' with heap:=h' }:=by
 have u:Un (dY X.stack) ex H H' s.heap s'.heap:=I'.base;have up:∀b o o',s.heap.get? b=some o->s'.heap.get? b=some o'->h'.get? b=some o':=λb o o' e e'=>(hh.2 b (bg (au e))).trans e';have hL:H' s.heap.objs.size=none:=I'.free;refine I.call' (s':={ s' with heap:=h' }) (ch:=ex) I'.os ⟨λb o q n hb hx=>up b o o q (u.keep b o q n hb hx),λb o q n hb hx=>?_,u.free,λb o q hx=>?_,u.tups,u.frzs,u.tbls⟩ (λb o e=>?_) I'.bare λb hb=>?_
 ·obtain⟨sl,e⟩:=u.slot b o q n hb hx;exact⟨sl,up b o _ q e⟩
 ·obtain⟨o',e⟩:=u.there b o q hx;exact⟨o',up b o _ q e⟩
 ·refine(I'.hok b o e).stay (λc v hc q=>(hh.2 c ?_).trans q) (λ_ q=>q) λ_ _ q=>q
  rcases hc with z|z
  ·rw[z];rintro rfl;rw[hL]at e;cases e
  ·rintro rfl;rw[hL]at z;cases z
 ·obtain⟨⟨f0,f1,f2,f3,f4,f5⟩,hlt⟩:=hex b hb;exact⟨f3,f1,f4,f5⟩
theorem Inv.adopt {a:ah}{o:HO}(I:Inv X pins σ H s) (f:dN X pins H a) (ha:X.s₀.heap.objs.size<=a) (new:Bb X.prog X.w (aU H a o) s.heap a o):Inv X pins σ (aU H a o) s:=by
 obtain⟨f0,f1,f2,f3,f4,f5⟩:=f;have ne0:∀b ob,X.s₀.heap.get? b=some ob->b≠a:=λb ob e z=>by subst z;exact gv _ (av (au e) ha)
 refine⟨I.ok,I.os,I.bare,⟨I.base.keep,I.base.slot,λb ob e n hx=>by rw[bV (ne0 b ob e)];exact I.base.free b ob e n hx,I.base.there,λb xs e=>?_,λb ob u e=>?_,λb ps e=>?_⟩,I.loc,I.cell,by rw[bV (cx f1)];exact I.free,
  λx c e=>by rw[bV (f4 x c e)];exact I.freeC x c e,λp hp=>?_,λb u e=>?_,I.len⟩
 ·have:=I.base.tups b xs e;rw[bV (gA this f0)];exact this
 ·have:=I.base.frzs b ob u e;rw[bV (gA this f0)];exact this
 ·obtain⟨more,this⟩:=I.base.tbls b ps e;exact⟨more,by rw[bV (gA this f0)];exact this⟩
 ·obtain⟨a1,a2,a3,a4,a5⟩:=I.pin p hp;exact⟨a1,by rw[bV (f5 p hp)];exact a2,a3,a4,a5⟩
 ·by_cases hb:b=a
  ·subst hb;rw[dF]at e;cases e;exact new
  ·rw[bV hb]at e;exact(I.hok b u e).stay (λ_ _ _ q=>q) (λc q=>by rw[bV (gA q f0)];exact q) λc xs q=>by rw[bV (gA q f0)];exact q
end
def AccAt (s:ag) (D:ah) (xs:Ge):Prop:=xs.length<=ck/\∃(its:List af) (n:Nat),Az xs its/\s.heap.get? D=some { cls:=.type "list",data:=.seq its.toArray n }
abbrev TC:=St->Hp->Ge->(St->Hp->Ge->Prop)->Prop
def PCl (X:Cx) (D:ah) (m:Sem Unit) (t:TC):Prop:=
 ∀(pins:List (ah×Obj)) (s:ag) (σ:St) (H:Hp) (xs:Ge) (K:St->Hp->Ge->Prop),Inv X pins σ H s->AccAt s D xs->dN X pins H D->t σ H xs K->
  wpAny (model X.prog X.w) X.A m (λ_ s'=>∃σ' H' xs',Inv X pins σ' H' s'/\AccAt s' D xs'/\H' D=none/\K σ' H' xs') X.xe s
section
variable{X:Cx}{D:ah}
theorem AccAt.obj {s:ag}{xs:Ge}(a:AccAt s D xs):∃o,s.heap.get? D=some o/\∀v,o.data≠.cell v:=by obtain⟨_,its,n,_,e⟩:=a;exact⟨_,e,λv z=>nomatch z⟩
theorem Inv.pinD {pins:List (ah×Obj)}{s:ag}{σ:St}{H:Hp}{xs:Ge}(I:Inv X pins σ H s) (a:AccAt s D xs) (f:dN X pins H D):Inv X (pins++kD [D] s.heap) σ H s:=
 I.pinned (λb hb=>by (have e:b=D:=by simpa using hb);subst e;exact f) λb hb=>by
  have e:b=D:=by simpa using hb
  subst e;exact a.obj
theorem Inv.atD {pins:List (ah×Obj)}{s s':ag}{σ':St}{H':Hp}{xs:Ge}(a:AccAt s D xs) (I:Inv X (pins++kD [D] s.heap) σ' H' s'):AccAt s' D xs/\H' D=none:=by obtain⟨z,its,n,r,e⟩:=a;have:=I.pin (D,_) (bx _ (bx _ (rA (by simp) e)));exact⟨⟨z,its,n,r,this.1⟩,this.2.1⟩
def IM (te:TE):TC:=λσ H xs K=>te σ H λv H1=>xs.length<ck/\K σ H1 (xs++[v])
theorem A9 {elt:bj}{te:TE}(he:PE X elt te):PCl X D (do let x <-eval elt X.env;let _ <-call (.builtin "list.append") [.ref D,x];pure ()) (IM te):=by
 intro pins s σ H xs K I a f h;refine aa (aZ (he _ s σ H _ (I.pinD a f) h) λu s1 ⟨v,H1,I1,r1,hz,q1⟩=>?_);obtain⟨a1,n1⟩:=Inv.atD a I1;have I1':=I1.unpinned;obtain⟨z,its,n,r,e⟩:=a1;have hl:=r.length;refine aa (zg F.slot_list_append ⟨_,e,rfl⟩ F.entry_list_append (F.args_list_append_2 _ _) (PySem.list_append D its.toArray n u (by rw[ax];omega)) ⟨e, ?_⟩);have q:=zf e (·.push u);have e2:its.toArray.push u=(its++[u]).toArray:=by simp
 rw[e2]at q;refine ai ⟨σ,H1,xs++[v], ?_,⟨by rw[bq,uf];omega,its++[u],_,r.append (.cons r1 .nil),q⟩,n1,q1⟩;obtain⟨f0,f1,f2,f3,f4,f5⟩:=f;exact I1'.turned (t':=s1.toks) (λb o hb z=>(nu s1.heap _ (cx hb)).trans z) n1 f1 f3 f4 f5
def IP (ifs:List bj) (env:Env):Sem Bool:=forIn ifs true λc r=>if r=true then do let ok <-isTrue c env (eval c env);pure (rp ok)else pure (rp r)
def PTs (X:Cx) (ifs:List bj) (t:TT):Prop:=∀(pins:List (ah×Obj)) (s:ag) (σ:St) (H:Hp) (Q:Bool->Hp->Prop),Inv X pins σ H s->t σ H Q->wpAny (model X.prog X.w) X.A (IP ifs X.env) (TP X pins σ Q) X.xe s
def VX:TT:=λ_ H Q=>Q true H
theorem VY:PTs X [] VX:=λpins s σ H Q I h=>wpAny_tests_nil ⟨H,I,h⟩
theorem VZ {c:bj}{t:TT}(h:PT X c t):PTs X [c] t:=λpins s σ H Q I q=>wpAny_tests_one (h pins s σ H Q I q)
def lY (p:Pos) (it:af) (tg:bj) (ifs:List bj) (env:Env) (inner:Sem Unit) (c:Code):Sem PySem.Fin:=do
 standAt p
 match <-pyNext it with
 |none=>pure (.done .next)
 |some v=>do
  letOwnedTupleGo tg it v
  assign tg env v
  let ok <-IP ifs env
  if ok=true then do inner;again c
  else again c
def tH (J:It) (g:TG) (tt:TT) (inner:TC) (K:St->Hp->Ge->Prop) (σ:St) (H:Hp) (xs:Ge):Prop:=
 ∃W:Nat->Nat->St->Hp->Ge->Prop,(∃m,W 0 m σ H xs)/\∀i m σ H xs,W i m σ H xs->
  (J.stop i H/\K σ H xs)∨(J.go i H/\∃N:St->Hp->Ge->Prop,(∀σ' H' xs',N σ' H' xs'->∃m',m'<m/\W (i+1) m' σ' H' xs') /\
   ∀x H',J.yld i H x H'->g x σ H' λσ2 H2=>tt σ2 H2 λb H3=>if b=true then inner σ2 H3 xs N else N σ2 H3 xs)
theorem IQ {elt:bj}{gens:List ki}{sc:gu}{ps:Pos}{d:Nat}{it:ah}{tg:bj}{ifs:List bj}{p:Pos}{inner:Sem Unit}{g:TG}{tt:TT}{ti:TC}{J:It}{fp:List ah}{tn:Nat->cu->Prop}
  (hx:X.xe=λ_ _=>False) (hc:X.calm=true)
  (ht:compTurn (.ListComp elt gens sc ps) d (.ref it) (.ref D) X.env=lY p (.ref it) tg ifs X.env inner (.compLoop (.ListComp elt gens sc ps) d (.ref it) (.ref D) X.env))
  (hg:PG X tg g) (Er:PTs X ifs tt) (hi:PCl X D inner ti) (T:Turn X.prog X.w X.K tg J fp it tn)
  {pins:List (ah×Obj)}{s:ag}{σ:St}{H:Hp}{xs:Ge}{K:St->Hp->Ge->Prop}{R:yb->ag->Prop}(I:Inv X pins σ H s) (a:AccAt s D xs) (f:dN X pins H D) (st:tn 0 s.heap) (hf:∀b∈fp,dN X pins H b) (hD:D∉fp)
  (h:tH J g tt ti K σ H xs) (hR:∀σ' H' xs' s',Inv X pins σ' H' s'->AccAt s' D xs'->H' D=none->K σ' H' xs'->R (.ok .next) s'):
  codeAny (model X.prog X.w) X.A (.compLoop (.ListComp elt gens sc ps) d (.ref it) (.ref D) X.env) R s:=by
 obtain⟨W,⟨m0,w0⟩,turn⟩:=h;have stat:∀{H':Hp},(∀b∈fp,H' b=none)->∀b∈fp,dN X pins H' b:=λhn b hb=>⟨hn b hb,(hf b hb).2⟩
 have statD:∀{H':Hp},H' D=none->dN X pins H' D:=λhn=>⟨hn,f.2⟩
 refine codeAny_loop rfl (λn s'=>∃i σ' H' xs',Inv X pins σ' H' s'/\AccAt s' D xs'/\H' D=none/\tn i s'.heap/\(∀b∈fp,H' b=none)/\W i n σ' H' xs') ?_ m0 ⟨0,σ,H,xs,I,a,f.1,st,λb hb=>(hf b hb).1,w0⟩
 rintro n s3 ⟨i,σ3,H3,xs3,I3,a3,n3,st3,fr3,w3⟩
 show wpAny _ X.A ((compTurn (.ListComp elt gens sc ps) d (.ref it) (.ref D) X.env).onRaise (λx=>do noteFrame x X.env;theTreesLotGoes x)) _ _ s3;rw[ht];refine ud (lh (Q:=λfin s'=>match fin with | .done f=>R (.ok f) s' | .again c'=>c'=.compLoop (.ListComp elt gens sc ps) d (.ref it) (.ref D) X.env/\∃m,m<n/\∃i σ' H' xs',Inv X pins σ' H' s'/\AccAt s' D xs'/\H' D=none/\tn i s'.heap/\(∀b∈fp,H' b=none)/\W i m σ' H' xs') (E:=λ_ _=>False) ?_ (λ_ _ z=>z) λ_ _ z=>z.elim);unfold lY;refine aa (uc (aa ?_));have xe':∀{α:Type}{m:Sem α}{Q:α->ag->Prop}{s:ag},wpAny (model X.prog X.w) X.A m Q X.xe s->wpAny (model X.prog X.w) X.A m Q (λ_ _=>False) s:=λ{α m Q s} z=>by rw[hx]at z;exact z
 have I3':=I3.pinD a3 (statD n3);have fr3':∀b∈fp,dN X (pins++kD [D] s3.heap) H3 b:=λb hb=>by
  obtain⟨g0,g1,g2,g3,g4,g5⟩:=stat fr3 b hb;refine⟨g0,g1,g2,g3,g4,λp hp=>?_⟩
  rcases cy.mp hp with z|z
  ·exact g5 p (fj _ z)
  ·rcases cy.mp z with z|z
   ·exact g5 p (bx _ z)
   ·have:=(AR z).1;have e:p.1=D:=by simpa using this
    rw[e];rintro rfl;exact hD hb
 rcases turn i n σ3 H3 xs3 w3 with⟨stop,qn⟩|⟨go,N,hN,step⟩
 ·refine aZ (T.done X rfl rfl rfl hc i _ s3 σ3 H3 (λ_ _=>False) I3' fr3' st3 stop) λr s4 ⟨hr,I4⟩=>?_;subst hr;obtain⟨a4,n4⟩:=Inv.atD a3 I4;exact ai (hR σ3 H3 xs3 s4 I4.unpinned a4 n4 qn)
 ·refine aZ (T.item X rfl rfl rfl hc i _ s3 σ3 H3 (λ_ _=>False) I3' fr3' st3 go) λr s4 ⟨u,hr,h4⟩=>?_;subst hr;refine aa (aZ h4 λ_ s5 ⟨x,H5,I5,r5,y5,st5,fr5⟩=>?_);obtain⟨a5,n5⟩:=Inv.atD a3 I5;have I5u:=I5.unpinned;have I5p:=I5u.pinned (stat fr5) (T.obj _ _ st5);have fD5:dN X (pins++kD fp s5.heap) H5 D:=by
   obtain⟨g0,g1,g2,g3,g4,g5⟩:=statD n5;refine⟨g0,g1,g2,g3,g4,λp hp=>?_⟩
   rcases cy.mp hp with z|z
   ·exact g5 p (fj _ z)
   ·rcases cy.mp z with z|z
    ·exact g5 p (bx _ z)
    ·rintro rfl;exact hD (AR z).1
  have I5':=I5p.pinD a5 fD5;refine aa (xe' (aZ (hg _ s5 σ3 H5 x u _ I5' r5 (step x H5 y5)) λ_ s6 ⟨σ6,H6,I6,q6⟩=>?_));obtain⟨a6,n6⟩:=Inv.atD a5 I6;have pin':∀{s σ H},Inv X (pins++kD fp s5.heap) σ H s->tn (i+1) s.heap/\∀b∈fp,H b=none:=λ{s σ H} J=>by refine⟨T.keep _ _ _ st5 λb hb o e=>(J.pin (b,o) (bx _ (bx _ (rA hb e)))).1,λb hb=>?_⟩;obtain⟨o,e,d⟩:=T.obj _ _ st5 b hb;exact(J.pin (b,o) (bx _ (bx _ (rA hb e)))).2.1
  have fD6:dN X (pins++kD fp s5.heap) H6 D:=⟨n6,fD5.2⟩
  have I6u:=I6.unpinned;have I6p:=I6u.pinD a6 fD6;refine aa (xe' (aZ (Er _ s6 σ6 H6 _ I6p q6) λb s7 ⟨H7,I7,q7⟩=>?_));obtain⟨a7,n7⟩:=Inv.atD a6 I7;have I7u:=I7.unpinned;have fin:∀{s8 σ8 H8 xs8},Inv X (pins++kD fp s5.heap) σ8 H8 s8->AccAt s8 D xs8->H8 D=none->N σ8 H8 xs8->
    ∃m,m<n/\∃i σ' H' xs',Inv X pins σ' H' s8/\AccAt s8 D xs'/\H' D=none/\tn i s8.heap/\(∀b∈fp,H' b=none)/\W i m σ' H' xs':=λ{s8 σ8 H8 xs8} J a8 n8 q8=>by
   obtain⟨m',hm,w8⟩:=hN σ8 H8 xs8 q8;obtain⟨t8,fr8⟩:=pin' J;exact⟨m',hm,i+1,σ8,H8,xs8,J.unpinned,a8,n8,t8,fr8,w8⟩
  cases b with
  |true=>
   rw[if_pos rfl]at q7 ⊢;have fD7:dN X (pins++kD fp s5.heap) H7 D:=⟨n7,fD5.2⟩
   refine aa (xe' (aZ (hi _ s7 σ6 H7 xs3 N I7u a7 fD7 q7) λ_ s8 ⟨σ8,H8,xs8,I8,a8,n8,q8⟩=>?_));exact ai ⟨rfl,fin I8 a8 n8 q8⟩
  |false=>rw[if_neg iw]at q7 ⊢;exact ai ⟨rfl,fin I7u a7 n7 q7⟩
end
theorem IS (elt tg iter:bj) (ifs:List bj) (sc:gu) (ps:Pos) (it:af) (D:ah) (env:Env):
  compTurn (.ListComp elt [⟨tg,iter,ifs,0⟩] sc ps) 0 it (.ref D) env =
   lY iter.pos it tg ifs env (do let x <-eval elt env;let _ <-call (.builtin "list.append") [.ref D,x];pure ()) (.compLoop (.ListComp elt [⟨tg,iter,ifs,0⟩] sc ps) 0 it (.ref D) env):=by rfl
def tI (iter:bj) (e:bj) (d:Nat) (D:ah) (env:Env):Sem Unit:=do
 let x <-eval iter env
 standAt iter.pos
 let x <-foldedSetIterable iter env x
 let it <-holding [x] (pyIter x)
 let _ <-runOwn (.compStart e d it (.ref D) env) env
 pure ()
theorem V0 (elt tg iter Ej Bn:bj) (ifs Cq:List bj) (sc:gu) (ps:Pos) (it:af) (D:ah) (env:Env):
  compTurn (.ListComp elt [⟨tg,iter,ifs,0⟩,⟨Ej,Bn,Cq,0⟩] sc ps) 0 it (.ref D) env =
   lY iter.pos it tg ifs env (tI Bn (.ListComp elt [⟨tg,iter,ifs,0⟩,⟨Ej,Bn,Cq,0⟩] sc ps) 1 D env) (.compLoop (.ListComp elt [⟨tg,iter,ifs,0⟩,⟨Ej,Bn,Cq,0⟩] sc ps) 0 it (.ref D) env):=by
 unfold lY tI;simp only[bind_assoc,pure_bind];rfl
theorem V1 (elt tg iter Ej Bn:bj) (ifs Cq:List bj) (sc:gu) (ps:Pos) (it:af) (D:ah) (env:Env):
  compTurn (.ListComp elt [⟨tg,iter,ifs,0⟩,⟨Ej,Bn,Cq,0⟩] sc ps) 1 it (.ref D) env =
   lY Bn.pos it Ej Cq env (do let x <-eval elt env;let _ <-call (.builtin "list.append") [.ref D,x];pure ()) (.compLoop (.ListComp elt [⟨tg,iter,ifs,0⟩,⟨Ej,Bn,Cq,0⟩] sc ps) 1 it (.ref D) env):=by rfl
section
variable{X:Cx}{D:ah}
theorem IT {prog:bh}{w:cm}{A:bu}{R:yb->ag->Prop}{s:ag}{elt:bj}{gens:List ki}{sc:gu}{ps:Pos}{d:Nat}{it acc:af}{env:Env}(ha:((gens)[d]?).elim false (·.is_async != 0)=false)
  (h0:codeAny (model prog w) A (.compLoop (.ListComp elt gens sc ps) d it acc env) R s)
  (h:wpAny (model prog w) A (pyIter it) (λit' s'=>codeAny (model prog w) A (.compLoop (.ListComp elt gens sc ps) d it' acc env) R s') (λ_ _=>False) s):
  codeAny (model prog w) A (.compStart (.ListComp elt gens sc ps) d it acc env) R s:=by
 refine codeAny_of_tree ?_;show wpAny _ _ ((compStart (.ListComp elt gens sc ps) d it acc env).onRaise (λx=>do noteFrame x env;standAt theWindowsPlace)) _ _ s;refine wpAny_notedAt (lh (E:=λ_ _=>False) ?_ (λ_ _ z=>z) λ_ _ z=>z.elim);unfold compStart;rw[show((clausesOf (.ListComp elt gens sc ps))[d]?).elim false (·.is_async != 0)=false from ha];simp only[cp,if_false];refine aa (nj (wpAny_ite ?_))
 split
 ·first
   |exact aa (ai (ai (And.intro rfl h0)))
   |exact ai (And.intro rfl h0)
 ·have fin:∀s:ag,wpAny (model prog w) A (pyIter it) (λit' s'=>codeAny (model prog w) A (.compLoop (.ListComp elt gens sc ps) d it' acc env) R s') (λ_ _=>False) s->
    wpAny (model prog w) A (do let it' <-pyIter it;again (.compLoop (.ListComp elt gens sc ps) d it' acc env)) (λfin s'=>match fin with | .done f=>R (.ok f) s' | .again c=>c.quiet=true/\codeAny (model prog w) A c R s') (λ_ _=>False) s:=λs h=>aa (lh h (λit' s' h'=>ai ⟨rfl,h'⟩) λ_ _ x=>x)
  refine aa (um ?_);have ec:clausesOf (.ListComp elt gens sc ps)=gens:=rfl;rw[ec]
  cases q:gens[d]? with
  |none=>exact fin s h
  |some g=>exact aa (uc (fin s h))
def IU (wi:TI) (g:TG) (tt:TT) (inner:TC):TC:=λσ H xs K=>wi σ H λJ H1=>tH J g tt inner K σ H1 xs
theorem V2 {elt:bj}{gens:List ki}{sc:gu}{ps:Pos}{d:Nat}{tg iter:bj}{ifs:List bj}{inner:Sem Unit}{wi:TI}{g:TG}{tt:TT}{ti:TC}
  (hx:X.xe=λ_ _=>False) (hc:X.calm=true) (ha:((gens)[d]?).elim false (·.is_async != 0)=false)
  (ht:∀it,compTurn (.ListComp elt gens sc ps) d (.ref it) (.ref D) X.env=lY iter.pos (.ref it) tg ifs X.env inner (.compLoop (.ListComp elt gens sc ps) d (.ref it) (.ref D) X.env))
  (hi:PI X tg iter wi) (hg:PG X tg g) (Er:PTs X ifs tt) (Cw:PCl X D inner ti) (hs:∀x,foldedSetIterable iter X.env x=pure x):
  PCl X D (tI iter (.ListComp elt gens sc ps) d D X.env) (IU wi g tt ti):=by
 intro pins s σ H xs K I a f h;unfold tI;refine aa (aZ (hi _ s σ H _ (I.pinD a f) h) λv s1 h1=>aa (uc (aa (ym (hs v) (aa (ig (aZ h1 λitv s2 h2=>?_)))))));obtain⟨it,fp,tn,J,H2,e,I2,T,st2,f2,lp⟩:=h2;subst e;obtain⟨a2,n2⟩:=Inv.atD a I2;have I2u:=I2.unpinned;have hpD:∀b∈fp,b≠D:=λb hb z=>by subst z;obtain⟨_,its,n,_,eo⟩:=a;exact(f2 b hb).2.2.2.2.2 (b,_) (bx _ (bx _ (rA (by simp) eo))) rfl
 have f2u:∀b∈fp,dN X pins H2 b:=λb hb=>by
  obtain⟨g0,g1,g2,g3,g4,g5⟩:=f2 b hb;exact⟨g0,g1,g2,g3,g4,λp hp=>g5 p (by
   rcases cy.mp hp with z|z
   ·exact fj _ z
   ·exact bx _ (fj _ z))⟩
 have fD:dN X pins H2 D:=⟨n2,f.2⟩
 refine aa (wpAny_runOwn ?_);have loop:codeAny (model X.prog X.w) X.A (.compLoop (.ListComp elt gens sc ps) d (.ref it) (.ref D) X.env) (λr s'=>match r with
   | .ok f=>wpAny (model X.prog X.w) X.A (pure ():Sem Unit) (λ_ s'=>∃σ' H' xs',Inv X pins σ' H' s'/\AccAt s' D xs'/\H' D=none/\K σ' H' xs') X.xe s'
   | .error e=>cameBackBy (model X.prog X.w) X.A X.env X.xe e s') s2:=
  IQ hx hc (ht it) hg Er Cw T I2u a2 fD st2 f2u (λz=>hpD D z rfl) lp λσ' H' xs' s' I' a' n' k'=>ai ⟨σ',H',xs',I',a',n',k'⟩
 exact IT ha loop (T.self _ 0 s2 _ _ st2 loop)
end
def BA (wi:TI) (cap:List (Option Nat)) (g:TG) (tt:TT) (inner:TC):TE:=λσ H Q=>wi σ H λJ H1=>tH J g tt inner (λ_ H' xs=>∀p,H' p=none->Q (.ref p) (aU H' p (.lst xs))) (rD cap σ) H1 []
section
variable{X:Cx}
theorem IV {elt:bj}{gens:List ki}{sc:gu}{ps:Pos}{tg iter:bj}{ifs:List bj}{rest:List ki}{inner:ah->Env->Sem Unit}{g:TG}{tt:TT}{ti:TC}{N:Aj}{cap:List (Option Nat)}{E:af->ag->Prop}
  (hc:X.calm=true) (C:Ca X sc N cap) (eg:gens=⟨tg,iter,ifs,0⟩::rest)
  (ht:∀it D env,compTurn (.ListComp elt gens sc ps) 0 (.ref it) (.ref D) env=lY iter.pos (.ref it) tg ifs env (inner D env) (.compLoop (.ListComp elt gens sc ps) 0 (.ref it) (.ref D) env))
  (hg:∀s H ex,PG (dM X sc N s H ex) tg g) (Er:∀s H ex,PTs (dM X sc N s H ex) ifs tt)
  {pins:List (ah×Obj)}{s2:ag}{σ:St}{H2:Hp}(Cw:∀s ex D,Inv X pins σ H2 s->(∀b∈ex,dN X pins H2 b/\b<s.heap.objs.size)->PCl (dM X sc N s H2 ex) D (inner D (dM X sc N s H2 ex).env) ti)
  {K:St->Hp->Ge->Prop}{it:ah}{fp:List ah}{tn:Nat->cu->Prop}{J:It}(I2:Inv X pins σ H2 s2) (T:Turn X.prog X.w X.K tg J fp it tn) (st2:tn 0 s2.heap) (f2:∀b∈fp,dN X pins H2 b)
  (lp:tH J g tt ti K (rD cap σ) H2 []) {R:af->ah->yb->ag->Prop}
  (hR:∀σ' H' xs (s3 s':ag) (C D:ah),X.s₀.heap.objs.size<=D->C=s3.heap.objs.size->(∃m,s'.heap.Ns C m)->AccAt s' D xs->dN X pins H' D->dN X pins H' C->D<C->(∀h',ik C s'.heap h'->Inv X pins σ H' { s' with heap:=h' })->K σ' H' xs->R (.ref D) C (.ok .next) s'):
  wpAny (model X.prog X.w) X.A (newList []) (λacc s3=>wpAny (model X.prog X.w) X.A (newFunctionEnv sc X.env.globals (dJ X.env sc.names []) [] X.env.qual none .none (some X.env)) (λcenv s4=>codeAny (model X.prog X.w) X.A (.compStart (.ListComp elt gens sc ps) 0 (.ref it) acc { cenv with scope:=relabel sc X.env }) (R acc cenv.locals) s4) E s3) E s2:=by
 refine gn (VT ?_);dsimp only;generalize hs3:({ s2 with heap:=s2.heap.push { cls:=.type "list",dict:=none,data:=.seq ([]:List af).toArray } }:ag)=s3;have kp:∀b o,s2.heap.get? b=some o->s3.heap.get? b=some o:=λb o e=>by rw[<-hs3];exact ak _ e
 have I3:Inv X pins σ H2 s3:=by rw[<-hs3];exact I2.kept (t':=s2.toks) λb o e=>ak _ e
 have eD:s3.heap.get? s2.heap.objs.size=some { cls:=.type "list",data:=.seq ([]:List af).toArray 0 }:=by rw[<-hs3];exact bf _ rfl
 have nD:H2 s2.heap.objs.size=none:=I2.hok.fresh (aj _);have fD:dN X pins H2 s2.heap.objs.size:=I2.fpOk (aj _) nD;have hlt:s2.heap.objs.size<s3.heap.objs.size:=au eD;have hex:∀b∈s2.heap.objs.size::fp,dN X pins H2 b/\b<s3.heap.objs.size:=λb hb=>by
  rcases ba.mp hb with rfl|hb
  ·exact⟨fD,hlt⟩
  ·obtain⟨o,e,_⟩:=T.obj 0 _ st2 b hb;exact⟨f2 b hb,au (kp b o e)⟩
 have hDfp:s2.heap.objs.size∉fp:=λz=>by obtain⟨o,e,_⟩:=T.obj 0 _ st2 _ z;exact gv _ (au e)
 have I4:=VU (N:=N) (ex:=s2.heap.objs.size::fp) I3 C hex;have F4:=VV (N:=N) I3 C hex;have st4:tn 0 (pushCells (s3.heap.push { cls:=.type "dict",data:=.dict #[] }) sc.names):=T.keep 0 _ _ st2 λb hb o e=>qo _ _ _ _ (ak _ (kp b o e));have a4:AccAt { s3 with heap:=pushCells (s3.heap.push { cls:=.type "dict",data:=.dict #[] }) sc.names } s2.heap.objs.size []:=⟨jg _,[],0,.nil,qo _ _ _ _ (ak _ eD)⟩
 have loop:codeAny (model X.prog X.w) X.A (.compLoop (.ListComp elt gens sc ps) 0 (.ref it) (.ref s2.heap.objs.size) (dM X sc N s3 H2 (s2.heap.objs.size::fp)).env) (R (.ref s2.heap.objs.size) s3.heap.objs.size)
   { s3 with heap:=pushCells (s3.heap.push { cls:=.type "dict",data:=.dict #[] }) sc.names }:=by
  refine IQ (X:=dM X sc N s3 H2 (s2.heap.objs.size::fp)) rfl hc (ht it _ _) (hg _ _ _) (Er _ _ _) (Cw _ _ _ I3 hex) T I4 a4 (F4 _ (ay ..)) st4 (λb hb=>F4 b (ao _ hb)) hDfp lp λσ' H' xs' s' I' a' n' k'=>?_;obtain⟨m,hn,_⟩:=I'.loc;exact hR σ' H' xs' s3 s' _ _ (dh I2.sz (aj _)) rfl ⟨m,hn⟩ a' ⟨n',fD.2⟩ (I3.fpOk (aj _) I'.free) hlt (λh' hh=>VW I3 hex I' hh) k'
 have ha:((gens)[0]?).elim false (·.is_async != 0)=false:=by rw[eg];rfl
 subst hs3;exact IT ha loop (T.self _ 0 _ _ _ st4 loop)
theorem IW {elt:bj}{gens:List ki}{sc:gu}{ps:Pos}{tg iter:bj}{ifs:List bj}{rest:List ki}{inner:ah->Env->Sem Unit}{wi:TI}{g:TG}{tt:TT}{ti:TC}{N:Aj}{cap:List (Option Nat)}
  (hc:X.calm=true) (C:Ca X sc N cap) (eg:gens=⟨tg,iter,ifs,0⟩::rest)
  (ht:∀it D env,compTurn (.ListComp elt gens sc ps) 0 (.ref it) (.ref D) env=lY iter.pos (.ref it) tg ifs env (inner D env) (.compLoop (.ListComp elt gens sc ps) 0 (.ref it) (.ref D) env))
  (hi:PI X tg iter wi) (hg:∀s H ex,PG (dM X sc N s H ex) tg g) (Er:∀s H ex,PTs (dM X sc N s H ex) ifs tt) (Cw:∀s H ex D,PCl (dM X sc N s H ex) D (inner D (dM X sc N s H ex).env) ti)
  (hs:∀x,foldedSetIterable iter X.env x=pure x):PE X (.ListComp elt gens sc ps) (BA wi cap g tt ti):=by
 intro pins s σ H Q I h;rw[eval_ListComp];have El:closureFor sc X.env=pure (dJ X.env sc.names []):=A7 λx hx=>I.ok.has x (C.free x hx);have e1:firstAsync gens=false:=by rw[eg];rfl
 have e2:firstIter gens X.env=eval iter X.env:=by rw[eg];rfl
 rw[e1,e2];refine Ab (use:=none) (g:=⟨tg,iter,ifs,0⟩) (gs:=rest) (by rw[eg];rfl) hs El C.kind C.nd (aZ (hi pins s σ H _ I h) λv s1 h1=>aZ h1 λitv s2 h2=>?_);obtain⟨it,fp,tn,J,H2,e,I2,T,st2,f2,lp⟩:=h2;subst e;refine IV (N:=N) (inner:=inner) (R:=λacc C=>compPost (model X.prog X.w) X.A X.xe none (EP X pins σ Q) acc C) hc C eg ht hg Er (λs ex D _ _=>Cw s _ ex D) I2 T st2 f2 lp ?_;intro σ' H' xs s3 s' C D hD0 hC hn a f fC hDC Cn k;obtain⟨m,hn⟩:=hn;refine⟨m,hn,λh' hh=>?_⟩;have I5:=Cn h' hh;obtain⟨hz,its,n,r,eD⟩:=a;have eD':h'.get? D=some { cls:=.type "list",data:=.seq its.toArray n }:=(hh.2 D (bg hDC)).trans eD;refine⟨.ref D,aU H' D (.lst xs),I5.adopt f hD0 ⟨hz,its,n,r,eD'⟩,rfl,k D f.1⟩
end
section
variable{X:Cx}
theorem V3 {i:Nat}{x:Str}{px pos:Pos}{elt:bj}{gens:List ki}{sc:gu}{ps:Pos}{tg iter:bj}{ifs:List bj}{rest:List ki}{inner:ah->Env->Sem Unit}{wi:TI}{g:TG}{tt:TT}{ti:TC}{N:Aj}{cap:List (Option Nat)}
  (hsw:swapsWith (.ListComp elt gens sc ps) (some (.Name x px)) pos.line X.env=pure true) (hN:X.N.Nodup) (hi':X.N[i]?=some x) (hx:X.env.scope.names.lookup x=some .local)
  (hc:X.calm=true) (C:Ca X sc N cap) (eg:gens=⟨tg,iter,ifs,0⟩::rest)
  (ht:∀it D env,compTurn (.ListComp elt gens sc ps) 0 (.ref it) (.ref D) env=lY iter.pos (.ref it) tg ifs env (inner D env) (.compLoop (.ListComp elt gens sc ps) 0 (.ref it) (.ref D) env))
  (hi:PI X tg iter wi) (hg:∀s H ex,PG (dM X sc N s H ex) tg g) (Er:∀s H ex,PTs (dM X sc N s H ex) ifs tt) (Cw:∀s H ex D,PCl (dM X sc N s H ex) D (inner D (dM X sc N s H ex).env) ti)
  (hs:∀x,foldedSetIterable iter X.env x=pure x):PS X (.Assign [.Name x px] (.ListComp elt gens sc ps) pos) (wJ (BA wi cap g tt ti) (AM i)):=by
 intro pins s σ H D I h;rw[exec_Assign_Name_used _ _ _ _ hsw];have El:closureFor sc X.env=pure (dJ X.env sc.names []):=A7 λx hx=>I.ok.has x (C.free x hx);have e1:firstAsync gens=false:=by rw[eg];rfl
 have e2:firstIter gens X.env=eval iter X.env:=by rw[eg];rfl
 refine aa (uc (aa ?_));show wpAny _ X.A (do let _ <-comprehension (.ListComp elt gens sc ps) sc X.env (firstIterPos gens ps) (newList []) (firstAsync gens) (firstIter gens X.env) (some (assign (.Name x px) X.env))) _ _ s;rw[e1,e2];refine aa (aZ (Ab (use:=some (assign (.Name x px) X.env)) (Q:=λ_ s'=>SP X pins D .next s') (g:=⟨tg,iter,ifs,0⟩) (gs:=rest) (by rw[eg];rfl) hs El C.kind C.nd (aZ (hi pins s σ H _ I h) λv s1 h1=>aZ h1 λitv s2 h2=>?_)) λ_ s' hq=>ai (ai hq));obtain⟨it,fp,tn,J,H2,e,I2,T,st2,f2,lp⟩:=h2;subst e;refine IV (N:=N) (inner:=inner) (R:=λacc C=>compPost (model X.prog X.w) X.A X.xe (some (assign (.Name x px) X.env)) (λ_ s'=>SP X pins D .next s') acc C) hc C eg ht hg Er (λs ex D _ _=>Cw s _ ex D) I2 T st2 f2 lp ?_;intro σ' H' xs s3 s' C D' hD0 hC hn a f fC hDC Cn k;obtain⟨m,hn⟩:=hn;have I5:Inv X pins σ H' s':=Cn s'.heap (ug ..);obtain⟨hz,its,n,r,eD⟩:=a;have I6:Inv X pins σ (aU H' D' (.lst xs)) s':=I5.adopt f hD0 ⟨hz,its,n,r,eD⟩;show wpAny _ X.A (assign (.Name x px) X.env (.ref D')) _ _ s';obtain⟨c0,c1,c2,c3,c4,c5⟩:=fC;have nC:aU H' D' (.lst xs) C=none:=by rw[bV (cx (bg hDC))];exact c0
 refine wpAny_assign_Name (GU (v:=Gb D') I6 hN hi' (.inl hx) rfl (λs'' I7 ⟨a,sb,ha⟩=>?_) (.inr hx));have hCa:C≠a:=by
  rcases ha with z|z
  ·rw[z];exact c1
  ·exact cx (c4 x a z)
 refine⟨m,hn.sameBut sb hCa,λh' hh=>?_⟩;have I8:Inv X pins (σ.set i (some (.ref D'))) (aU H' D' (.lst xs)) { s'' with heap:=h' }:=I7.turned (t':=s''.toks) (λb o hb e=>(hh.2 b hb).trans e) nC c1 c3 c4 c5;exact⟨_,_,I8,k D' f.1⟩
end
inductive Dt where
 |non|bl (b:Bool)|int (i:Int)|str (x:Str)|tup (xs:List Dt)|lst (xs:List Dt)|dct
mutual
def Den (P:ah->Prop) (H:Hp):Dt->V->Prop
 | .non,v=>v=.non
 | .bl b,v=>v=.bl b
 | .int i,v=>v=.int i
 | .str x,v=>v=.str x
 | .tup ds,v=>∃a vs,v=.ref a/\H a=some (.tup vs)/\Be P H ds vs
 | .lst ds,v=>∃a vs,v=.ref a/\P a/\H a=some (.lst vs)/\Be P H ds vs
 | .dct,v=>∃a,v=.ref a/\P a/\H a=some (.dK [])
def Be (P:ah->Prop) (H:Hp):List Dt->Ge->Prop
 | [],vs=>vs=[]
 |d::ds,vs=>∃v r,vs=v::r/\Den P H d v/\Be P H ds r
end
theorem Be.length {P:ah->Prop}{H:Hp}:∀{ds:List Dt}{vs:Ge},Be P H ds vs->vs.length=ds.length
 | [],vs,h=>by rw[Be]at h;rw[h];rfl
 |d::ds,vs,h=>by rw[Be]at h;obtain⟨v,r,rfl,_,h2⟩:=h;simp[Be.length h2]
theorem Be.get {P:ah->Prop}{H:Hp}:∀{ds:List Dt}{vs:Ge}{i:Nat}{v:V},Be P H ds vs->vs[i]?=some v->∃d,ds[i]?=some d/\Den P H d v
 | [],vs,i,v,h,e=>by rw[Be]at h;rw[h]at e;simp at e
 |d::ds,vs,i,v,h,e=>by
  rw[Be]at h;obtain⟨w,r,rfl,h1,h2⟩:=h
  cases i with
  |zero=>simp at e;subst e;exact⟨d,rfl,h1⟩
  |succ i=>simp at e;exact Be.get (i:=i) h2 e
theorem Be.nil {P:ah->Prop}{H:Hp}:Be P H [] []:=by rw[Be]
theorem Be.cons {P:ah->Prop}{H:Hp}{d:Dt}{v:V}{ds:List Dt}{vs:Ge}(h:Den P H d v) (t:Be P H ds vs):Be P H (d::ds) (v::vs):=by rw[Be];exact⟨v,vs,rfl,h,t⟩
mutual
def bI:Dt->Dt->Bool
 | .non,.non=>true
 | .bl a,.bl b=>a==b
 | .bl a,.int j=>(if a then 1 else 0)==j
 | .int i,.bl b=>i==(if b then 1 else 0)
 | .int i,.int j=>i==j
 | .str x,.str y=>x==y
 | .tup xs,.tup ys=>fS xs ys
 | .lst xs,.lst ys=>fS xs ys
 |_,_=>false
def fS:List Dt->List Dt->Bool
 | [],[]=>true
 |x::xs,y::ys=>bI x y&&fS xs ys
 |_,_=>false
end
mutual
def eW:Dt->Nat
 | .tup xs=>nV xs+1
 | .lst xs=>nV xs+1
 |_=>0
def nV:List Dt->Nat
 | []=>0
 |x::xs=>max (eW x) (nV xs)
end
mutual
def nod:Dt->Bool
 | .tup xs=>kX xs
 | .lst xs=>kX xs
 | .dct=>false
 |_=>true
def kX:List Dt->Bool
 | []=>true
 |x::xs=>nod x&&kX xs
end
mutual
theorem BB:∀d:Dt,nod d=true->bI d d=true
 | .non,_=>rfl
 | .bl b,_=>by simp[bI]
 | .int i,_=>by simp[bI]
 | .str x,_=>by simp[bI]
 | .tup xs,h=>by rw[bI];exact BC xs (by rw[nod]at h;exact h)
 | .lst xs,h=>by rw[bI];exact BC xs (by rw[nod]at h;exact h)
 | .dct,h=>by simp[nod]at h
theorem BC:∀l:List Dt,kX l=true->fS l l=true
 | [],_=>rfl
 |x::xs,h=>by rw[kX,da]at h;rw[fS,BB x h.1,BC xs h.2];rfl
end
theorem IX:∀{l:List Dt}{d:Dt},d∈l->eW d<=nV l
 |x::xs,d,h=>by
  rw[nV]
  rcases ba.mp h with rfl|h
  ·omega
  ·have:=IX h;omega
theorem BD:∀{l:List Dt}{d:Dt},kX l=true->d∈l->nod d=true
 |x::xs,d,h,hd=>by
  rw[kX,da]at h
  rcases ba.mp hd with rfl|hd
  ·exact h.1
  ·exact BD h.2 hd
theorem tJ:∀{xs ys:List Dt},xs.length=ys.length->fS xs ys=(bp xs.length).all λi=>bI (xs.getD i .non) (ys.getD i .non)
 | [],[],_=>rfl
 |x::xs,y::ys,h=>by rw[fS,tJ (xs:=xs) (ys:=ys) (by simpa using h),cg,yv,List.all_cons,List.all_map];rfl
theorem tK:∀{xs ys:List Dt},xs.length≠ys.length->fS xs ys=false
 | [],[],h=>absurd rfl h
 | [],_::_,_=>rfl
 |_::_,[],_=>rfl
 |x::xs,y::ys,h=>by rw[fS,tK (xs:=xs) (ys:=ys) (by simpa using h),qh]
mutual
theorem Den.inj {P:ah->Prop}{H:Hp}:∀(d d':Dt) (v:V),Den P H d v->Den P H d' v->d=d'
 | .non,d',v,h,h'=>by
  rw[Den]at h;subst h
  cases d' <;> rw[Den]at h' <;> first|rfl|(obtain⟨_,_,e,_⟩:=h';cases e;done)|(obtain⟨_,e,_⟩:=h';cases e;done)|(cases h';done)
 | .bl b,d',v,h,h'=>by
  rw[Den]at h;subst h
  cases d' <;> rw[Den]at h' <;> first|(obtain⟨_,_,e,_⟩:=h';cases e;done)|(obtain⟨_,e,_⟩:=h';cases e;done)|(cases h';done)|(cases h';rfl)
 | .int b,d',v,h,h'=>by
  rw[Den]at h;subst h
  cases d' <;> rw[Den]at h' <;> first|(obtain⟨_,_,e,_⟩:=h';cases e;done)|(obtain⟨_,e,_⟩:=h';cases e;done)|(cases h';done)|(cases h';rfl)
 | .str b,d',v,h,h'=>by
  rw[Den]at h;subst h
  cases d' <;> rw[Den]at h' <;> first|(obtain⟨_,_,e,_⟩:=h';cases e;done)|(obtain⟨_,e,_⟩:=h';cases e;done)|(cases h';done)|(cases h';rfl)
 | .tup ds,d',v,h,h'=>by
  rw[Den]at h;obtain⟨a,vs,rfl,h1,h2⟩:=h
  cases d' <;> rw[Den]at h' <;> first|(cases h';done)|(obtain⟨_,_,e,_,q,_⟩:=h';cases e;rw[h1]at q;cases q;done)|(obtain⟨_,e,_,q⟩:=h';cases e;rw[h1]at q;cases q;done)|(obtain⟨_,_,e,q,g⟩:=h';cases e;rw[h1]at q;cases q;rw[Be.inj ds _ vs h2 g])
 | .lst ds,d',v,h,h'=>by
  rw[Den]at h;obtain⟨a,vs,rfl,_,h1,h2⟩:=h
  cases d' <;> rw[Den]at h' <;> first|(cases h';done)|(obtain⟨_,_,e,q,_⟩:=h';cases e;rw[h1]at q;cases q;done)|(obtain⟨_,e,_,q⟩:=h';cases e;rw[h1]at q;cases q;done)|(obtain⟨_,_,e,_,q,g⟩:=h';cases e;rw[h1]at q;cases q;rw[Be.inj ds _ vs h2 g])
 | .dct,d',v,h,h'=>by
  rw[Den]at h;obtain⟨a,rfl,_,h1⟩:=h
  cases d' <;> rw[Den]at h' <;> first|rfl|(cases h';done)|(obtain⟨_,_,e,q,_⟩:=h';cases e;rw[h1]at q;cases q;done)|(obtain⟨_,_,e,_,q,_⟩:=h';cases e;rw[h1]at q;cases q;done)
theorem Be.inj {P:ah->Prop}{H:Hp}:∀(ds Co:List Dt) (vs:Ge),Be P H ds vs->Be P H Co vs->ds=Co
 | [],Co,vs,h,h'=>by
  rw[Be]at h;subst h
  cases Co with
  |nil=>rfl
  |cons d Co=>rw[Be]at h';obtain⟨_,_,e,_⟩:=h';cases e
 |d::ds,Co,vs,h,h'=>by
  rw[Be]at h;obtain⟨v,r,rfl,h1,h2⟩:=h
  cases Co with
  |nil=>rw[Be]at h';cases h'
  |cons d' Co=>rw[Be]at h';obtain⟨v',r',e,h1',h2'⟩:=h';cases e;rw[Den.inj d d' v h1 h1',Be.inj ds Co r h2 h2']
end
section
variable{Pg:bh}{w:cm}{P:ah->Prop}{H:Hp}{s:ag}
theorem V4 (hok:Cc Pg w H s.heap) {a:ah}{vs:Ge}(e:H a=some (.tup vs)):∃its:List af,Az vs its/\s.heap.IsTuple a its.toArray:=by
 obtain⟨_,its,r,p⟩:=(show Bb Pg w H s.heap a (.tup vs) from hok a _ e)
 exact⟨its,r,p.tup⟩
theorem V5 (hok:Cc Pg w H s.heap) {a:ah}{vs:Ge}(e:H a=some (.lst vs)):∃its:List af,Az vs its/\s.heap.IsList a its.toArray:=by
 obtain⟨_,its,n,r,p⟩:=(show Bb Pg w H s.heap a (.lst vs) from hok a _ e)
 exact⟨its,r,_,p,rfl,n,rfl⟩
theorem IY {vs:Ge}{its:List af}(r:Az vs its) {j:Nat}(h:j<its.toArray.size):∃v,vs[j]?=some v/\RelV v its.toArray[j]:=by
 have hl:=r.length;have h':j<its.length:=by simpa using h
 have hv:j<vs.length:=by omega
 obtain⟨u,e,q⟩:=r.get (i:=j) (x:=vs[j]) (aw hv);refine⟨vs[j],aw hv, ?_⟩;have:its.toArray[j]=u:=by have:its[j]?=some its[j]:=aw h';rw[this]at e;simpa using e
 rw[this];exact q
inductive Vw (P:ah->Prop) (H:Hp) (s:ag):Dt->af->Prop
 |non:Vw P H s .non .none
 |bl {b:Bool}:Vw P H s (.bl b) (.bool b)
 |int {i:Int}{t:Tok}:Vw P H s (.int i) (.int i t)
 |str {x:Str}{t:Tok}:Vw P H s (.str x) (.str x t)
 |tup {ds:List Dt}{a:ah}{vs:Ge}{its:List af}(e:H a=some (.tup vs)) (g:Be P H ds vs) (q:Az vs its) (tp:s.heap.IsTuple a its.toArray):Vw P H s (.tup ds) (.ref a)
 |lst {ds:List Dt}{a:ah}{vs:Ge}{its:List af}(e:H a=some (.lst vs)) (g:Be P H ds vs) (q:Az vs its) (tp:s.heap.IsList a its.toArray):Vw P H s (.lst ds) (.ref a)
theorem vw (hok:Cc Pg w H s.heap) {d:Dt}{v:V}{u:af}(n:nod d=true) (h:Den P H d v) (r:RelV v u):Vw P H s d u:=by
 cases d <;> rw[Den]at h
 case tup=>obtain⟨a,vs,rfl,e,g⟩:=h;cases r;obtain⟨its,q,tp⟩:=V4 hok e;exact .tup e g q tp
 case lst=>obtain⟨a,vs,rfl,_,e,g⟩:=h;cases r;obtain⟨its,q,tp⟩:=V5 hok e;exact .lst e g q tp
 case dct=>simp[nod]at n
 all_goals subst h
 case int=>obtain⟨t,rfl⟩:=r;exact .int
 case str=>obtain⟨t,rfl⟩:=r;exact .str
 all_goals cases r;constructor
theorem wX (hok:Cc Pg w H s.heap) {A:bu}{n:Nat}(ih:∀(d d':Dt) (u u':af),eW d<=n->nod d=true->nod d'=true->Vw P H s d u->Vw P H s d' u'->kj A s u u' (bI d d')) {vs Cf:Ge}{ds Co:List Dt}{its its':List af}(hd:nV ds<=n) (m1:kX ds=true) (m2:kX Co=true) (g:Be P H ds vs) (g':Be P H Co Cf) (q:Az vs its) (q':Az Cf its')
  (j:Nat) (h1:j<its.toArray.size) (h2:j<its'.toArray.size):kj A s its.toArray[j] its'.toArray[j] (bI (ds.getD j .non) (Co.getD j .non)):=by
 obtain⟨x,ex,rx⟩:=IY q h1;obtain⟨x',ex',rx'⟩:=IY q' h2;obtain⟨dx,edx,gx⟩:=g.get ex;obtain⟨dx',edx',gx'⟩:=g'.get ex';have e1:ds.getD j .non=dx:=by simp[qf,edx]
 have e2:Co.getD j .non=dx':=by simp[qf,edx']
 rw[e1,e2];have hm:=cn edx;have k1:=BD m1 hm;have k2:=BD m2 (cn edx');exact ih dx dx' _ _ (dh (IX hm) hd) k1 k2 (vw hok k1 gx rx) (vw hok k2 gx' rx')
theorem IZ (hok:Cc Pg w H s.heap) (n:Nat) (ih:∀m,m+1=n->∀(A:bu) (d d':Dt) (u u':af),eW d<=m->A.units+m+1<cLine->nod d=true->nod d'=true->Vw P H s d u->Vw P H s d' u'->sy A s u u' (bI d d')/\kj A s u u' (bI d d'))
  (A:bu) (d d':Dt) (u u':af) (hn:eW d<=n) (hu:A.units+n+1<cLine) (n1:nod d=true) (n2:nod d'=true) (h:Vw P H s d u) (h':Vw P H s d' u'):sy A s u u' (bI d d')/\kj A s u u' (bI d d'):=by
 have Bl:A.units<cLine:=by omega
 have ok:∀{a1 a2:ah}{b:Bool},(sy A s (.ref a1) (.ref a2) b)->(a1=a2->b=true)->sy A s (.ref a1) (.ref a2) b/\kj A s (.ref a1) (.ref a2) b:=λ{a1 a2 b} key z=>⟨key,by
  by_cases Dk:a1=a2
  ·rw[z Dk,Dk];exact .same _
  ·exact .of_refs Dk key⟩
 have Cw:1<=n->∀(d d':Dt) (u u':af),eW d<=n - 1->nod d=true->nod d'=true->Vw P H s d u->Vw P H s d' u'->kj A.in1 s u u' (bI d d'):=λhd d d' u u' a b c e f=>(ih (n - 1) (by omega) A.in1 d d' u u' a (by show A.units+1+(n - 1)+1<cLine;omega) b c e f).2
 cases h <;> cases h'
 case tup.tup ds a1 vs1 its1 e1 g1 q1 tp1 Co a2 vs2 Ci e2 g2 q2 tp2=>
  rw[nod]at n1 n2;rw[eW]at hn;have hl1:=g1.length;have hl2:=g2.length;have hq1:=q1.length;have hq2:=q2.length;refine ok ?_ λDk=>?_
  ·rw[bI];have z:=SeqAt.RcAt.tuples (e:=λj=>bI (ds.getD j .non) (Co.getD j .non)) tp1 tp2 Bl (wX hok (Cw (by omega)) (by omega) n1 n2 g1 g2 q1 q2);have s1:its1.toArray.size=ds.length:=by simp;omega
   have s2:Ci.toArray.size=Co.length:=by simp;omega
   rw[s1,s2]at z
   by_cases hlen:ds.length=Co.length
   ·rw[tJ hlen];rw[<-hlen,zh]at z;simpa using z
   ·rw[tK hlen];rw[show(ds.length==Co.length)=false from beq_eq_false_iff_ne.mpr hlen,qh]at z;exact z
  ·subst Dk;rw[e1]at e2;cases e2;rw[Be.inj ds Co _ g1 g2,BB _ (by rw[nod];exact n2)]
 case lst.lst ds a1 vs1 its1 e1 g1 q1 tp1 Co a2 vs2 Ci e2 g2 q2 tp2=>
  rw[nod]at n1 n2;rw[eW]at hn;have hl1:=g1.length;have hl2:=g2.length;have hq1:=q1.length;have hq2:=q2.length;refine ok ?_ λDk=>?_
  ·rw[bI]
   by_cases hlen:ds.length=Co.length
   ·have z:=SeqAt.RcAt.lists (e:=λj=>bI (ds.getD j .non) (Co.getD j .non)) tp1 tp2 (by simp;omega) Bl (wX hok (Cw (by omega)) (by omega) n1 n2 g1 g2 q1 q2);rw[tJ hlen];simpa[hq1.symm,hl1]using z
   ·rw[tK hlen];exact SeqAt.RcAt.lists_lengths tp1 tp2 (by simp;omega) Bl
  ·subst Dk;rw[e1]at e2;cases e2;rw[Be.inj ds Co _ g1 g2,BB _ (by rw[nod];exact n2)]
 case non.non=>exact⟨.none_none,.same _⟩
 case non.bl=>exact⟨.none_bool _,.none_bool _⟩
 case non.int=>exact⟨.none_int _ _,.none_int _ _⟩
 case non.str=>exact⟨.none_str _ _,.none_str _ _⟩
 case non.tup=>exact⟨.none_tuple ‹_› Bl,.none_tuple ‹_› Bl⟩
 case non.lst=>exact⟨.none_list ‹_› Bl,.none_list ‹_› Bl⟩
 case bl.non=>exact⟨.bool_none _,.bool_none _⟩
 case bl.bl=>exact⟨.bool_bool _ _,.bool_bool _ _⟩
 case bl.int=>exact⟨.bool_int _ _ _,.bool_int _ _ _⟩
 case bl.str=>exact⟨.bool_str _ _ _,.bool_str _ _ _⟩
 case bl.tup=>exact⟨.bool_tuple _ ‹_› Bl,.bool_tuple _ ‹_› Bl⟩
 case bl.lst=>exact⟨.bool_list _ ‹_› Bl,.bool_list _ ‹_› Bl⟩
 case int.non=>exact⟨.int_none _ _,.int_none _ _⟩
 case int.bl=>exact⟨.int_bool _ _ _,.int_bool _ _ _⟩
 case int.int=>exact⟨.int_int _ _ _ _,.int_int _ _ _ _⟩
 case int.str=>exact⟨.int_str _ _ _ _,.int_str _ _ _ _⟩
 case int.tup=>exact⟨.int_tuple _ _ ‹_› Bl,.int_tuple _ _ ‹_› Bl⟩
 case int.lst=>exact⟨.int_list _ _ ‹_› Bl,.int_list _ _ ‹_› Bl⟩
 case str.non=>exact⟨.str_none _ _,.str_none _ _⟩
 case str.bl=>exact⟨.str_bool _ _ _,.str_bool _ _ _⟩
 case str.int=>exact⟨.str_int _ _ _ _,.str_int _ _ _ _⟩
 case str.str=>exact⟨.str_str _ _ _ _,.str_str _ _ _ _⟩
 case str.tup=>exact⟨.str_tuple _ _ ‹_› Bl,.str_tuple _ _ ‹_› Bl⟩
 case str.lst=>exact⟨.str_list _ _ ‹_› Bl,.str_list _ _ ‹_› Bl⟩
 case tup.non=>exact⟨.tuple_none ‹_› Bl,.tuple_none ‹_› Bl⟩
 case tup.bl=>exact⟨.tuple_bool _ ‹_› Bl,.tuple_bool _ ‹_› Bl⟩
 case tup.int=>exact⟨.tuple_int _ _ ‹_› Bl,.tuple_int _ _ ‹_› Bl⟩
 case tup.str=>exact⟨.tuple_str _ _ ‹_› Bl,.tuple_str _ _ ‹_› Bl⟩
 case tup.lst=>exact⟨.tuple_list ‹_› ‹_› Bl,.tuple_list ‹_› ‹_› Bl⟩
 case lst.non=>exact⟨.list_none ‹_› Bl,.list_none ‹_› Bl⟩
 case lst.bl=>exact⟨.list_bool _ ‹_› Bl,.list_bool _ ‹_› Bl⟩
 case lst.int=>exact⟨.list_int _ _ ‹_› Bl,.list_int _ _ ‹_› Bl⟩
 case lst.str=>exact⟨.list_str _ _ ‹_› Bl,.list_str _ _ ‹_› Bl⟩
 case lst.tup=>exact⟨.list_tuple ‹_› ‹_› Bl,.list_tuple ‹_› ‹_› Bl⟩
theorem BE (hok:Cc Pg w H s.heap):∀(n:Nat) (A:bu) (d d':Dt) (u u':af),eW d<=n->A.units+n+1<cLine->nod d=true->nod d'=true->Vw P H s d u->Vw P H s d' u'->sy A s u u' (bI d d')/\kj A s u u' (bI d d')
 |0=>IZ hok 0 λ_ e=>by cases e
 |n+1=>IZ hok _ λm e=>by cases e;exact BE hok n
theorem I0 (hok:Cc Pg w H s.heap) (n:Nat) (A:bu) (d d':Dt) (v v':V) (u u':af) (a:eW d<=n) (b:A.units+n+1<cLine) (n1:nod d=true) (n2:nod d'=true) (h:Den P H d v) (h':Den P H d' v') (r:RelV v u) (r':RelV v' u'):
  sy A s u u' (bI d d')/\kj A s u u' (bI d d'):=BE hok n A d d' u u' a b n1 n2 (vw hok n1 h r) (vw hok n2 h' r')
end
end L2
open L2.Dt renaming int->Fx
namespace L2.Mr
inductive Dv where
 |non|bl (b:Bool)|int (i:Int)|str (x:Str)|tup (xs:List Dv)|ref (i:Nat)|edc|exc (c:Nat)|scr
inductive Ob where
 |lst (xs:List Dv)
 |clo (k t:Nat)
abbrev Hs:=List Ob
abbrev Ev:=List (Option Dv)
inductive Rs (α:Type) where
 |ok (a:α) (h:Hs)|ex (c:Nat) (h:Hs)|bad
abbrev Ak:=List Dv->Hs->Rs Dv
abbrev Al:=List Dv
abbrev Am:=Option Dv
noncomputable def Rs.bind {α β:Type}(r:Rs α) (f:α->Hs->Rs β):Rs β:=match r with
 | .ok a h=>f a h
 | .ex c h=>.ex c h
 | .bad=>.bad
@[simp] theorem Rs.bind_ok {α β:Type}(a:α) (h:Hs) (f:α->Hs->Rs β):(Rs.ok a h).bind f=f a h:=rfl
@[simp] theorem Rs.bind_ex {α β:Type}(c:Nat) (h:Hs) (f:α->Hs->Rs β):(Rs.ex c h).bind f=.ex c h:=rfl
@[simp] theorem Rs.bind_bad {α β:Type}(f:α->Hs->Rs β):(Rs.bad).bind f=.bad:=rfl
abbrev M (α:Type):=Ev->Hs->Rs α
structure Cf0 where
 K:aq
 cl:Nat->ah
 scr:Ah
 sa:ah
 tab:Option ah:=none
 lq:Str:=Str.empty
def eE (C:af) (e T:ah) (a0:af) (h:cu):Prop:=∃oe vs,h.get? e=some oe/\oe.cls=C/\oe.data=.fields vs/\vs[0]?=some a0/\vs[1]?=some (.ref T)/\oe.dict=none
def wY (G:Cf0) (H:Hp) (c:Nat) (u:af):Prop:=∃e φ,u=.ref e/\H e=some (.ext φ)/\∀h,φ h->∃o,h.get? e=some o/\o.cls=.ref (G.cl c)
def BF:HO->Prop
 | .tup _=>True
 | .dK kvs=>kvs=[]
 | .frz _ _=>True
 |_=>False
def FzL (K:aq) (H:Hp) (a:ah) (xs:Ge):Prop:=(∃o,H a=some (.frz o (.lst xs))) ∨
  ∃(o:Obj) (its:Array af) (n:Nat),K.lookup a=some o/\o.cls=.type "list"/\o.dict=none/\o.data=.seq its n/\its.size<=ck/\Az xs its.toList
theorem FzL.sq {K:aq}{H:Hp}{a:ah}{xs:Ge}(h:FzL K H a xs):Bs K H a xs:=by
 rcases h with⟨o,h⟩|h
 ·exact .inl (.inr ⟨o,h⟩)
 ·exact .inr h
theorem FzL.keep {K:aq}{H H':Hp}{a:ah}{xs:Ge}(h:FzL K H a xs) (k:∀a o,BF o->H a=some o->H' a=some o):FzL K H' a xs:=by
 rcases h with⟨o,h⟩|h
 ·exact .inl ⟨o,k a _ trivial h⟩
 ·exact .inr h
mutual
def Ax (G:Cf0) (μ:Nat->ah) (n:Nat) (H:Hp):Dv->V->Prop
 | .non,v=>v=.non
 | .bl b,v=>v=.bl b
 | .int i,v=>v=.int i
 | .str x,v=>v=.str x
 | .tup ds,v=>∃a vs,v=.ref a/\H a=some (.tup vs)/\RelDL G μ n H ds vs
 | .ref i,v=>i<n/\v=.ref (μ i)
 | .edc,v=>∃a,v=.ref a/\H a=some (.dK [])
 | .exc c,v=>∃a o u,v=.ref a/\H a=some (.frz o u)/\o.cls=.ref (G.cl c)/\o.dict=none/\∃vs,o.data=.fields vs
 | .scr,v=>v=.ref G.sa/\FzL G.K H G.sa (G.scr.map Fm)
def RelDL (G:Cf0) (μ:Nat->ah) (n:Nat) (H:Hp):Al->Ge->Prop
 | [],vs=>vs=[]
 |d::ds,vs=>∃v r,vs=v::r/\Ax G μ n H d v/\RelDL G μ n H ds r
end
structure Ext (μ:Nat->ah) (n:Nat) (H:Hp) (μ':Nat->ah) (n':Nat) (H':Hp):Prop where
 le:n<=n'
 mu:∀i,i<n->μ' i=μ i
 im:∀a o,BF o->H a=some o->H' a=some o
theorem Ext.refl {μ:Nat->ah}{n:Nat}{H:Hp}:Ext μ n H μ n H:=⟨aj _,λ_ _=>rfl,λ_ _ _ e=>e⟩
theorem Ext.trans {μ μ1 μ2:Nat->ah}{n n1 n2:Nat}{H H1 H2:Hp}(a:Ext μ n H μ1 n1 H1) (b:Ext μ1 n1 H1 μ2 n2 H2):Ext μ n H μ2 n2 H2:=⟨dh a.le b.le,λi hi=>(b.mu i (av hi a.le)).trans (a.mu i hi),λc o i e=>b.im c o i (a.im c o i e)⟩
structure Cfg extends Cf0 where
 clo:(Nat->ah)->Nat->Hp->Nat->Nat->ah->Prop:=λ_ _ _ _ _ _=>True
 cloM:∀{μ μ':Nat->ah}{n n':Nat}{H H':Hp}{k t:Nat}{a:ah},Ext μ n H μ' n' H'->clo μ n H k t a->clo μ' n' H' k t a:=by intros;trivial
instance:Coe Cfg Cf0:=⟨Cfg.toCf0⟩
section
variable{G:Cf0}{μ μ':Nat->ah}{n n':Nat}{H H':Hp}
mutual
theorem Ax.mono (x:Ext μ n H μ' n' H'):∀(d:Dv) (v:V),Ax G μ n H d v->Ax G μ' n' H' d v
 | .non,v,h=>h
 | .bl b,v,h=>h
 | .int i,v,h=>h
 | .str s,v,h=>h
 | .tup ds,v,h=>by obtain⟨a,vs,e,h1,h2⟩:=h;exact⟨a,vs,e,x.im a _ trivial h1,RelDL.mono x ds vs h2⟩
 | .ref i,v,h=>by obtain⟨h1,h2⟩:=h;exact⟨av h1 x.le,by rw[x.mu i h1];exact h2⟩
 | .edc,v,h=>by obtain⟨a,e,h1⟩:=h;exact⟨a,e,x.im a _ rfl h1⟩
 | .exc c,v,h=>by obtain⟨a,o,u,e,h1,h2⟩:=h;exact⟨a,o,u,e,x.im a _ trivial h1,h2⟩
 | .scr,v,h=>by obtain⟨h1,h2⟩:=h;exact⟨h1,h2.keep x.im⟩
theorem RelDL.mono (x:Ext μ n H μ' n' H'):∀(ds:Al) (vs:Ge),RelDL G μ n H ds vs->RelDL G μ' n' H' ds vs
 | [],vs,h=>h
 |d::ds,vs,h=>by obtain⟨v,r,e,h1,h2⟩:=h;exact⟨v,r,e,Ax.mono x d v h1,RelDL.mono x ds r h2⟩
end
theorem RelDL.length:∀{ds:Al}{vs:Ge},RelDL G μ n H ds vs->vs.length=ds.length
 | [],_,h=>by rw[RelDL]at h;subst h;rfl
 |d::ds,_,h=>by rw[RelDL]at h;obtain⟨v,r,rfl,_,h2⟩:=h;rw[cg,cg,RelDL.length h2]
theorem RelDL.get:∀{ds:Al}{vs:Ge}{i:Nat}{d:Dv},RelDL G μ n H ds vs->ds[i]?=some d->∃v,vs[i]?=some v/\Ax G μ n H d v
 | [],_,_,_,_,e=>by simp at e
 |d::ds,_,0,d',h,e=>by rw[RelDL]at h;obtain⟨v,r,rfl,h1,_⟩:=h;simp at e;subst e;exact⟨v,rfl,h1⟩
 |d::ds,_,i+1,d',h,e=>by rw[RelDL]at h;obtain⟨v,r,rfl,_,h2⟩:=h;obtain⟨u,e1,h3⟩:=RelDL.get (i:=i) h2 (by simpa using e);exact⟨u,by simpa using e1,h3⟩
theorem RelDL.nil:RelDL G μ n H [] []:=by rw[RelDL]
theorem RelDL.cons {d:Dv}{v:V}{ds:Al}{vs:Ge}(h:Ax G μ n H d v) (t:RelDL G μ n H ds vs):RelDL G μ n H (d::ds) (v::vs):=by rw[RelDL];exact⟨v,vs,rfl,h,t⟩
theorem RelDL.append:∀{ds es:Al}{vs ws:Ge},RelDL G μ n H ds vs->RelDL G μ n H es ws->RelDL G μ n H (ds++es) (vs++ws)
 | [],_,_,_,h,h'=>by rw[RelDL]at h;subst h;exact h'
 |d::ds,_,_,_,h,h'=>by rw[RelDL]at h;obtain⟨v,r,rfl,h1,h2⟩:=h;exact RelDL.cons h1 (RelDL.append h2 h')
theorem RelDL.take:∀{ds:Al}{vs:Ge}(k:Nat),RelDL G μ n H ds vs->RelDL G μ n H (ds.take k) (vs.take k)
 | [],_,k,h=>by rw[RelDL]at h;subst h;simp[RelDL.nil]
 |d::ds,_,0,h=>by simp[RelDL.nil]
 |d::ds,_,k+1,h=>by rw[RelDL]at h;obtain⟨v,r,rfl,h1,h2⟩:=h;exact RelDL.cons h1 (RelDL.take k h2)
theorem RelDL.drop:∀{ds:Al}{vs:Ge}(k:Nat),RelDL G μ n H ds vs->RelDL G μ n H (ds.drop k) (vs.drop k)
 | [],_,k,h=>by rw[RelDL]at h;subst h;simp[RelDL.nil]
 |d::ds,_,0,h=>h
 |d::ds,_,k+1,h=>by rw[RelDL]at h;obtain⟨v,r,rfl,h1,h2⟩:=h;exact RelDL.drop k h2
theorem RelDL.set {x:Dv}{u:V}(hx:Ax G μ n H x u):∀{ds:Al}{vs:Ge}(i:Nat),RelDL G μ n H ds vs->RelDL G μ n H (ds.set i x) (vs.set i u)
 | [],_,_,h=>by rw[RelDL]at h;subst h;exact RelDL.nil
 |d::ds,_,0,h=>by rw[RelDL]at h;obtain⟨v,r,rfl,h1,h2⟩:=h;exact RelDL.cons hx h2
 |d::ds,_,i+1,h=>by rw[RelDL]at h;obtain⟨v,r,rfl,h1,h2⟩:=h;exact RelDL.cons h1 (RelDL.set hx i h2)
end
def ObR (G:Cfg) (μ:Nat->ah) (n:Nat) (H:Hp) (a:ah):Ob->Prop
 | .lst xs=>∃vs,H a=some (.lst vs)/\RelDL G μ n H xs vs
 | .clo k t=>t<n/\(∃o u,H a=some (.frz o u))/\G.clo μ n H k t a
theorem ObR.clo {G:Cfg}{μ μ':Nat->ah}{n n':Nat}{H H':Hp}{a:ah}{k t:Nat}(r:ObR G μ n H a (.clo k t)) (x:Ext μ n H μ' n' H'):ObR G μ' n' H' a (.clo k t):=by obtain⟨h1,⟨o,u,h2⟩,h3⟩:=r;exact⟨av h1 x.le,⟨o,u,x.im _ _ trivial h2⟩,G.cloM x h3⟩
def wZ (q:Str) (oc:Obj):Prop:=∃vs t,oc.data=.fields vs/\vs[1]?=some (.str q t)
def Dg (G:Cf0) (H:Hp):Prop:=∀P,G.tab=some P->∃ps,H P=some (.tbl ps)/\vp ps.toList/\∀pos cv,codeAmong pos ps.toList=some cv->∃q oc,cv=.ref q/\H q=some (.frz oc (.own 0))/\wZ G.lq oc
theorem Dg.keep {G:Cf0}{H H':Hp}(t:Dg G H) (k:∀a o,(∀xs,o≠.lst xs)->(∀φ,o≠.ext φ)->H a=some o->H' a=some o):Dg G H':=λP e=>by obtain⟨ps,h1,h2,h3⟩:=t P e;refine⟨ps,k P _ (λ_ z=>by cases z) (λ_ z=>by cases z) h1,h2,λpos cv q=>?_⟩;obtain⟨a,oc,e1,e2,e3⟩:=h3 pos cv q;exact⟨a,oc,e1,k a _ (λ_ z=>by cases z) (λ_ z=>by cases z) e2,e3⟩
structure Bh (G:Cfg) (μ:Nat->ah) (h:Hs) (H:Hp):Prop where
 inj:∀i j,i<h.length->j<h.length->μ i=μ j->i=j
 ob:∀(i:Nat) (o:Ob),h[i]?=some o->ObR G μ h.length H (μ i) o
 tab:Dg G H
structure Bf (G:Cfg) (μ:Nat->ah) (n:Nat) (H:Hp) (ρ:Ev) (σ:St):Prop where
 len:ρ.length=σ.length
 at_:∀(i:Nat) (d:Dv),ρ[i]?=some (some d)->∃v,σ[i]?=some (some v)/\Ax G μ n H d v
theorem Bf.mono {G:Cfg}{μ μ':Nat->ah}{n n':Nat}{H H':Hp}{ρ:Ev}{σ:St}(r:Bf G μ n H ρ σ) (x:Ext μ n H μ' n' H'):Bf G μ' n' H' ρ σ:=⟨r.len,λi d e=>let ⟨v,e1,h⟩:=r.at_ i d e;⟨v,e1,Ax.mono x d v h⟩⟩
def Out {α β:Type}(G:Cfg) (E:XK) (μ:Nat->ah) (n:Nat) (H:Hp) (r:Rs α) (R:(Nat->ah)->Nat->Hp->α->β->Prop) (Q:β->Hp->Prop):Prop:=
 match r with
 | .ok d h'=>∀μ' H' v,Ext μ n H μ' h'.length H'->Bh G μ' h' H'->R μ' h'.length H' d v->Q v H'
 | .ex c h'=>∀μ' H' u,Ext μ n H μ' h'.length H'->Bh G μ' h' H'->wY G H' c u->E u none H'
 | .bad=>False
theorem Out.bind {α β γ δ:Type}{G:Cfg}{E:XK}{μ:Nat->ah}{n:Nat}{H:Hp}{r:Rs α}{f:α->Hs->Rs γ}{R:(Nat->ah)->Nat->Hp->γ->δ->Prop}{Q:δ->Hp->Prop}{R1:(Nat->ah)->Nat->Hp->α->β->Prop}
  (o:Out G E μ n H (r.bind f) R Q):Out G E μ n H r R1 λv H1=>∃μ1 d h1,Ext μ n H μ1 h1.length H1/\Bh G μ1 h1 H1/\R1 μ1 h1.length H1 d v/\Out G E μ1 h1.length H1 (f d h1) R Q:=by
 cases r with
 |bad=>exact o
 |ex c h'=>exact o
 |ok d h'=>
  intro μ1 H1 v x1 s1 r1;refine⟨μ1,d,h',x1,s1,r1, ?_⟩;have o':Out G E μ n H (f d h') R Q:=o
  cases e:f d h' with
  |bad=>rw[e]at o';exact o'
  |ex c h2=>rw[e]at o';exact λμ2 H2 u x2 s2 r2=>o' μ2 H2 u (x1.trans x2) s2 r2
  |ok d2 h2=>rw[e]at o';exact λμ2 H2 u x2 s2 r2=>o' μ2 H2 u (x1.trans x2) s2 r2
theorem Out.mono {α β:Type}{G:Cfg}{E:XK}{μ:Nat->ah}{n:Nat}{H:Hp}{r:Rs α}{R:(Nat->ah)->Nat->Hp->α->β->Prop}{Q Q':β->Hp->Prop}(o:Out G E μ n H r R Q) (h:∀v H',Q v H'->Q' v H'):Out G E μ n H r R Q':=by
 cases r with
 |bad=>exact o
 |ex c h'=>exact o
 |ok d h'=>exact λμ' H' v x s r=>h _ _ (o μ' H' v x s r)
abbrev RB:(Nat->ah)->Nat->Hp->Bool->Bool->Prop:=λ_ _ _ b b'=>b'=b
def iJ (G:Cfg) (E:XK) (m:M Dv):TE:=λσ H Q=>∃μ ρ h,Bf G μ h.length H ρ σ/\Bh G μ h H/\Out G E μ h.length H (m ρ h) (Ax G) Q
def iR (G:Cfg) (E:XK) (m:M Bool):TT:=λσ H Q=>∃μ ρ h,Bf G μ h.length H ρ σ/\Bh G μ h H/\Out G E μ h.length H (m ρ h) RB Q
def BG (G:Cfg) (E:XK) (m:M Al ):TA:=λσ H Q=>∃μ ρ h,Bf G μ h.length H ρ σ/\Bh G μ h H/\Out G E μ h.length H (m ρ h) (RelDL G) Q
def aJ (X:Cx) (G:Cfg) (E:XK) (pe:bj) (m:M Dv):Prop:=X.K=G.K->PE X pe (iJ G E m)
def fF (X:Cx) (G:Cfg) (E:XK) (pe:bj) (m:M Bool):Prop:=X.K=G.K->PT X pe (iR G E m)
def eF (X:Cx) (G:Cfg) (E:XK) (pe:List bj) (m:M Al ):Prop:=X.K=G.K->PA X pe (BG G E m)
theorem PE.imp {X:Cx}{e:bj}{t t':TE}(h:PE X e t) (i:∀σ H Q,t' σ H Q->t σ H Q):PE X e t':=λpins s σ H Q I q=>h pins s σ H Q I (i σ H Q q)
theorem PT.imp {X:Cx}{e:bj}{t t':TT}(h:PT X e t) (i:∀σ H Q,t' σ H Q->t σ H Q):PT X e t':=λpins s σ H Q I q=>h pins s σ H Q I (i σ H Q q)
theorem PA.imp {X:Cx}{e:List bj}{t t':TA}(h:PA X e t) (i:∀σ H Q,t' σ H Q->t σ H Q):PA X e t':=λpos pins s σ H Q I q=>h pos pins s σ H Q I (i σ H Q q)
section
variable{G:Cfg}{E:XK}{σ:St}{H:Hp}
theorem fG {m:M Dv}{γ δ:Type}{f:Dv->Hs->Rs γ}{R:(Nat->ah)->Nat->Hp->γ->δ->Prop}{Q:δ->Hp->Prop}{Q1:V->Hp->Prop}{μ:Nat->ah}{ρ:Ev}{h:Hs}(rs:Bf G μ h.length H ρ σ) (s:Bh G μ h H) (o:Out G E μ h.length H ((m ρ h).bind f) R Q)
  (k:∀μ1 d h1 v H1,Ext μ h.length H μ1 h1.length H1->Bf G μ1 h1.length H1 ρ σ->Bh G μ1 h1 H1->Ax G μ1 h1.length H1 d v->Out G E μ1 h1.length H1 (f d h1) R Q->Q1 v H1):iJ G E m σ H Q1:=
 ⟨μ,ρ,h,rs,s,(o.bind (R1:=Ax G)).mono λv H1 ⟨μ1,d,h1,x,s1,r1,o1⟩=>k μ1 d h1 v H1 x (rs.mono x) s1 r1 o1⟩
theorem BH {m:M Bool}{γ δ:Type}{f:Bool->Hs->Rs γ}{R:(Nat->ah)->Nat->Hp->γ->δ->Prop}{Q:δ->Hp->Prop}{Q1:Bool->Hp->Prop}{μ:Nat->ah}{ρ:Ev}{h:Hs}(rs:Bf G μ h.length H ρ σ) (s:Bh G μ h H) (o:Out G E μ h.length H ((m ρ h).bind f) R Q)
  (k:∀μ1 b h1 H1,Ext μ h.length H μ1 h1.length H1->Bf G μ1 h1.length H1 ρ σ->Bh G μ1 h1 H1->Out G E μ1 h1.length H1 (f b h1) R Q->Q1 b H1):iR G E m σ H Q1:=
 ⟨μ,ρ,h,rs,s,(o.bind (R1:=RB)).mono λv H1 ⟨μ1,d,h1,x,s1,r1,o1⟩=>by have e:v=d:=r1;subst e;exact k μ1 v h1 H1 x (rs.mono x) s1 o1⟩
theorem kY {m:M Al }{γ δ:Type}{f:Al->Hs->Rs γ}{R:(Nat->ah)->Nat->Hp->γ->δ->Prop}{Q:δ->Hp->Prop}{Q1:Ge->Hp->Prop}{μ:Nat->ah}{ρ:Ev}{h:Hs}(rs:Bf G μ h.length H ρ σ) (s:Bh G μ h H) (o:Out G E μ h.length H ((m ρ h).bind f) R Q)
  (k:∀μ1 d h1 v H1,Ext μ h.length H μ1 h1.length H1->Bf G μ1 h1.length H1 ρ σ->Bh G μ1 h1 H1->RelDL G μ1 h1.length H1 d v->Out G E μ1 h1.length H1 (f d h1) R Q->Q1 v H1):BG G E m σ H Q1:=
 ⟨μ,ρ,h,rs,s,(o.bind (R1:=RelDL G)).mono λv H1 ⟨μ1,d,h1,x,s1,r1,o1⟩=>k μ1 d h1 v H1 x (rs.mono x) s1 r1 o1⟩
theorem Out.val {α β:Type}{μ:Nat->ah}{h:Hs}{d:α}{R:(Nat->ah)->Nat->Hp->α->β->Prop}{Q:β->Hp->Prop}{v:β}(s:Bh G μ h H) (o:Out G E μ h.length H (.ok d h) R Q) (r:R μ h.length H d v):Q v H:=o μ H v Ext.refl s r
end
section
variable{G:Cfg}{μ:Nat->ah}{h:Hs}{H H':Hp}{p:ah}{n:Nat}
theorem Ext.same (e:Cj H H'):Ext μ n H μ n H':=⟨aj _,λ_ _=>rfl,λa o _ q=>e a o q⟩
theorem Bh.same (s:Bh G μ h H) (e:Cj H H'):Bh G μ h H':=⟨s.inj,λi o q=>by
 have r:=s.ob i o q
 cases o with
 |lst xs=>obtain⟨vs,e1,r1⟩:=r;exact⟨vs,e _ _ e1,RelDL.mono (Ext.same e) _ _ r1⟩
 |clo k t=>exact r.clo (Ext.same e),s.tab.keep λa o _ _ q=>e a o q⟩
theorem dH {o:HO}(h:H p=none):Cj H (aU H p o):=λb u e=>by rw[bV (gA e h)];exact e
theorem Bh.not (s:Bh G μ h H) (hp:H p=none):∀(i:Nat),i<h.length->μ i≠p:=λi hi z=>by
 have q:h[i]?=some h[i]:=aw hi;generalize h[i]=o at q
 cases o with
 |lst xs=>obtain⟨vs,e1,_⟩:=s.ob i _ q;rw[z,hp]at e1;cases e1
 |clo k t=>obtain⟨_,⟨o,u,e1⟩,_⟩:=s.ob i _ q;rw[z,hp]at e1;cases e1
theorem Bh.alloc {ds:Al}{vs:Ge}(s:Bh G μ h H) (hp:H p=none) (r:RelDL G μ h.length H ds vs):
  Ext μ h.length H (λi=>if i=h.length then p else μ i) (h++[Ob.lst ds]).length (aU H p (.lst vs))/\Bh G (λi=>if i=h.length then p else μ i) (h++[.lst ds]) (aU H p (.lst vs)):=by
 have hl:(h++[Ob.lst ds]).length=h.length+1:=by simp
 have hq:=s.not hp;have x:Ext μ h.length H (λi=>if i=h.length then p else μ i) (h++[Ob.lst ds]).length (aU H p (.lst vs)):=⟨by omega,λi hi=>if_neg (bg hi),λa o _ e=>dH hp a o e⟩
 refine⟨x,λi j hi hj e=>?_,λi o q=>?_,s.tab.keep λa o _ _ q=>dH hp a o q⟩
 ·rw[hl]at hi hj
  by_cases h1:i=h.length <;> by_cases h2:j=h.length
  ·omega
  ·rw[if_pos h1,if_neg h2]at e;exact absurd e.symm (hq j (by omega))
  ·rw[if_neg h1,if_pos h2]at e;exact absurd e (hq i (by omega))
  ·rw[if_neg h1,if_neg h2]at e;exact s.inj i j (by omega) (by omega) e
 ·by_cases h1:i<h.length
  ·rw[dz h1]at q;have r1:=s.ob i o q
   cases o with
   |lst xs=>obtain⟨ws,e1,r2⟩:=r1;exact⟨ws,by rw[if_neg (bg h1)];exact dH hp _ _ e1,RelDL.mono x _ _ r2⟩
   |clo k t=>rw[if_neg (bg h1)];exact r1.clo x
  ·rw[gq (by omega)]at q;have h2:i=h.length:=by have:=(az.mp q).1;simp at this;omega
   subst h2;simp at q;subst q;exact⟨vs,by rw[if_pos rfl];exact dF,RelDL.mono x _ _ r⟩
theorem Bh.write {xs ys:Al}{i:Nat}{vs:Ge}(s:Bh G μ h H) (q:h[i]?=some (.lst xs)) (r:RelDL G μ h.length H ys vs):
  Ext μ h.length H μ (h.set i (.lst ys)).length (aU H (μ i) (.lst vs))/\Bh G μ (h.set i (.lst ys)) (aU H (μ i) (.lst vs)):=by
 obtain⟨us,e0,r0⟩:=s.ob i _ q;have hi:i<h.length:=(az.mp q).1;have im:∀a o,BF o->H a=some o->aU H (μ i) (.lst vs) a=some o:=λa o m e=>by
  rw[bV];exact e
  rintro rfl;rw[e0]at e;cases e;exact m
 have x:Ext μ h.length H μ (h.set i (.lst ys)).length (aU H (μ i) (.lst vs)):=⟨by simp,λ_ _=>rfl,im⟩
 refine⟨x,λa b ha hb=>?_,λj o e=>?_,s.tab.keep λa o n1 _ q=>?_⟩
 rotate_left 2
 ·rw[bV];exact q
  rintro rfl;rw[e0]at q;cases q;exact n1 _ rfl
 ·rw[kz]at ha hb;exact s.inj a b ha hb
 ·by_cases Cr:i=j
  ·subst Cr;rw[df hi]at e;cases e;exact⟨vs,dF,RelDL.mono x _ _ r⟩
  ·rw[du Cr]at e;have hj:j<h.length:=(az.mp e).1;have r1:=s.ob j o e;have ne:μ j≠μ i:=λz=>Cr (s.inj j i hj hi z).symm
   cases o with
   |lst zs=>obtain⟨ws,e1,r2⟩:=r1;exact⟨ws,by rw[bV ne];exact e1,RelDL.mono x _ _ r2⟩
   |clo k t=>exact r1.clo x
end
def lim {α:Type}(n:Nat) (r:Rs α):Rs α:=if n<=1000000 then r else .bad
theorem tL {n:Nat}(h:n<=1000000):n<=ck:=dh h (by decide)
def getL (h:Hs) (i:Nat):Option Al :=match h[i]? with
 |some (.lst xs)=>some xs
 |_=>none
theorem dO {h:Hs}{i:Nat}{xs:Al}(e:getL h i=some xs):h[i]?=some (.lst xs):=by
 unfold getL at e
 cases q:h[i]? with
 |none=>rw[q]at e;cases e
 |some o=>
  cases o with
  |lst ys=>rw[q]at e;cases e;rfl
  |clo k t=>rw[q]at e;cases e
section
variable{X:Cx}{G:Cfg}{E:XK}{a b c:bj}{ma mb mc:M Dv}{pos:Pos}{es:List bj}{aR:M Al }
def aA (i:Nat):M Dv:=λρ h=>match ρ[i]? with
 |some (some d)=>.ok d h
 |_=>.bad
theorem aD (i:Nat) {x:Str}(hN:X.N[i]?=some x:=by rfl) (hv:qZ X.env.scope x:=by first|exact zo rfl|exact Or.inr (zo rfl)|exact Or.inr (Or.inr rfl))
  (hd:(x==Gd)=false:=by decide) (hcd:(x==("__classdict__" : Str))=false:=by decide):aJ X G E (.Name x pos) (aA i):=λ_=>PE.imp (sW hN hv hd hcd) λσ H Q ⟨μ,ρ,h,rs,s,o⟩=>by
 unfold aA at o
 split at o
 ·rename_i d e;obtain⟨v,e1,r⟩:=rs.at_ i d e;exact⟨v,e1,o.val s r⟩
 ·exact o.elim
def mC (d:Dv):M Dv:=λ_ h=>.ok d h
theorem bA {i j}:aJ X G E (.Constant (.int i) j pos) (mC (.int i)):=λ_=>PE.imp RE λσ H Q ⟨μ,ρ,h,rs,s,o⟩=>o.val s (show Ax G μ _ H (.int i) (.int i) from rfl)
theorem gB {i j}:aJ X G E (.Constant (.bool i) j pos) (mC (.bl i)):=λ_=>PE.imp RF λσ H Q ⟨μ,ρ,h,rs,s,o⟩=>o.val s (show Ax G μ _ H (.bl i) (.bl i) from rfl)
theorem lZ {j}:aJ X G E (.Constant .none j pos) (mC .non):=λ_=>PE.imp GW λσ H Q ⟨μ,ρ,h,rs,s,o⟩=>o.val s (show Ax G μ _ H .non .non from rfl)
theorem oX {x j}:aJ X G E (.Constant (.str x) j pos) (mC (.str x)):=λ_=>PE.imp GX λσ H Q ⟨μ,ρ,h,rs,s,o⟩=>o.val s (show Ax G μ _ H (.str x) (.str x) from rfl)
def aC:M Al :=λ_ h=>.ok [] h
def aB (m:M Dv) (ms:M Al ):M Al :=λρ h=>(m ρ h).bind λd h1=>(ms ρ h1).bind λds h2=>.ok (d::ds) h2
theorem aO:eF X G E [] aC:=λ_=>PA.imp jM λσ H Q ⟨μ,ρ,h,rs,s,o⟩=>o.val s RelDL.nil
theorem aG (ha:aJ X G E a ma) (hr:eF X G E es aR) (hs:ar (a::es) X.env=(false,eval a X.env)::ar es X.env:=by rfl):eF X G E (a::es) (aB ma aR):=λhK=>PA.imp (iI (ha hK) (hr hK) hs) λσ H Q ⟨μ,ρ,h,rs,s,o⟩=>fG rs s o λμ1 d h1 v H1 x1 Bm s1 r1 o1=>kY Bm s1 o1 λμ2 ds h2 vs H2 x2 Dj s2 r2 o2=>o2.val s2 (RelDL.cons (Ax.mono x2 _ _ r1) r2)
def aK (ms:M Al ):M Dv:=λρ h=>(ms ρ h).bind λds h1=>lim ds.length (.ok (.tup ds) h1)
theorem gF {k} (h:eF X G E es aR):aJ X G E (.Tuple es k pos) (aK aR):=λhK=>PE.imp (HJ (h hK)) λσ H Q ⟨μ,ρ,h,rs,s,o⟩=>kY rs s o λμ1 ds h1 vs H1 x1 Bm s1 r1 o1=>by
 unfold lim at o1
 split at o1
 ·rename_i hl;refine⟨by rw[r1.length];exact tL hl,λp hp=>?_⟩;exact o1 μ1 _ _ (Ext.same (dH hp)) (s1.same (dH hp)) ⟨p,vs,rfl,dF,RelDL.mono (Ext.same (dH hp)) _ _ r1⟩
 ·exact o1.elim
def aS (ms:M Al ):M Dv:=λρ h=>(ms ρ h).bind λds h1=>lim ds.length (.ok (.ref h1.length) (h1++[.lst ds]))
theorem rE {μ:Nat->ah}{h:Hs}{H:Hp}{ds:Al}{vs:Ge}{Q:VK}{p:ah}(s:Bh G μ h H) (r:RelDL G μ h.length H ds vs) (hp:H p=none) (o:Out G E μ h.length H (.ok (.ref h.length) (h++[.lst ds])) (Ax G) Q):Q (.ref p) (aU H p (.lst vs)):=by obtain⟨x,s'⟩:=s.alloc hp r;exact o _ _ _ x s' ⟨by simp,by show Gb p=Gb (if h.length=h.length then p else μ h.length);rw[if_pos rfl]⟩
theorem gC (h:eF X G E es aR):aJ X G E (.List es pos) (aS aR):=λhK=>PE.imp (T5 (h hK)) λσ H Q ⟨μ,ρ,h,rs,s,o⟩=>kY rs s o λμ1 ds h1 vs H1 x1 Bm s1 r1 o1=>by
 unfold lim at o1
 split at o1
 ·rename_i hl;exact⟨by rw[r1.length];exact tL hl,λp hp=>rE s1 r1 hp o1⟩
 ·exact o1.elim
def m2 (f:Dv->Dv->Hs->Rs Dv) (ma mb:M Dv):M Dv:=λρ h=>(ma ρ h).bind λx h1=>(mb ρ h1).bind λy h2=>f x y h2
def fO (G:Cfg) (r:R2) (f:Dv->Dv->Hs->Rs Dv):Prop:=∀(E:XK) (μ:Nat->ah) (h:Hs) (H:Hp) (x y:Dv) (vx vy:V) (Q:VK),Bh G μ h H->Ax G μ h.length H x vx->Ax G μ h.length H y vy->Out G E μ h.length H (f x y h) (Ax G) Q->r vx vy H Q
theorem tM {r:R2}{f:Dv->Dv->Hs->Rs Dv}(hd:fO G r f) {σ:St}{H:Hp}{Q:VK}(t:iJ G E (m2 f ma mb) σ H Q):sZ r (iJ G E ma) (iJ G E mb) σ H Q:=by obtain⟨μ,ρ,h,rs,s,o⟩:=t;exact fG rs s o λμ1 x h1 vx H1 x1 Bm s1 r1 o1=>fG Bm s1 o1 λμ2 y h2 vy H2 x2 Dj s2 r2 o2=>hd E μ2 h2 H2 x y vx vy Q s2 (Ax.mono x2 _ _ r1) r2 o2
theorem rG {op:Operator}{r:R2}{f:Dv->Dv->Hs->Rs Dv}(ho:Bp X (binaryOp op) r) (hd:fO G r f) (ha:aJ X G E a ma) (hb:aJ X G E b mb):aJ X G E (.BinOp a op b pos) (m2 f ma mb):=λhK=>PE.imp (S5 ho (ha hK) (hb hK)) λ_ _ _ t=>tM hd t
theorem nW {op:zc}{r:R2}{f:Dv->Dv->Hs->Rs Dv}(ho:Bp X (compareOp op) r) (hd:fO G r f) (ha:aJ X G E a ma) (hb:aJ X G E b mb) (hm:behindInMarks op b=false):aJ X G E (.Compare a [op] [b] pos) (m2 f ma mb):=λhK=>PE.imp (TM ho (ha hK) (hb hK) hm) λ_ _ _ t=>tM hd t
def dZ:Dv->Hs->Rs Bool
 | .bl b,h=>.ok b h
 |_,_=>.bad
def mB (m:M Dv):M Bool:=λρ h=>(m ρ h).bind dZ
theorem JA {m:M Dv}{σ:St}{H:Hp}{Q:Bool->Hp->Prop}(t:iR G E (mB m) σ H Q):iJ G E m σ H λx H'=>∃k,x=.bl k/\Q k H':=by
 obtain⟨μ,ρ,h,rs,s,o⟩:=t;refine fG rs s o λμ1 x h1 vx H1 x1 Bm s1 r1 o1=>?_
 cases x with
 |bl k=>exact⟨k,r1,o1.val s1 rfl⟩
 |_=>exact o1.elim
theorem mD {op:zc}{r:R2}{f:Dv->Dv->Hs->Rs Dv}(ho:Bp X (compareOp op) r) (hd:fO G r f) (ha:aJ X G E a ma) (hb:aJ X G E b mb) (hm:behindInMarks op b=false):fF X G E (.Compare a [op] [b] pos) (mB (m2 f ma mb)):=λhK=>PT.imp (TN ho (ha hK) (hb hK) hm) λσ H Q t=>tM hd (JA t)
def jO (f f':Dv->Dv->Hs->Rs Dv) (ma mb mc:M Dv):M Dv:=λρ h=>(ma ρ h).bind λx h1=>(mb ρ h1).bind λy h2=>(f x y h2).bind λz h3=>match z with
 | .bl true=>(mc ρ h3).bind λw h4=>f' y w h4
 | .bl false=>.ok (.bl false) h3
 |_=>.bad
theorem JB {r r':R2}{f f':Dv->Dv->Hs->Rs Dv}(hd:fO G r f) (Cs:fO G r' f') {σ:St}{H:Hp}{Q:VK}(t:iJ G E (jO f f' ma mb mc) σ H Q):AW r r' (iJ G E ma) (iJ G E mb) (iJ G E mc) σ H Q:=by
 obtain⟨μ,ρ,h,rs,s,o⟩:=t;refine fG rs s o λμ1 x h1 vx H1 x1 Bm s1 r1 o1=>fG Bm s1 o1 λμ2 y h2 vy H2 x2 Dj s2 r2 o2=>?_;refine hd E μ2 h2 H2 x y vx vy _ s2 (Ax.mono x2 _ _ r1) r2 ((o2.bind (R1:=Ax G)).mono λvz H3 ⟨μ3,z,h3,x3,s3,r3,o3⟩=>?_)
 cases z with
 |bl k=>
  refine⟨k,r3, ?_⟩
  cases k with
  |true=>exact IJ (fG (Dj.mono x3) s3 o3 λμ4 w h4 vw H4 x4 pZ s4 r4 o4=>Cs E μ4 h4 H4 y w vy vw Q s4 (Ax.mono (x3.trans x4) _ _ r2) r4 o4)
  |false=>exact II (o3.val s3 rfl)
 |_=>exact o3.elim
theorem V6 {op Eo:zc}{r r':R2}{f f':Dv->Dv->Hs->Rs Dv}(ho:Bp X (compareOp op) r) (Dm:Bp X (compareOp Eo) r') (hd:fO G r f) (Cs:fO G r' f') (ha:aJ X G E a ma) (hb:aJ X G E b mb) (hc:aJ X G E c mc)
  (hm:lastMarks [op,Eo] [b,c]=false:=by with_unfolding_all rfl):aJ X G E (.Compare a [op,Eo] [b,c] pos) (jO f f' ma mb mc):=λhK=>
 PE.imp (TQ ho Dm (ha hK) (hb hK) (hc hK) hm) λ_ _ _ t=>JB hd Cs t
theorem V7 {op Eo:zc}{r r':R2}{f f':Dv->Dv->Hs->Rs Dv}(ho:Bp X (compareOp op) r) (Dm:Bp X (compareOp Eo) r') (hd:fO G r f) (Cs:fO G r' f') (ha:aJ X G E a ma) (hb:aJ X G E b mb) (hc:aJ X G E c mc)
  (hm:lastMarks [op,Eo] [b,c]=false:=by with_unfolding_all rfl):fF X G E (.Compare a [op,Eo] [b,c] pos) (mB (jO f f' ma mb mc)):=λhK=>
 PT.imp (TR ho Dm (ha hK) (hb hK) (hc hK) hm) λσ H Q t=>JB hd Cs (JA t)
def mE (G:Cfg) (r:V->Hp->VK->Prop) (f:Dv->Hs->Rs Dv):Prop:=∀(E:XK) (μ:Nat->ah) (h:Hs) (H:Hp) (x:Dv) (vx:V) (Q:VK),Bh G μ h H->Ax G μ h.length H x vx->Out G E μ h.length H (f x h) (Ax G) Q->r vx H Q
def m1 (f:Dv->Hs->Rs Dv) (ma:M Dv):M Dv:=λρ h=>(ma ρ h).bind f
theorem V8 {op:UnaryOp}{r:V->Hp->VK->Prop}{f:Dv->Hs->Rs Dv}(ho:wK X (unaryOp op) r) (hd:mE G r f) (ha:aJ X G E a ma):aJ X G E (.UnaryOp op a pos) (m1 f ma):=λhK=>PE.imp (S6 ho (ha hK)) λσ H Q ⟨μ,ρ,h,rs,s,o⟩=>fG rs s o λμ1 x h1 vx H1 x1 Bm s1 r1 o1=>hd E μ1 h1 H1 x vx Q s1 r1 o1
variable{tA tB':M Bool}{rest:List bj}
def eC (t u:M Bool):M Bool:=λρ h=>(t ρ h).bind λc h1=>if c=true then u ρ h1 else .ok false h1
def cO (t u:M Bool):M Bool:=λρ h=>(t ρ h).bind λc h1=>if c=true then .ok true h1 else u ρ h1
def cD (t:M Bool):M Bool:=λρ h=>(t ρ h).bind λc h1=>.ok (!c) h1
def Bt (X:Cx) (G:Cfg) (E:XK) (pe:bj) (m:M Bool):Prop:=X.K=G.K->PW X pe (iR G E m)
theorem Bt.t {pe:bj}{m:M Bool}(h:Bt X G E pe m):fF X G E pe m:=λhK=>(h hK).pt
theorem PW.imp {e:bj}{t t':TT}(h:PW X e t) (i:∀σ H Q,t' σ H Q->t σ H Q):PW X e t':=λwh pins s σ H Q I q=>h wh pins s σ H Q I (i σ H Q q)
theorem tN (ha:fF X G E a tA):Bt X G E (.BoolOp .And [a] pos) tA:=λhK=>RH (ha hK)
theorem mF (ha:fF X G E a tA):Bt X G E (.BoolOp .Or [a] pos) tA:=λhK=>RI (ha hK)
theorem V9 {σ:St}{H:Hp}{Q:Bool->Hp->Prop}(t:iR G E (eC tA tB') σ H Q):GZ (iR G E tA) (iR G E tB') σ H Q:=by
 obtain⟨μ,ρ,h,rs,s,o⟩:=t;refine BH rs s o λμ1 k h1 H1 x1 Bm s1 o1=>?_
 cases k with
 |true=>rw[if_pos rfl]at o1 ⊢;exact⟨μ1,ρ,h1,Bm,s1,o1⟩
 |false=>rw[if_neg (by decide)]at o1 ⊢;exact o1.val s1 rfl
theorem WA {σ:St}{H:Hp}{Q:Bool->Hp->Prop}(t:iR G E (cO tA tB') σ H Q):G1 (iR G E tA) (iR G E tB') σ H Q:=by
 obtain⟨μ,ρ,h,rs,s,o⟩:=t;refine BH rs s o λμ1 k h1 H1 x1 Bm s1 o1=>?_
 cases k with
 |false=>rw[if_neg (by decide)]at o1 ⊢;exact⟨μ1,ρ,h1,Bm,s1,o1⟩
 |true=>rw[if_pos rfl]at o1 ⊢;exact o1.val s1 rfl
theorem tO (ha:fF X G E a tA) (hb:Bt X G E (.BoolOp .And (b::rest) pos) tB'):Bt X G E (.BoolOp .And (a::b::rest) pos) (eC tA tB'):=λhK=>PW.imp (RJ (ha hK) (hb hK)) λ_ _ _ t=>V9 t
theorem iS (ha:fF X G E a tA) (hb:Bt X G E (.BoolOp .Or (b::rest) pos) tB'):Bt X G E (.BoolOp .Or (a::b::rest) pos) (cO tA tB'):=λhK=>PW.imp (RK (ha hK) (hb hK)) λ_ _ _ t=>WA t
theorem hZ (ha:fF X G E a tA):fF X G E (.UnaryOp .Not a pos) (cD tA):=λhK=>PT.imp (RM (ha hK)) λσ H Q ⟨μ,ρ,h,rs,s,o⟩=>BH rs s o λμ1 k h1 H1 x1 Bm s1 o1=>o1.val s1 rfl
def cP (m u:M Dv):M Dv:=λρ h=>(m ρ h).bind λd h1=>match d with
 | .bl true=>u ρ h1
 | .bl false=>.ok (.bl false) h1
 |_=>.bad
def qB:Dv->Hs->Rs Dv
 | .bl b,h=>.ok (.bl (!b)) h
 |_,_=>.bad
theorem kZ {op} {m:M Dv}(h:aJ X G E a m):aJ X G E (.BoolOp op [a] pos) m:=λhK=>RP (h hK)
theorem kF (ha:aJ X G E a ma) (hb:aJ X G E (.BoolOp .And (b::rest) pos) mb):aJ X G E (.BoolOp .And (a::b::rest) pos) (cP ma mb):=λhK=>PE.imp (RQ (ha hK) (hb hK)) λσ H Q ⟨μ,ρ,h,rs,s,o⟩=>
 fG rs s o λμ1 x h1 vx H1 x1 Bm s1 r1 o1=>by
  cases x with
  |bl k=>
   refine⟨k,r1, ?_⟩
   cases k with
   |true=>exact IJ ⟨μ1,ρ,h1,Bm,s1,o1⟩
   |false=>exact II (o1.val s1 rfl)
  |_=>exact o1.elim
theorem BI (ha:aJ X G E a ma):aJ X G E (.UnaryOp .Not a pos) (m1 qB ma):=λhK=>PE.imp (RR (ha hK)) λσ H Q ⟨μ,ρ,h,rs,s,o⟩=>
 fG rs s o λμ1 x h1 vx H1 x1 Bm s1 r1 o1=>by
  cases x with
  |bl k=>exact⟨k,r1,o1.val s1 rfl⟩
  |_=>exact o1.elim
def fT:Dv->Hs->Rs Bool
 | .non,h=>.ok false h
 | .bl b,h=>.ok b h
 | .int i,h=>.ok (i != 0) h
 | .tup xs,h=>.ok (!xs.isEmpty) h
 | .ref i,h=>match getL h i with
  |some xs=>.ok (!xs.isEmpty) h
  |none=>.bad
 |_,_=>.bad
def bN (m:M Dv):M Bool:=λρ h=>(m ρ h).bind fT
theorem JC {μ:Nat->ah}{n:Nat}{H:Hp}{ds:Al}{vs:Ge}(r:RelDL G μ n H ds vs):vs.isEmpty=ds.isEmpty:=by
 have:=r.length
 cases ds <;> cases vs <;> simp_all
theorem fU (ha:aJ X G E a ma) (he:∀whole,isTrue a X.env whole=(do let v <-whole;standAt a.pos;holding [v] (truthy v)):=by intro _;rfl):fF X G E a (bN ma):=λhK=>PT.imp (TX (ha hK) he) λσ H Q ⟨μ,ρ,h,rs,s,o⟩=>
 fG rs s o λμ1 x h1 vx H1 x1 Bm s1 r1 o1=>by
  cases x with
  |non=>rw[Ax]at r1;subst r1;exact⟨_,rfl,o1.val s1 rfl⟩
  |bl k=>rw[Ax]at r1;subst r1;exact⟨_,rfl,o1.val s1 rfl⟩
  |int i=>rw[Ax]at r1;subst r1;exact⟨_,rfl,o1.val s1 rfl⟩
  |tup ds=>obtain⟨p,vs,rfl,e,r⟩:=r1;exact⟨_,.inr (.inl ⟨vs,Fi e,rfl⟩),by rw[JC r];exact o1.val s1 rfl⟩
  |ref i=>
   obtain⟨hi,rfl⟩:=r1;dsimp only[fT]at o1
   cases q:getL h1 i with
   |none=>rw[q]at o1;exact o1.elim
   |some xs=>obtain⟨vs,e,r⟩:=s1.ob i _ (dO q);rw[q]at o1;exact⟨_,.inl ⟨vs,Fv e,rfl⟩,by rw[JC r];exact o1.val s1 rfl⟩
  |_=>exact o1.elim
end
end L2.Mr
open L2.Mr.Dv renaming int->Fc,tup->Fw,bl->Fy
open L2.Mr.Ob renaming lst->Fd
open L2.Mr.RelDL renaming mono->Ff,cons->Fj,nil->Fu
open L2.Mr.Ext renaming same->Fg,refl->Fq
open L2.Mr.PE renaming imp->Fo
open L2.Mr.Ax renaming mono->Fp
open L2.Mr.Rs renaming ok->Ft
open L2.Mr.Bt renaming t->F'
namespace L2
section
variable{Pg:bh}{w:cm}{P:ah->Prop}{H:Hp}{s:ag}
theorem WB (hok:Cc Pg w H s.heap) (n:Nat) (A:bu) (d d':Dt) (v v':V) (u u':af) (hn:eW d<=n) (hu:A.units+n+1<cLine) (n1:nod d=true) (n2:nod d'=true) (h:Den P H d v) (h':Den P H d' v') (r:RelV v u) (r':RelV v' u'):
  SeqAt.RcNeAt A s u u' (!bI d d'):=by
 have Bl:A.units<cLine:=by omega
 have Cw:1<=n->∀(d d':Dt) (u u':af),eW d<=n - 1->nod d=true->nod d'=true->Vw P H s d u->Vw P H s d' u'->kj A.in1 s u u' (bI d d'):=λhd d d' u u' a b c e f=>(BE hok (n - 1) A.in1 d d' u u' a (by show A.units+1+(n - 1)+1<cLine;omega) b c e f).2;have k:=vw hok n1 h r;have k':=vw hok n2 h' r'
 clear h h' r r'
 cases k <;> cases k'
 case tup.tup ds a1 vs1 its1 e1 g1 q1 tp1 Co a2 vs2 Ci e2 g2 q2 tp2=>
  rw[nod]at n1 n2;rw[eW]at hn;have hl1:=g1.length;have hl2:=g2.length;have hq1:=q1.length;have hq2:=q2.length;rw[bI];have z:=SeqAt.RcNeAt.tuples (e:=λj=>bI (ds.getD j .non) (Co.getD j .non)) tp1 tp2 Bl (wX hok (Cw (by omega)) (by omega) n1 n2 g1 g2 q1 q2);have s1:its1.toArray.size=ds.length:=by simp;omega
  have s2:Ci.toArray.size=Co.length:=by simp;omega
  rw[s1,s2]at z
  by_cases hlen:ds.length=Co.length
  ·rw[tJ hlen];rw[<-hlen,zh]at z;simpa using z
  ·rw[tK hlen];rw[show(ds.length==Co.length)=false from beq_eq_false_iff_ne.mpr hlen,qh]at z;exact z
 case lst.lst ds a1 vs1 its1 e1 g1 q1 tp1 Co a2 vs2 Ci e2 g2 q2 tp2=>
  rw[nod]at n1 n2;rw[eW]at hn;have hl1:=g1.length;have hl2:=g2.length;have hq1:=q1.length;have hq2:=q2.length;rw[bI]
  by_cases hlen:ds.length=Co.length
  ·have z:=SeqAt.RcNeAt.lists (e:=λj=>bI (ds.getD j .non) (Co.getD j .non)) tp1 tp2 (by simp;omega) Bl (wX hok (Cw (by omega)) (by omega) n1 n2 g1 g2 q1 q2);rw[tJ hlen];simpa[hq1.symm,hl1]using z
  ·rw[tK hlen];exact SeqAt.RcNeAt.lists_lengths tp1 tp2 (by simp;omega) Bl
 case non.non=>exact .none_none
 case non.bl=>exact .none_bool _
 case non.int=>exact .none_int _ _
 case non.str=>exact .none_str _ _
 case non.tup=>exact .none_tuple ‹_› Bl
 case non.lst=>exact .none_list ‹_› Bl
 case bl.non=>exact .bool_none _
 case bl.bl=>exact .bool_bool _ _
 case bl.int=>exact .bool_int _ _ _
 case bl.str=>exact .bool_str _ _ _
 case bl.tup=>exact .bool_tuple _ ‹_› Bl
 case bl.lst=>exact .bool_list _ ‹_› Bl
 case int.non=>exact .int_none _ _
 case int.bl=>exact .int_bool _ _ _
 case int.int=>exact .int_int _ _ _ _
 case int.str=>exact .int_str _ _ _ _
 case int.tup=>exact .int_tuple _ _ ‹_› Bl
 case int.lst=>exact .int_list _ _ ‹_› Bl
 case str.non=>exact .str_none _ _
 case str.bl=>exact .str_bool _ _ _
 case str.int=>exact .str_int _ _ _ _
 case str.str=>exact .str_str _ _ _ _
 case str.tup=>exact .str_tuple _ _ ‹_› Bl
 case str.lst=>exact .str_list _ _ ‹_› Bl
 case tup.non=>exact .tuple_none ‹_› Bl
 case tup.bl=>exact .tuple_bool _ ‹_› Bl
 case tup.int=>exact .tuple_int _ _ ‹_› Bl
 case tup.str=>exact .tuple_str _ _ ‹_› Bl
 case tup.lst=>exact .tuple_list ‹_› ‹_› Bl
 case lst.non=>exact .list_none ‹_› Bl
 case lst.bl=>exact .list_bool _ ‹_› Bl
 case lst.int=>exact .list_int _ _ ‹_› Bl
 case lst.str=>exact .list_str _ _ ‹_› Bl
 case lst.tup=>exact .list_tuple ‹_› ‹_› Bl
end
end L2
namespace L2.Mr
def bF {α β:Type}(f:α->Option β):List α->Option (List β)
 | []=>some []
 |x::xs=>match f x with
  |none=>none
  |some y=>match bF f xs with
   |none=>none
   |some ys=>some (y::ys)
def bQ:Nat->Hs->Dv->Option Dt
 |0,_,_=>none
 |k+1,h,d=>match d with
  | .non=>some .non
  | .bl b=>some (.bl b)
  | .int i=>some (.int i)
  | .str x=>some (.str x)
  | .tup xs=>match bF (bQ k h) xs with
   |some ts=>some (.tup ts)
   |none=>none
  | .ref i=>match getL h i with
   |some xs=>match bF (bQ k h) xs with
    |some ts=>some (.lst ts)
    |none=>none
   |none=>none
  |_=>none
abbrev kG:ah->Prop:=λ_=>True
section
variable{G:Cfg}{μ:Nat->ah}{h:Hs}{H:Hp}
theorem rH (s:Bh G μ h H):∀(k:Nat) (d:Dv) (v:V) (t:Dt),Ax G μ h.length H d v->bQ k h d=some t->Den kG H t v/\eW t<=k/\nod t=true:=by
 intro k
 induction k with
 |zero=>intro d v t _ e;cases e
 |succ k ih=>
  have il:∀(xs:Al) (vs:Ge) (ts:List Dt),RelDL G μ h.length H xs vs->bF (bQ k h) xs=some ts->Be kG H ts vs/\nV ts<=k/\kX ts=true:=by
   intro xs
   induction xs with
   |nil=>intro vs ts r e;cases e;rw[RelDL]at r;subst r;exact⟨Be.nil,by simp[nV],rfl⟩
   |cons x xs ihx=>
    intro vs ts r e;rw[RelDL]at r;obtain⟨v,rr,rfl,r1,r2⟩:=r;unfold bF at e
    cases q:bQ k h x with
    |none=>rw[q]at e;cases e
    |some y=>
     rw[q]at e;dsimp only at e
     cases q2:bF (bQ k h) xs with
     |none=>rw[q2]at e;cases e
     |some ys=>rw[q2]at e;cases e;obtain⟨a1,a2,a3⟩:=ih x v y r1 q;obtain⟨b1,b2,b3⟩:=ihx rr ys r2 q2;exact⟨Be.cons a1 b1,by rw[nV];omega,by rw[kX,a3,b3];rfl⟩
  intro d v t r e;unfold bQ at e
  cases d with
  |non=>cases e;rw[Ax]at r;subst r;exact⟨by rw[Den],by simp[eW],rfl⟩
  |bl b=>cases e;rw[Ax]at r;subst r;exact⟨by rw[Den],by simp[eW],rfl⟩
  |int b=>cases e;rw[Ax]at r;subst r;exact⟨by rw[Den],by simp[eW],rfl⟩
  |str b=>cases e;rw[Ax]at r;subst r;exact⟨by rw[Den],by simp[eW],rfl⟩
  |tup xs=>
   dsimp only at e
   cases q:bF (bQ k h) xs with
   |none=>rw[q]at e;cases e
   |some ts=>rw[q]at e;cases e;obtain⟨a,vs,rfl,e1,r1⟩:=r;obtain⟨b1,b2,b3⟩:=il xs vs ts r1 q;exact⟨by rw[Den];exact⟨a,vs,rfl,e1,b1⟩,by rw[eW];omega,by rw[nod];exact b3⟩
  |ref i=>
   dsimp only at e
   cases g:getL h i with
   |none=>rw[g]at e;cases e
   |some xs=>
    rw[g]at e;dsimp only at e
    cases q:bF (bQ k h) xs with
    |none=>rw[q]at e;cases e
    |some ts=>rw[q]at e;cases e;obtain⟨hi,rfl⟩:=r;obtain⟨vs,e1,r1⟩:=s.ob i _ (dO g);obtain⟨b1,b2,b3⟩:=il xs vs ts r1 q;exact⟨by rw[Den];exact⟨_,vs,rfl,trivial,e1,b1⟩,by rw[eW];omega,by rw[nod];exact b3⟩
  |edc=>cases e
  |exc c=>cases e
  |scr=>cases e
end
def bY:Nat:=30
def bD (x y:Dv) (h:Hs):Rs Dv:=match bQ bY h x,bQ bY h y with
 |some s,some t=>.ok (.bl (bI s t)) h
 |_,_=>.bad
def cJ (x y:Dv) (h:Hs):Rs Dv:=match bQ bY h x,bQ bY h y with
 |some s,some t=>.ok (.bl (!bI s t)) h
 |_,_=>.bad
def xA (neg:Bool):R2:=λx y H Q=>∃t t',Den kG H t x/\Den kG H t' y/\eW t<=bY/\nod t=true/\nod t'=true/\Q (.bl (if neg then !bI t t' else bI t t')) H
section
variable{X:Cx}{G:Cfg}
theorem JD (hu:X.A.units+64<cLine):Bp X (compareOp .Eq) (xA false):=by intro pins s σ H x y v u Q I r1 r2 ⟨t,t',d,d',hd,n1,n2,q⟩;exact EqBoolInt.of_rc (I0 I.hok bY X.A t t' x y v u hd (by unfold bY;omega) n1 n2 d d' r1 r2).1 ⟨.bl _,H,I,rfl,q⟩
theorem JE (hu:X.A.units+64<cLine):Bp X (compareOp .NotEq) (xA true):=by intro pins s σ H x y v u Q I r1 r2 ⟨t,t',d,d',hd,n1,n2,q⟩;exact EqBoolInt.of_rcne (WB I.hok bY X.A t t' x y v u hd (by unfold bY;omega) n1 n2 d d' r1 r2) ⟨.bl _,H,I,rfl,q⟩
theorem JF:fO G (xA false) bD:=by
 intro E μ h H x y vx vy Q s rx ry o;unfold bD at o
 split at o
 ·rename_i t t' e e';obtain⟨a1,a2,a3⟩:=rH s _ x vx t rx e;obtain⟨b1,b2,b3⟩:=rH s _ y vy t' ry e';exact⟨t,t',a1,b1,a2,a3,b3,o.val s rfl⟩
 ·exact o.elim
theorem JG:fO G (xA true) cJ:=by
 intro E μ h H x y vx vy Q s rx ry o;unfold cJ at o
 split at o
 ·rename_i t t' e e';obtain⟨a1,a2,a3⟩:=rH s _ x vx t rx e;obtain⟨b1,b2,b3⟩:=rH s _ y vy t' ry e';exact⟨t,t',a1,b1,a2,a3,b3,o.val s rfl⟩
 ·exact o.elim
end
def iC (g:Int->Int->Dv):Dv->Dv->Hs->Rs Dv
 | .int i,.int j,h=>.ok (g i j) h
 |_,_,_=>.bad
def mG (C:Int->Int->Bool) (g:Int->Int->Dv):Dv->Dv->Hs->Rs Dv
 | .int i,.int j,h=>if C i j=true then .ok (g i j) h else .bad
 |_,_,_=>.bad
section
variable{X:Cx}{G:Cfg}
theorem WC {f:Int->Int->Int}:fO G (kE λi j=>.int (f i j)) (iC λi j=>.int (f i j)):=by
 intro E μ h H x y vx vy Q s rx ry o
 cases x with
 |int i=>
  cases y with
  |int j=>exact⟨i,j,rx,ry,o.val s rfl⟩
  |_=>exact o.elim
 |_=>exact o.elim
theorem lA {f:Int->Int->Bool}:fO G (kE λi j=>.bl (f i j)) (iC λi j=>.bl (f i j)):=by
 intro E μ h H x y vx vy Q s rx ry o
 cases x with
 |int i=>
  cases y with
  |int j=>exact⟨i,j,rx,ry,o.val s rfl⟩
  |_=>exact o.elim
 |_=>exact o.elim
theorem xB {C:Int->Int->Prop}{B:Int->Int->Bool}{f:Int->Int->Int}(hB:∀i j,B i j=true->C i j):fO G (rI C λi j=>.int (f i j)) (mG B λi j=>.int (f i j)):=by
 intro E μ h H x y vx vy Q s rx ry o
 cases x with
 |int i=>
  cases y with
  |int j=>
   dsimp only[mG]at o
   split at o
   ·rename_i hb;exact⟨i,j,rx,ry,hB i j hb,o.val s rfl⟩
   ·exact o.elim
  |_=>exact o.elim
 |_=>exact o.elim
def iK (i:Int):Bool:=decide (-18446744073709551616<i)&&decide (i<18446744073709551616)
def xC (i j:Int):Bool:=iK i||iK j
theorem WD (i j:Int) (h:xC i j=true):CMul i j:=by
 unfold xC iK at h;unfold CMul;simp only[Bool.or_eq_true,da,decide_eq_true_eq]at h
 rcases h with h|h
 ·exact .inl ⟨by omega,by omega⟩
 ·exact .inr ⟨by omega,by omega⟩
def rJ (_ j:Int):Bool:=decide (0<j)
theorem WE (i j:Int) (h:rJ i j=true):0<j:=by unfold rJ at h;simpa using h
def tP (i j:Int):Bool:=decide (0<=j)&&decide (j<=1000000)&&decide (i.natAbs<18446744073709551616)
theorem WG (i j:Int) (h:tP i j=true):AU i j:=by unfold tP at h;unfold AU;simp only[da,decide_eq_true_eq]at h;exact⟨h.1.1,h.1.2,by have:=h.2;omega⟩
def lC:Dv->Dv->Hs->Rs Dv
 | .int i,.int j,h=>.ok (.int (i+j)) h
 | .ref i,.ref j,h=>match getL h i,getL h j with
  |some xs,some ys=>lim (xs.length+ys.length) (.ok (.ref h.length) (h++[.lst (xs++ys)]))
  |_,_=>.bad
 | .tup xs,.tup ys,h=>if xs.isEmpty=true then .bad else lim (xs.length+ys.length) (.ok (.tup (xs++ys)) h)
 |_,_,_=>.bad
def BJ (K:aq):R2:=λx y H Q=>(kE λi j=>.int (i+j)) x y H Q∨IF x y H Q∨HX K x y H Q
theorem WH:Bp X (binaryOp .Add) (BJ X.K):=op_add.or (op_cat.or UU)
theorem WI:fO G (BJ G.K) lC:=by
 intro E μ h H x y vx vy Q s rx ry o
 cases x with
 |int i=>
  cases y with
  |int j=>exact .inl ⟨i,j,rx,ry,o.val s rfl⟩
  |_=>exact o.elim
 |ref i=>
  cases y with
  |ref j=>
   dsimp only[lC]at o
   cases g1:getL h i with
   |none=>rw[g1]at o;exact o.elim
   |some xs=>
    cases g2:getL h j with
    |none=>rw[g1,g2]at o;exact o.elim
    |some ys=>
     rw[g1,g2]at o;dsimp only at o;unfold lim at o
     split at o
     ·rename_i hl;obtain⟨vs,e1,r1⟩:=s.ob i _ (dO g1);obtain⟨ws,e2,r2⟩:=s.ob j _ (dO g2);obtain⟨_,rfl⟩:=rx;obtain⟨_,rfl⟩:=ry;exact .inr (.inl ⟨_,_,vs,ws,rfl,rfl,e1,e2,by rw[r1.length,r2.length];exact tL hl,λp hp=>rE s (r1.append r2) hp o⟩)
     ·exact o.elim
  |_=>exact o.elim
 |tup xs=>
  cases y with
  |tup ys=>
   dsimp only[lC]at o
   split at o
   ·exact o.elim
   ·rename_i hne;unfold lim at o
    split at o
    ·rename_i hl;obtain⟨a,vs,rfl,e1,r1⟩:=rx;obtain⟨b,ws,rfl,e2,r2⟩:=ry;refine .inr (.inr ⟨a,b,vs,ws,rfl,rfl,Fi e1,Fi e2, ?_,by rw[r1.length,r2.length];exact tL hl,λz=>?_,λ_ p hp=>?_⟩)
     ·intro z;subst z;have:=r1.length
      cases xs <;> simp_all
     ·subst z;have e3:ys=[]:=by have:=r2.length;cases ys <;> simp_all
      subst e3;refine o.val s ?_;rw[ku];exact⟨a,vs,rfl,e1,r1⟩
     ·exact o μ _ _ (Fg (dH hp)) (s.same (dH hp)) ⟨p,_,rfl,dF,Ff (Fg (dH hp)) _ _ (r1.append r2)⟩
    ·exact o.elim
  |_=>exact o.elim
 |_=>exact o.elim
def jP (xs:Al) (i:Int) (h:Hs):Rs Dv:=match gK xs i with
 |some d=>.ok d h
 |none=>.bad
def gR (scr:Ah):Dv->Dv->Hs->Rs Dv
 | .tup xs,.int i,h=>jP xs i h
 | .ref k,.int i,h=>match getL h k with
  |some xs=>jP xs i h
  |none=>.bad
 | .scr,.int i,h=>jP (scr.map Fc) i h
 |_,_,_=>.bad
theorem tQ {μ:Nat->ah}{n:Nat}{H:Hp}:∀ns:Ah,RelDL G μ n H (ns.map Fc) (ns.map Fm)
 | []=>Fu
 |i::ns=>Fj rfl (tQ ns)
theorem BK {E:XK}{μ:Nat->ah}{h:Hs}{H:Hp}{xs:Al}{vs:Ge}{i:Int}{Q:VK}(s:Bh G μ h H) (r:RelDL G μ h.length H xs vs) (o:Out G E μ h.length H (jP xs i h) (Ax G) Q):∃v,gK vs i=some v/\Q v H:=by
 unfold jP at o
 cases e:gK xs i with
 |none=>rw[e]at o;exact o.elim
 |some d=>
  rw[e]at o;unfold gK at e ⊢;rw[r.length]
  cases q:fR xs.length i with
  |none=>rw[q]at e;cases e
  |some j=>rw[q]at e;obtain⟨v,e1,r1⟩:=r.get e;exact⟨v,e1,o.val s r1⟩
theorem JH:fO G (A3 G.K) (gR G.scr):=by
 intro E μ h H x y vx vy Q s rx ry o
 cases y with
 |int i=>
  cases x with
  |tup xs=>obtain⟨a,vs,rfl,e1,r1⟩:=rx;obtain⟨v,e2,q⟩:=BK s r1 o;exact .inr (.inl ⟨a,vs,i,v,rfl,ry,Fi e1,e2,q⟩)
  |ref k=>
   dsimp only[gR]at o
   cases g:getL h k with
   |none=>rw[g]at o;exact o.elim
   |some xs=>rw[g]at o;obtain⟨vs,e1,r1⟩:=s.ob k _ (dO g);obtain⟨_,rfl⟩:=rx;obtain⟨v,e2,q⟩:=BK s r1 o;exact .inl ⟨_,vs,i,v,rfl,ry,Fv e1,e2,q⟩
  |scr=>obtain⟨rfl,hf⟩:=rx;obtain⟨v,e2,q⟩:=BK s (tQ G.scr) o;exact .inl ⟨_,_,i,v,rfl,ry,hf.sq,e2,q⟩
  |_=>exact o.elim
 |_=>cases x <;> exact o.elim
theorem WJ {E:XK}{a b:bj}{ma mb:M Dv}{pos:Pos}(ha:aJ X G E a ma) (hb:aJ X G E b mb) (hs:A1 b:=by intro _ _;rfl):aJ X G E (.Subscript a b pos) (m2 (gR G.scr) ma mb):=λhK=>Fo (HY (by have:=IC (X:=X);rw[hK]at this;exact this) (ha hK) (hb hK) hs) λ_ _ _ t=>tM JH t
theorem WK:di "abs" = some (.builtin "abs"):=by decide +kernel
theorem BL:di "tuple" = some (.type "tuple"):=by decide +kernel
theorem xD:di "list" = some (.type "list"):=by decide +kernel
theorem JI:di "max" = some (.builtin "max"):=by decide +kernel
theorem JJ:di "min" = some (.builtin "min"):=by decide +kernel
variable{E:XK}{aR:M Al }{e:bj}{es:List bj}{x:Str}{p pos:Pos}{id T:String}
def qC (G:Cfg) (r:Ge->Hp->VK->Prop) (f:Ak):Prop:=∀(E:XK) (μ:Nat->ah) (h:Hs) (H:Hp) (xs:Al) (vs:Ge) (Q:VK),Bh G μ h H->RelDL G μ h.length H xs vs->Out G E μ h.length H (f xs h) (Ax G) Q->r vs H Q
def aF (f:Ak) (ms:M Al ):M Dv:=λρ h=>(ms ρ h).bind f
theorem JK {r:Ge->Hp->VK->Prop}{f:Ak}(hd:qC G r f) {σ:St}{H:Hp}{Q:VK}(t:iJ G E (aF f aR) σ H Q):wN r (BG G E aR) σ H Q:=by obtain⟨μ,ρ,h,rs,s,o⟩:=t;exact kY rs s o λμ1 ds h1 vs H1 x1 Bm s1 r1 o1=>hd E μ1 h1 H1 ds vs Q s1 r1 o1
theorem qD {r:Ge->Hp->VK->Prop}{f:Ak}(hc:Bc X (.builtin id) r) (hd:qC G r f) (hg:Gl X x) (hm:X.mg x=none) (hv:di x=some (.builtin id)) (ha:eF X G E (e::es) aR) (hn:x ≠ "__name__" := by decide) (Du:(x==Gd)=false:=by decide)
  (he:ar (e::es) X.env=(false,eval e X.env)::ar es X.env:=by rfl) (Ce:(backTo pos (ar es X.env)).any (·.1)=false:=by rfl):aJ X G E (.Call (.Name x p) (e::es) [] pos) (aF f aR):=λhK=>
 Fo (tE hc hg hm hv (ha hK) hn Du he Ce) λ_ _ _ t=>JK hd t
theorem JL {r:Ge->Hp->VK->Prop}{f:Ak}(hc:Bc X (.type T) r) (hd:qC G r f) (hg:Gl X x) (hm:X.mg x=none) (hv:di x=some (.type T)) (ha:eF X G E (e::es) aR) (hn:x ≠ "__name__" := by decide) (Du:(x==Gd)=false:=by decide)
  (he:ar (e::es) X.env=(false,eval e X.env)::ar es X.env:=by rfl) (Ce:(backTo pos (ar es X.env)).any (·.1)=false:=by rfl):aJ X G E (.Call (.Name x p) (e::es) [] pos) (aF f aR):=λhK=>
 Fo (wO hc hg hm hv (ha hK) hn Du he Ce) λ_ _ _ t=>JK hd t
def fV (scr:Ah):Dv->Hs->Option Al 
 | .tup xs,_=>some xs
 | .ref i,h=>getL h i
 | .scr,_=>some (scr.map Fc)
 |_,_=>none
def f1 (g:Dv->Hs->Rs Dv):Ak
 | [d],h=>g d h
 |_,_=>.bad
def iL (scr:Ah) (d:Dv) (h:Hs):Rs Dv:=match fV scr d h with
 |some xs=>.ok (.int xs.length) h
 |none=>.bad
theorem tR {μ:Nat->ah}{n:Nat}{H:Hp}{d:Dv}{vs:Ge}(r:RelDL G μ n H [d] vs):∃v,vs=[v]/\Ax G μ n H d v:=by rw[RelDL]at r;obtain⟨v,rr,rfl,h1,h2⟩:=r;rw[RelDL]at h2;subst h2;exact⟨v,rfl,h1⟩
theorem qE {r:V->Hp->VK->Prop}{g:Dv->Hs->Rs Dv}(hg:mE G r g):qC G (λxs H Q=>∃v,xs=[v]/\r v H Q) (f1 g):=by
 intro E μ h H xs vs Q s rr o
 match xs,rr,o with
 | [],_,o=>exact o.elim
 |_::_::_,_,o=>exact o.elim
 | [d],rr,o=>obtain⟨v,rfl,r1⟩:=tR rr;exact⟨v,rfl,hg E μ h H d v Q s r1 o⟩
theorem xE {μ:Nat->ah}{n:Nat}{H:Hp}{d d':Dv}{vs:Ge}(r:RelDL G μ n H [d,d'] vs):∃v v',vs=[v,v']/\Ax G μ n H d v/\Ax G μ n H d' v':=by rw[RelDL]at r;obtain⟨v,rr,rfl,h1,h2⟩:=r;obtain⟨v',rfl,h3⟩:=tR h2;exact⟨v,v',rfl,h1,h3⟩
theorem BM {μ:Nat->ah}{h:Hs}{H:Hp}{d:Dv}{v:V}{xs:Al}(s:Bh G μ h H) (r:Ax G μ h.length H d v) (e:fV G.scr d h=some xs):∃a vs,v=.ref a/\(Bs G.K H a vs∨Bk G.K H a vs)/\RelDL G μ h.length H xs vs:=by
 cases d with
 |tup ds=>cases e;obtain⟨a,vs,rfl,e1,r1⟩:=r;exact⟨a,vs,rfl,.inr (Fi e1),r1⟩
 |ref i=>obtain⟨_,rfl⟩:=r;obtain⟨vs,e1,r1⟩:=s.ob i _ (dO e);exact⟨_,vs,rfl,.inl (Fv e1),r1⟩
 |scr=>cases e;obtain⟨rfl,hf⟩:=r;exact⟨_,_,rfl,.inl hf.sq,tQ _⟩
 |_=>cases e
def JM (K:aq):V->Hp->VK->Prop:=λx H Q=>∃p ys,x=.ref p/\(Bs K H p ys∨Bk K H p ys)/\Q (.int ys.length) H
theorem JN:mE G (JM G.K) (iL G.scr):=by
 intro E μ h H d v Q s r1 o;unfold iL at o
 cases e:fV G.scr d h with
 |none=>rw[e]at o;exact o.elim
 |some ys=>rw[e]at o;obtain⟨a,ws,rfl,hs,r2⟩:=BM s r1 e;exact⟨a,ws,rfl,hs,by rw[r2.length];exact o.val s rfl⟩
theorem Bc.imp {f:af}{r r':Ge->Hp->VK->Prop}(h:Bc X f r) (i:∀xs H Q,r' xs H Q->r xs H Q):Bc X f r':=λpins s σ H xs us Q I rv q=>h pins s σ H xs us Q I rv (i xs H Q q)
theorem JO (hg:Gl X "len") (hm:X.mg "len" = none) (ha:eF X G E (e::es) aR)
  (he:ar (e::es) X.env=(false,eval e X.env)::ar es X.env:=by rfl) (Ce:(backTo pos (ar es X.env)).any (·.1)=false:=by rfl):aJ X G E (.Call (.Name "len" p) (e::es) [] pos) (aF (f1 (iL G.scr)) aR):=λhK=>
 qD (Bc.imp (ID (X:=X)) λxs H Q ⟨v,h1,a,ys,h2,h3,h4⟩=>⟨a,ys,by rw[h1,h2],by rw[hK];exact h3,h4⟩) (qE JN) hg hm PySem.boot_len ha (by decide) (by decide) he Ce hK
def oY:Dv->Hs->Rs Dv
 | .int i,h=>.ok (.int (if i<0 then -i else i)) h
 |_,_=>.bad
theorem WL:mE G (λx H Q=>∃i,x=.int i/\Q (.int (if i<0 then -i else i)) H) oY:=by
 intro E μ h H d v Q s r1 o
 cases d with
 |int i=>rw[Ax]at r1;subst r1;exact⟨i,rfl,o.val s rfl⟩
 |_=>exact o.elim
theorem WM (hg:Gl X "abs") (hm:X.mg "abs" = none) (ha:eF X G E (e::es) aR)
  (he:ar (e::es) X.env=(false,eval e X.env)::ar es X.env:=by rfl) (Ce:(backTo pos (ar es X.env)).any (·.1)=false:=by rfl):aJ X G E (.Call (.Name "abs" p) (e::es) [] pos) (aF (f1 oY) aR):=
 qD (Bc.imp (TY (X:=X)) λxs H Q ⟨v,h1,i,h2,h3⟩=>⟨i,by rw[h1,h2],h3⟩) (qE WL) hg hm WK ha (by decide) (by decide) he Ce
def iD:Ak
 | [.int i,.int j],h=>.ok (.int (if j>i then j else i)) h
 |_,_=>.bad
def mH:Ak
 | [.int i,.int j],h=>.ok (.int (if j<i then j else i)) h
 |_,_=>.bad
theorem JP {f:Ak}{g:Int->Int->Int}(h2:∀i j h,f [.int i,.int j] h=.ok (.int (g i j)) h) (hb:∀xs h,(∀i j,xs≠[.int i,.int j])->f xs h=.bad):
  qC G (λxs H Q=>∃i j,xs=[.int i,.int j]/\Q (.int (g i j)) H) f:=by
 intro E μ h H xs vs Q s r o
 by_cases hx:∃i j,xs=[.int i,.int j]
 ·obtain⟨i,j,rfl⟩:=hx;obtain⟨v,v',rfl,r1,r2⟩:=xE r;rw[Ax]at r1 r2;subst r1;subst r2;rw[h2]at o;exact⟨i,j,rfl,o.val s rfl⟩
 ·rw[hb xs h (λi j e=>hx ⟨i,j,e⟩)]at o;exact o.elim
theorem WN:qC G (λxs H Q=>∃i j,xs=[.int i,.int j]/\Q (.int (if j>i then j else i)) H) iD:=JP (λ_ _ _=>rfl) λxs h hx=>by
 unfold iD;split
 ·rename_i i j;exact absurd rfl (hx i j)
 ·rfl
theorem WO:qC G (λxs H Q=>∃i j,xs=[.int i,.int j]/\Q (.int (if j<i then j else i)) H) mH:=JP (λ_ _ _=>rfl) λxs h hx=>by
 unfold mH;split
 ·rename_i i j;exact absurd rfl (hx i j)
 ·rfl
def iT:Dv->Hs->Rs Dv
 | .tup xs,h=>.ok (.tup xs) h
 | .ref i,h=>match getL h i with
  |some xs=>.ok (.tup xs) h
  |none=>.bad
 |_,_=>.bad
def WQ (K:aq):V->Hp->VK->Prop:=λx H Q=>∃p ys,x=.ref p/\((Bs K H p ys/\∀l,H l=none->Q (.ref l) (aU H l (.tup ys)))∨(Bk K H p ys/\Q (.ref p) H))
theorem WR:mE G (WQ G.K) iT:=by
 intro E μ h H d v Q s r1 o
 cases d with
 |tup ds=>have r1':=r1;obtain⟨a,ws,rfl,e1,r2⟩:=r1;exact⟨a,ws,rfl,.inr ⟨Fi e1,o.val s r1'⟩⟩
 |ref i=>
  dsimp only[iT]at o
  cases g:getL h i with
  |none=>rw[g]at o;exact o.elim
  |some ys=>rw[g]at o;obtain⟨_,rfl⟩:=r1;obtain⟨ws,e1,r2⟩:=s.ob i _ (dO g);exact⟨_,ws,rfl,.inl ⟨Fv e1,λl hl=>o μ _ _ (Fg (dH hl)) (s.same (dH hl)) ⟨l,ws,rfl,dF,Ff (Fg (dH hl)) _ _ r2⟩⟩⟩
 |_=>exact o.elim
theorem JQ (hg:Gl X "tuple") (hm:X.mg "tuple" = none) (ha:eF X G E (e::es) aR)
  (he:ar (e::es) X.env=(false,eval e X.env)::ar es X.env:=by rfl) (Ce:(backTo pos (ar es X.env)).any (·.1)=false:=by rfl):aJ X G E (.Call (.Name "tuple" p) (e::es) [] pos) (aF (f1 iT) aR):=λhK=>
 JL (Bc.imp (VF (X:=X)) λxs H Q ⟨v,h1,a,ys,h2,h3⟩=>⟨a,ys,by rw[h1,h2],by rw[hK];exact h3⟩) (qE WR) hg hm BL ha (by decide) (by decide) he Ce hK
def rK (scr:Ah) (d:Dv) (h:Hs):Rs Dv:=match fV scr d h with
 |some xs=>.ok (.ref h.length) (h++[.lst xs])
 |none=>.bad
theorem WS:mE G (λx H Q=>∃p ys,x=.ref p/\(Bs G.K H p ys∨Bk G.K H p ys)/\∀l,H l=none->Q (.ref l) (aU H l (.lst ys))) (rK G.scr):=by
 intro E μ h H d v Q s r1 o;unfold rK at o
 cases e:fV G.scr d h with
 |none=>rw[e]at o;exact o.elim
 |some ys=>rw[e]at o;obtain⟨a,ws,rfl,hs,r2⟩:=BM s r1 e;exact⟨a,ws,rfl,hs,λl hl=>rE s r2 hl o⟩
theorem tS (hc:X.calm=true) (hg:Gl X "max") (hm:X.mg "max" = none) (ha:eF X G E (e::es) aR)
  (he:ar (e::es) X.env=(false,eval e X.env)::ar es X.env:=by rfl) (Ce:(backTo pos (ar es X.env)).any (·.1)=false:=by rfl):aJ X G E (.Call (.Name "max" p) (e::es) [] pos) (aF iD aR):=
 qD (TZ hc) WN hg hm JI ha (by decide) (by decide) he Ce
theorem JR (hc:X.calm=true) (hg:Gl X "min") (hm:X.mg "min" = none) (ha:eF X G E (e::es) aR)
  (he:ar (e::es) X.env=(false,eval e X.env)::ar es X.env:=by rfl) (Ce:(backTo pos (ar es X.env)).any (·.1)=false:=by rfl):aJ X G E (.Call (.Name "min" p) (e::es) [] pos) (aF mH aR):=
 qD (T1 hc) WO hg hm JJ ha (by decide) (by decide) he Ce
end
inductive Sr where
 |nx (ρ:Ev) (h:Hs)|rt (d:Dv) (h:Hs)|bk (ρ:Ev) (h:Hs)|ct (ρ:Ev) (h:Hs)|ex (c:Nat) (h:Hs)|bad
abbrev MS:=Ev->Hs->Sr
def Bw (G:Cfg) (E:XK) (μ:Nat->ah) (n:Nat) (H:Hp) (r:Sr) (D:Ends):Prop:=match r with
 | .nx ρ h'=>∀μ' H' σ',Ext μ n H μ' h'.length H'->Bh G μ' h' H'->Bf G μ' h'.length H' ρ σ'->D.nx σ' H'
 | .bk ρ h'=>∀μ' H' σ',Ext μ n H μ' h'.length H'->Bh G μ' h' H'->Bf G μ' h'.length H' ρ σ'->D.bk σ' H'
 | .ct ρ h'=>∀μ' H' σ',Ext μ n H μ' h'.length H'->Bh G μ' h' H'->Bf G μ' h'.length H' ρ σ'->D.ct σ' H'
 | .rt d h'=>∀μ' H' v,Ext μ n H μ' h'.length H'->Bh G μ' h' H'->Ax G μ' h'.length H' d v->D.rt v H'
 | .ex c h'=>∀μ' H' u,Ext μ n H μ' h'.length H'->Bh G μ' h' H'->wY G H' c u->E u none H'
 | .bad=>False
theorem Bw.ext {G:Cfg}{E:XK}{μ μ1:Nat->ah}{n n1:Nat}{H H1:Hp}{r:Sr}{D:Ends}(o:Bw G E μ n H r D) (x:Ext μ n H μ1 n1 H1):Bw G E μ1 n1 H1 r D:=by
 cases r with
 |nx ρ h'=>exact λμ' H' σ' y=>o μ' H' σ' (x.trans y)
 |bk ρ h'=>exact λμ' H' σ' y=>o μ' H' σ' (x.trans y)
 |ct ρ h'=>exact λμ' H' σ' y=>o μ' H' σ' (x.trans y)
 |rt d h'=>exact λμ' H' σ' y=>o μ' H' σ' (x.trans y)
 |ex c h'=>exact λμ' H' σ' y=>o μ' H' σ' (x.trans y)
 |bad=>exact o
def xF (G:Cfg) (E:XK) (m:MS):TS:=λD σ H=>∃μ ρ h,Bf G μ h.length H ρ σ/\Bh G μ h H/\Bw G E μ h.length H (m ρ h) D
def iU (X:Cx) (G:Cfg) (E:XK) (st:gw) (m:MS):Prop:=X.K=G.K->PS X st (xF G E m)
def jQ (X:Cx) (G:Cfg) (E:XK) (st:List gw) (m:MS):Prop:=X.K=G.K->Ey X st (xF G E m)
theorem PS.imp {X:Cx}{e:gw}{t t':TS}(h:PS X e t) (i:∀D σ H,t' D σ H->t D σ H):PS X e t':=λpins s σ H D I q=>h pins s σ H D I (i D σ H q)
theorem Ey.imp {X:Cx}{e:List gw}{t t':TS}(h:Ey X e t) (i:∀D σ H,t' D σ H->t D σ H):Ey X e t':=λpins s σ H D I q=>h pins s σ H D I (i D σ H q)
noncomputable def Rs.thenS {α:Type}(r:Rs α) (f:α->Hs->Sr):Sr:=match r with
 | .ok a h=>f a h
 | .ex c h=>.ex c h
 | .bad=>.bad
@[simp] theorem Rs.thenS_ok {α:Type}(a:α) (h:Hs) (f:α->Hs->Sr):(Ft a h).thenS f=f a h:=rfl
@[simp] theorem Rs.thenS_ex {α:Type}(c:Nat) (h:Hs) (f:α->Hs->Sr):(Rs.ex c h).thenS f=.ex c h:=rfl
@[simp] theorem Rs.thenS_bad {α:Type}(f:α->Hs->Sr):(Rs.bad).thenS f=.bad:=rfl
theorem Bw.thenS {α β:Type}{G:Cfg}{E:XK}{μ:Nat->ah}{n:Nat}{H:Hp}{r:Rs α}{f:α->Hs->Sr}{D:Ends}{R:(Nat->ah)->Nat->Hp->α->β->Prop}
  (o:Bw G E μ n H (r.thenS f) D):Out G E μ n H r R λv H1=>∃μ1 d h1,Ext μ n H μ1 h1.length H1/\Bh G μ1 h1 H1/\R μ1 h1.length H1 d v/\Bw G E μ1 h1.length H1 (f d h1) D:=by
 cases r with
 |bad=>exact o
 |ex c h'=>exact o
 |ok d h'=>exact λμ1 H1 v x1 s1 r1=>⟨μ1,d,h',x1,s1,r1,Bw.ext o x1⟩
variable{X:Cx}{G:Cfg}{E:XK}
section
variable{st:gw}{rest:List gw}{m u:MS}{e:bj}{me:M Dv}{pos:Pos}
theorem oZ {m:M Dv}{σ:St}{H:Hp}{f:Dv->Hs->Sr}{D:Ends}{Q1:V->Hp->Prop}{μ:Nat->ah}{ρ:Ev}{h:Hs}(rs:Bf G μ h.length H ρ σ) (s:Bh G μ h H) (o:Bw G E μ h.length H ((m ρ h).thenS f) D)
  (k:∀μ1 d h1 v H1,Ext μ h.length H μ1 h1.length H1->Bf G μ1 h1.length H1 ρ σ->Bh G μ1 h1 H1->Ax G μ1 h1.length H1 d v->Bw G E μ1 h1.length H1 (f d h1) D->Q1 v H1):iJ G E m σ H Q1:=
 ⟨μ,ρ,h,rs,s,(o.thenS (R:=Ax G)).mono λv H1 ⟨μ1,d,h1,x,s1,r1,o1⟩=>k μ1 d h1 v H1 x (rs.mono x) s1 r1 o1⟩
theorem JS {m:M Bool}{σ:St}{H:Hp}{f:Bool->Hs->Sr}{D:Ends}{Q1:Bool->Hp->Prop}{μ:Nat->ah}{ρ:Ev}{h:Hs}(rs:Bf G μ h.length H ρ σ) (s:Bh G μ h H) (o:Bw G E μ h.length H ((m ρ h).thenS f) D)
  (k:∀μ1 b h1 H1,Ext μ h.length H μ1 h1.length H1->Bf G μ1 h1.length H1 ρ σ->Bh G μ1 h1 H1->Bw G E μ1 h1.length H1 (f b h1) D->Q1 b H1):iR G E m σ H Q1:=
 ⟨μ,ρ,h,rs,s,(o.thenS (R:=RB)).mono λv H1 ⟨μ1,d,h1,x,s1,r1,o1⟩=>by have e:v=d:=r1;subst e;exact k μ1 v h1 H1 x (rs.mono x) s1 o1⟩
def bE:MS:=λρ h=>.nx ρ h
def aH (m u:MS):MS:=λρ h=>match m ρ h with
 | .nx ρ1 h1=>u ρ1 h1
 |r=>r
theorem dU:jQ X G E [] bE:=λ_=>Ey.imp RV λD σ H ⟨μ,ρ,h,rs,s,o⟩=>o μ H σ Fq s rs
theorem bC (h1:iU X G E st m) (h2:jQ X G E rest u):jQ X G E (st::rest) (aH m u):=λhK=>Ey.imp (RW (h1 hK) (h2 hK)) λD σ H ⟨μ,ρ,h,rs,s,o⟩=>by
 refine⟨μ,ρ,h,rs,s, ?_⟩;unfold aH at o
 cases q:m ρ h with
 |nx ρ1 h1=>rw[q]at o;exact λμ1 H1 σ1 x1 s1 Bm=>⟨μ1,ρ1,h1,Bm,s1,Bw.ext o x1⟩
 |bk ρ1 h1=>rw[q]at o;exact o
 |ct ρ1 h1=>rw[q]at o;exact o
 |rt ρ1 h1=>rw[q]at o;exact o
 |ex ρ1 h1=>rw[q]at o;exact o
 |bad=>rw[q]at o;exact o
theorem bB (h1:iU X G E st m):jQ X G E [st] m:=λhK=>G2 (h1 hK)
def cX (me:M Dv):MS:=λρ h=>(me ρ h).thenS λ_ h1=>.nx ρ h1
theorem pA (he:aJ X G E e me) (hs:swapsWith e none pos.line X.env=pure false:=by rfl):iU X G E (.Expr e pos) (cX me):=λhK=>PS.imp (RY (he hK) hs) λD σ H ⟨μ,ρ,h,rs,s,o⟩=>oZ rs s o λμ1 d h1 v H1 x1 Bm s1 r1 o1=>o1 μ1 H1 σ Fq s1 Bm
def aM (me:M Dv):MS:=λρ h=>(me ρ h).thenS λd h1=>.rt d h1
theorem bW (he:aJ X G E e me):iU X G E (.Return (some e) pos) (aM me):=λhK=>PS.imp (R0 (he hK)) λD σ H ⟨μ,ρ,h,rs,s,o⟩=>oZ rs s o λμ1 d h1 v H1 x1 Bm s1 r1 o1=>o1 μ1 H1 v Fq s1 r1
def aW (c:M Bool) (t u:MS):MS:=λρ h=>(c ρ h).thenS λb h1=>if b=true then t ρ h1 else u ρ h1
theorem dW {c:bj}{a b:List gw}{mc:M Bool}(hc:fF X G E c mc) (ha:jQ X G E a m) (hb:jQ X G E b u):iU X G E (.If c a b pos) (aW mc m u):=λhK=>PS.imp (R4 (hc hK) (ha hK) (hb hK)) λD σ H ⟨μ,ρ,h,rs,s,o⟩=>
 JS rs s o λμ1 k h1 H1 x1 Bm s1 o1=>by
  cases k with
  |true=>rw[if_pos rfl]at o1 ⊢;exact⟨μ1,ρ,h1,Bm,s1,o1⟩
  |false=>rw[if_neg (by decide)]at o1 ⊢;exact⟨μ1,ρ,h1,Bm,s1,o1⟩
theorem Bf.set {μ:Nat->ah}{n:Nat}{H:Hp}{ρ:Ev}{σ:St}{d:Dv}{v:V}(rs:Bf G μ n H ρ σ) (i:Nat) (r:Ax G μ n H d v):Bf G μ n H (ρ.set i (some d)) (σ.set i (some v)):=⟨by rw[kz,kz];exact rs.len,λj d' e=>by
 have hl:=rs.len
 by_cases Cr:i=j
 ·subst Cr;have hi:i<ρ.length:=by have:=(az.mp e).1;simpa using this
  rw[df hi]at e;cases e;exact⟨v,df (by omega),r⟩
 ·rw[du Cr]at e ⊢;exact rs.at_ j d' e⟩
abbrev dP:=Dv->Ev->Option Ev
def tT (G:Cfg) (st:dP):TG:=λv σ H Q=>∃μ ρ h d ρ',Bf G μ h H ρ σ/\Ax G μ h H d v/\st d ρ=some ρ'/\∀σ',Bf G μ h H ρ' σ'->Q σ' H
def mI (X:Cx) (G:Cfg) (tg:bj) (st:dP):Prop:=X.K=G.K->PG X tg (tT G st)
theorem PG.imp {tg:bj}{t t':TG}(h:PG X tg t) (i:∀v σ H Q,t' v σ H Q->t v σ H Q):PG X tg t':=λpins s σ H v u Q I r q=>h pins s σ H v u Q I r (i v σ H Q q)
theorem PGs.imp {tg:List bj}{t t':nS}(h:PGs X tg t) (i:∀v σ H Q,t' v σ H Q->t v σ H Q):PGs X tg t':=λpins s σ H v u Q I r q=>h pins s σ H v u Q I r (i v σ H Q q)
def aE (i:Nat):dP:=λd ρ=>some (ρ.set i (some d))
theorem WT {i:Nat}{x:Str}(hN:X.N.Nodup) (hi:X.N[i]?=some x) (hx:lX X.env.scope x) (hf:X.fn x=true∨X.env.scope.names.lookup x=some .local:=by first|exact .inl rfl|exact .inr rfl|assumption):mI X G (.Name x pos) (aE i):=λ_=>PG.imp (R5 hN hi hx hf) λv σ H Q ⟨μ,ρ,h,d,ρ',rs,r,e,k⟩=>by cases e;exact k _ (rs.set i r)
abbrev pC:=Al->Ev->Option Ev
def WU (G:Cfg) (st:pC):nS:=λvs σ H Q=>∃μ ρ h ds ρ',Bf G μ h H ρ σ/\RelDL G μ h H ds vs/\st ds ρ=some ρ'/\∀σ',Bf G μ h H ρ' σ'->Q σ' H
def xG (X:Cx) (G:Cfg) (tg:List bj) (st:pC):Prop:=X.K=G.K->PGs X tg (WU G st)
def cK:pC:=λds ρ=>match ds with
 | []=>some ρ
 |_=>none
def aY (s:dP) (t:pC):pC:=λds ρ=>match ds with
 |d::r=>match s d ρ with
  |some ρ1=>t r ρ1
  |none=>none
 | []=>none
theorem jE:xG X G [] cK:=λ_=>PGs.imp R8 λvs σ H Q ⟨μ,ρ,h,ds,ρ',rs,r,e,k⟩=>by
 cases ds with
 |nil=>cases e;rw[RelDL]at r;subst r;exact⟨rfl,k _ rs⟩
 |cons d r=>cases e
theorem eG {tg:bj}{tgs:List bj}{s:dP}{t:pC}(h1:mI X G tg s) (h2:xG X G tgs t)
  (hs:(assignEach (tg::tgs) X.env).map (·.2)=assign tg X.env::(assignEach tgs X.env).map (·.2):=by rfl):xG X G (tg::tgs) (aY s t):=λhK=>PGs.imp (R9 (h1 hK) (h2 hK) hs) λvs σ H Q ⟨μ,ρ,h,ds,ρ',rs,r,e,k⟩=>by
 cases ds with
 |nil=>cases e
 |cons d ds=>
  rw[RelDL]at r;obtain⟨v,rr,rfl,r1,r2⟩:=r;unfold aY at e;dsimp only at e
  cases q:s d ρ with
  |none=>rw[q]at e;cases e
  |some ρ1=>rw[q]at e;exact⟨v,rr,rfl,μ,ρ,h,d,ρ1,rs,r1,q,λσ1 Bm=>⟨μ,ρ1,h,ds,ρ',Bm,r2,e,k⟩⟩
def cH (n:Nat) (t:pC):dP:=λd ρ=>match d with
 | .tup ds=>if ds.length=n then t ds ρ else none
 |_=>none
theorem jF {tgs:List bj}{k:Nat}{t:pC}{n:Nat}(hc:X.calm=true) (h:xG X G tgs t)
  (hn:(assignEach tgs X.env).length=n:=by rfl) (Es:(assignEach tgs X.env).findIdx? (·.1)=none:=by rfl):mI X G (.Tuple tgs k pos) (cH n t):=λhK=>
 PG.imp (SD hc (h hK) hn Es) λv σ H Q ⟨μ,ρ,hh,d,ρ',rs,r,e,kk⟩=>by
  cases d with
  |tup ds=>
   dsimp only[cH]at e
   split at e
   ·rename_i hl;obtain⟨a,vs,rfl,e1,r1⟩:=r;exact⟨a,vs,rfl,Fi e1,by rw[r1.length];exact hl,μ,ρ,hh,ds,ρ',rs,r1,e,kk⟩
   ·cases e
  |_=>cases e
def aL (me:M Dv) (st:dP):MS:=λρ h=>(me ρ h).thenS λd h1=>match st d ρ with
 |some ρ1=>.nx ρ1 h1
 |none=>.bad
theorem WV {st:dP}{σ:St}{H:Hp}{D:Ends}(t:xF G E (aL me st) D σ H):wJ (iJ G E me) (tT G st) D σ H:=by
 obtain⟨μ,ρ,h,rs,s,o⟩:=t;refine oZ rs s o λμ1 d h1 v H1 x1 Bm s1 r1 o1=>?_
 cases q:st d ρ with
 |none=>rw[q]at o1;exact o1.elim
 |some ρ1=>rw[q]at o1;exact⟨μ1,ρ,h1.length,d,ρ1,Bm,r1,q,λσ' rs'=>o1 μ1 H1 σ' Fq s1 rs'⟩
theorem JT {tg:bj}{st:dP}(he:aJ X G E e me) (hg:mI X G tg st) (hs:swapsWithSole [tg] e pos.line X.env=pure false:=by rfl) (hw:swappedStores [tg] e X.env=pure none:=by rfl)
  (h1:(assignEach [tg] X.env).map (·.2)=[assign tg X.env]:=by rfl):iU X G E (.Assign [tg] e pos) (aL me st):=λhK=>PS.imp (G4 (he hK) (hg hK) hs hw h1) λ_ _ _ t=>WV t
theorem BN {i:Nat}{x:Str}{pos':Pos}(hN:X.N.Nodup) (hi:X.N[i]?=some x) (hx:lX X.env.scope x) (he:aJ X G E e me) (hs:swapsWith e (some (.Name x pos')) pos.line X.env=pure false:=by rfl) (hf:X.fn x=true∨X.env.scope.names.lookup x=some .local:=by first|exact .inl rfl|exact .inr rfl|assumption):
  iU X G E (.Assign [.Name x pos'] e pos) (aL me (aE i)):=λhK=>PS.imp (AN hN hi hx (he hK) hs hf) λD σ H t=>by
 obtain⟨μ,ρ,h,rs,s,o⟩:=t;exact oZ rs s o λμ1 d h1 v H1 x1 Bm s1 r1 o1=>o1 μ1 H1 _ Fq s1 (Bm.set i r1)
end
structure Src where
 n:Nat
 get:Nat->Hs->Am
 fin:Hs->Bool
def Cm (G:Cfg) (μ0:Nat->ah) (n0:Nat) (H0:Hp) (src:Src) (J:It):Prop:=
 ∀(k:Nat) (μ:Nat->ah) (h:Hs) (H:Hp),Ext μ0 n0 H0 μ h.length H->Bh G μ h H->
  (k<src.n->∀d,src.get k h=some d->J.go k H/\∀x H',J.yld k H x H'->Cj H H'/\Ax G μ h.length H' d x)/\(k=src.n->src.fin h=true->J.stop k H)
def BO (G:Cfg) (E:XK) (m:M Src):TI:=λσ H R=>∃μ ρ h,Bf G μ h.length H ρ σ/\Bh G μ h H/\Out G E μ h.length H (m ρ h) (Cm G) R
def lD (X:Cx) (G:Cfg) (E:XK) (tg iter:bj) (m:M Src):Prop:=X.K=G.K->PI X tg iter (BO G E m)
theorem PI.imp {X:Cx}{tg iter:bj}{t t':TI}(h:PI X tg iter t) (i:∀σ H R,t' σ H R->t σ H R):PI X tg iter t':=λpins s σ H R I q=>h pins s σ H R I (i σ H R q)
def dX (xs:Al):Src:=⟨xs.length,λk _=>xs[k]?,λ_=>true⟩
def cA (i n:Nat):Src:=⟨n,λk h=>match getL h i with
 |some xs=>if xs.length=n then xs[k]? else none
 |none=>none,λh=>match getL h i with
 |some xs=>xs.length==n
 |none=>false⟩
def cT (lo hi:Int):Src:=⟨(hi - lo).toNat,λk _=>some (.int (lo+k)),λ_=>true⟩
def bK (f:Dv->Hs->Rs Src) (m:M Dv):M Src:=λρ h=>(m ρ h).bind f
section
variable{tg e a b:bj}{me ma mb:M Dv}{pos p:Pos}
def cB:Dv->Hs->Rs Src
 | .ref i,h=>match getL h i with
  |some xs=>.ok (cA i xs.length) h
  |none=>.bad
 |_,_=>.bad
def fI:Dv->Hs->Rs Src
 | .tup xs,h=>.ok (dX xs) h
 |_,_=>.bad
theorem mJ (he:aJ X G E e me):lD X G E tg e (bK cB me):=λhK=>PI.imp (SQ (he hK)) λσ H R ⟨μ,ρ,h,rs,s,o⟩=>fG rs s o λμ1 x h1 vx H1 x1 Bm s1 r1 o1=>by
 rw[hK]
 cases x with
 |ref i=>
  obtain⟨hi,rfl⟩:=r1;dsimp only[cB]at o1
  cases g:getL h1 i with
  |none=>rw[g]at o1;exact o1.elim
  |some xs=>
   rw[g]at o1;obtain⟨vs,e1,r2⟩:=s1.ob i _ (dO g);refine⟨_,rfl,⟨vs,Fv e1⟩,o1.val s1 λk μ2 h2 H2 x2 s2=>?_⟩;have emu:=x2.mu i hi;constructor
   ·intro hk d hd;dsimp only[cA]at hd
    cases g2:getL h2 i with
    |none=>rw[g2]at hd;cases hd
    |some ys=>
     rw[g2]at hd;dsimp only at hd
     split at hd
     ·obtain⟨ws,e2,r3⟩:=s2.ob i _ (dO g2);rw[emu]at e2;obtain⟨v,ev,rv⟩:=r3.get hd;refine⟨⟨ws,v,Fv e2,ev⟩,λx H' hy=>?_⟩;obtain⟨rfl,hy⟩:=hy;have:=hy ws (Fv e2);rw[ev]at this;cases this;exact⟨Cj.refl _,rv⟩
     ·cases hd
   ·intro hk hf;dsimp only[cA]at hf
    cases g2:getL h2 i with
    |none=>rw[g2]at hf;cases hf
    |some ys=>
     rw[g2]at hf;obtain⟨ws,e2,r3⟩:=s2.ob i _ (dO g2);rw[emu]at e2;refine⟨ws,Fv e2, ?_⟩;have h3:ys.length=xs.length:=by simpa using hf
     rw[r3.length,h3,hk];exact aj _
 |_=>exact o1.elim
theorem Cm.tup {μ:Nat->ah}{n:Nat}{H:Hp}{a:ah}{vs:Ge}{xs:Al}{K:aq}(e:H a=some (.tup vs)) (r:RelDL G μ n H xs vs) (hi:∀(X:Cx),True):Cm G μ n H (dX xs) (AQ K a):=by
 intro k μ2 h2 H2 x2 s2;have e2:=x2.im a (.tup vs) trivial e;have r2:=Ff x2 _ _ r;have inj:∀ws,Bk K H2 a ws->ws=vs->True:=λ_ _ _=>trivial;constructor
 ·intro hk d hd;obtain⟨v,ev,rv⟩:=r2.get hd;refine⟨⟨vs,v,Fi e2,ev⟩,λx H' hy=>?_⟩;obtain⟨rfl,hy⟩:=hy;have:=hy vs (Fi e2);rw[ev]at this;cases this;exact⟨Cj.refl _,rv⟩
 ·intro hk _;exact⟨vs,Fi e2,by rw[r2.length,hk];exact aj _⟩
theorem pD (he:aJ X G E e me):lD X G E tg e (bK fI me):=λhK=>PI.imp (SS (he hK)) λσ H R ⟨μ,ρ,h,rs,s,o⟩=>fG rs s o λμ1 x h1 vx H1 x1 Bm s1 r1 o1=>by
 cases x with
 |tup xs=>obtain⟨a,vs,rfl,e1,r2⟩:=r1;exact⟨a,rfl,⟨vs,Fi e1⟩,o1.val s1 (Cm.tup e1 r2 λ_=>trivial)⟩
 |_=>exact o1.elim
def lE (i:Int):Bool:=decide (-4611686018427387904<=i)&&decide (i<4611686018427387904)
def cQ:Al->Hs->Rs Src
 | [.int j],h=>if lE j=true then .ok (cT 0 j) h else .bad
 |_,_=>.bad
def jG:Al->Hs->Rs Src
 | [.int i,.int j],h=>if lE i=true/\lE j=true then .ok (cT i j) h else .bad
 |_,_=>.bad
def aR (f:Al->Hs->Rs Src) (ms:M Al ):M Src:=λρ h=>(ms ρ h).bind f
theorem Cm.rng {μ:Nat->ah}{n:Nat}{H:Hp}(lo hi:Int):Cm G μ n H (cT lo hi) (sY lo (hi - lo).toNat):=by
 intro k μ2 h2 H2 x2 s2;constructor
 ·intro hk d hd;cases hd;exact⟨hk,λx H' hy=>by obtain⟨rfl,rfl⟩:=hy;exact⟨Cj.refl _,rfl⟩⟩
 ·intro hk _;exact qg hk.symm
variable{ms:M Al }
theorem lF (hg:Gl X "range") (hm:X.mg "range" = none) (ha:eF X G E [a] ms) (hs:ar [a] X.env=[(false,eval a X.env)]:=by rfl):lD X G E tg (.Call (.Name "range" p) [a] [] pos) (aR cQ ms):=λhK=>
 PI.imp (SX hg hm (ha hK) hs) λσ H R ⟨μ,ρ,h,rs,s,o⟩=>kY rs s o λμ1 ds h1 vs H1 x1 Bm s1 r1 o1=>by
  unfold cQ at o1
  split at o1
  ·rename_i j
   split at o1
   ·rename_i hj;obtain⟨v,rfl,rv⟩:=tR r1;rw[Ax]at rv;subst rv;simp only[lE,da,decide_eq_true_eq]at hj;refine⟨j,rfl,by omega,by omega, ?_⟩;have:=o1.val s1 (Cm.rng (G:=G) (μ:=μ1) (n:=h1.length) (H:=H1) 0 j);rw[Int.sub_zero]at this;exact this
   ·exact o1.elim
  ·exact o1.elim
theorem JU (hg:Gl X "range") (hm:X.mg "range" = none) (ha:eF X G E [a,b] ms) (hs:ar [a,b] X.env=[(false,eval a X.env),(false,eval b X.env)]:=by rfl) (hs2:ar [b] X.env=[(false,eval b X.env)]:=by rfl):lD X G E tg (.Call (.Name "range" p) [a,b] [] pos) (aR jG ms):=λhK=>
 PI.imp (SY hg hm (ha hK) hs hs2) λσ H R ⟨μ,ρ,h,rs,s,o⟩=>kY rs s o λμ1 ds h1 vs H1 x1 Bm s1 r1 o1=>by
  unfold jG at o1
  split at o1
  ·rename_i i j
   split at o1
   ·rename_i hj;obtain⟨v,v',rfl,rv,rv'⟩:=xE r1;rw[Ax]at rv rv';subst rv;subst rv';simp only[lE,da,decide_eq_true_eq]at hj;exact⟨i,j,rfl,⟨by omega,by omega,by omega,by omega⟩,o1.val s1 (Cm.rng (G:=G) (μ:=μ1) (n:=h1.length) (H:=H1) i j)⟩
   ·exact o1.elim
  ·exact o1.elim
end
def eJ (src:Src) (st:dP) (body:MS):Nat->Nat->MS
 |0,_=>λρ h=>if src.fin h=true then .nx ρ h else .bad
 |f+1,k=>λρ h=>match src.get k h with
  |none=>.bad
  |some d=>match st d ρ with
   |none=>.bad
   |some ρ1=>match body ρ1 h with
    | .nx ρ2 h2=>eJ src st body f (k+1) ρ2 h2
    | .ct ρ2 h2=>eJ src st body f (k+1) ρ2 h2
    | .bk ρ2 h2=>.nx ρ2 h2
    |r=>r
def cU (mi:M Src) (st:dP) (body:MS):MS:=λρ h=>(mi ρ h).thenS λsrc h1=>eJ src st body src.n 0 ρ h1
section
variable{tg iter:bj}{body:List gw}{mi:M Src}{st:dP}{mb:MS}{pos:Pos}
theorem jR (hp:ya (model X.prog X.w) X.A X.env X.xe) (hc:X.calm=true) (hi:lD X G E tg iter mi) (hg:mI X G tg st) (hb:jQ X G E body mb)
  (hs:∀x,foldedSetIterable iter X.env x=pure x:=by intro _;rfl):iU X G E (.For tg iter body [] pos) (cU mi st mb):=λhK=>PS.imp (S1 hp hc (hi hK) (hg hK) (hb hK) hs) λD σ H ⟨μ,ρ,h,rs,s,o⟩=>by
 refine⟨μ,ρ,h,rs,s,(o.thenS (R:=Cm G)).mono λJ H1 ⟨μ1,src,h1,x1,s1,ok,o1⟩=>?_⟩;refine⟨λi m σ H=>∃μ2 ρ2 h2,Ext μ1 h1.length H1 μ2 h2.length H/\Bf G μ2 h2.length H ρ2 σ/\Bh G μ2 h2 H/\i+m=src.n/\Bw G E μ2 h2.length H (eJ src st mb m i ρ2 h2) D,⟨src.n,μ1,ρ,h1,Fq,rs.mono x1,s1,Nat.zero_add _,o1⟩, ?_⟩
 rintro i m σ2 H2 ⟨μ2,ρ2,h2,x2,Dj,s2,him,o2⟩
 cases m with
 |zero=>
  unfold eJ at o2
  split at o2
  ·rename_i hf;exact .inl ⟨(ok i μ2 h2 H2 x2 s2).2 (by omega) hf,o2 μ2 H2 σ2 Fq s2 Dj⟩
  ·exact o2.elim
 |succ m=>
  unfold eJ at o2
  cases q:src.get i h2 with
  |none=>rw[q]at o2;exact o2.elim
  |some d=>
   rw[q]at o2;dsimp only at o2
   cases q2:st d ρ2 with
   |none=>rw[q2]at o2;exact o2.elim
   |some ρ3=>
    rw[q2]at o2;dsimp only at o2;obtain⟨go,yl⟩:=(ok i μ2 h2 H2 x2 s2).1 (by omega) d q;refine .inr ⟨go,λσ' H'=>∃μ3 ρ4 h4,Ext μ1 h1.length H1 μ3 h4.length H'/\Bf G μ3 h4.length H' ρ4 σ'/\Bh G μ3 h4 H'/\(i+1)+m=src.n/\Bw G E μ3 h4.length H' (eJ src st mb m (i+1) ρ4 h4) D,λσ' H' z=>⟨m,jt m,z⟩,λx H' hy=>?_⟩;obtain⟨sm,rx⟩:=yl x H' hy;have xs:Ext μ2 h2.length H2 μ2 h2.length H':=Fg sm;refine⟨μ2,ρ2,h2.length,d,ρ3,Dj.mono xs,rx,q2,λσ3 rs3=>⟨μ2,ρ3,h2,rs3,s2.same sm, ?_⟩⟩;have step:∀ρ5 h5,Bw G E μ2 h2.length H2 (eJ src st mb m (i+1) ρ5 h5) D->∀μ6 H6 σ6,Ext μ2 h2.length H' μ6 h5.length H6->Bh G μ6 h5 H6->Bf G μ6 h5.length H6 ρ5 σ6->
      ∃μ3 ρ4 h4,Ext μ1 h1.length H1 μ3 h4.length H6/\Bf G μ3 h4.length H6 ρ4 σ6/\Bh G μ3 h4 H6/\(i+1)+m=src.n/\Bw G E μ3 h4.length H6 (eJ src st mb m (i+1) ρ4 h4) D:=
     λρ5 h5 o5 μ6 H6 σ6 x6 s6 rs6=>⟨μ6,ρ5,h5,(x2.trans xs).trans x6,rs6,s6,by omega,o5.ext (xs.trans x6)⟩
    cases q3:mb ρ3 h2 with
    |nx ρ5 h5=>rw[q3]at o2;exact step ρ5 h5 o2
    |ct ρ5 h5=>rw[q3]at o2;exact step ρ5 h5 o2
    |bk ρ5 h5=>rw[q3]at o2;exact λμ6 H6 σ6 x6 s6 rs6=>o2 μ6 H6 σ6 (xs.trans x6) s6 rs6
    |rt d5 h5=>rw[q3]at o2;exact λμ6 H6 σ6 x6 s6 rs6=>o2 μ6 H6 σ6 (xs.trans x6) s6 rs6
    |ex d5 h5=>rw[q3]at o2;exact λμ6 H6 σ6 x6 s6 rs6=>o2 μ6 H6 σ6 (xs.trans x6) s6 rs6
    |bad=>rw[q3]at o2;exact o2.elim
end
abbrev MC:=Ev->Hs->Al->Rs (Ev×Al)
def bM (me:M Dv):MC:=λρ h acc=>match me ρ h with
 | .ok d h1=>if acc.length<1000000 then .ok (ρ,acc++[d]) h1 else .bad
 |_=>.bad
def gS (src:Src) (st:dP) (test:M Bool) (inner:MC):Nat->Nat->MC
 |0,_=>λρ h acc=>if src.fin h=true then .ok (ρ,acc) h else .bad
 |f+1,k=>λρ h acc=>match src.get k h with
  |none=>.bad
  |some d=>match st d ρ with
   |none=>.bad
   |some ρ1=>match test ρ1 h with
    | .ok true h2=>match inner ρ1 h2 acc with
     | .ok r h3=>gS src st test inner f (k+1) r.1 h3 r.2
     |_=>.bad
    | .ok false h2=>gS src st test inner f (k+1) ρ1 h2 acc
    |_=>.bad
def nX (mi:M Src) (st:dP) (test:M Bool) (inner:MC):MC:=λρ h acc=>match mi ρ h with
 | .ok src h1=>gS src st test inner src.n 0 ρ h1 acc
 |_=>.bad
def eK:M Bool:=λ_ h=>.ok true h
def jS (cap:List (Option Nat)) (ρ:Ev):Ev:=cap.map λo=>match o with
 |some j=>(ρ[j]?).getD none
 |none=>none
def bT (mi:M Src) (cap:List (Option Nat)) (st:dP) (test:M Bool) (inner:MC):M Al :=λρ h=>(mi ρ h).bind λsrc h1=>match gS src st test inner src.n 0 (jS cap ρ) h1 []with
 | .ok r h2=>.ok r.2 h2
 |_=>.bad
def tU (G:Cfg) (m:MC):TC:=λσ H vs K=>∃μ ρ h xs ρ' xs' h',Bf G μ h.length H ρ σ/\Bh G μ h H/\RelDL G μ h.length H xs vs/\m ρ h xs=.ok (ρ',xs') h' /\
 ∀μ' H' σ' Cf,Ext μ h.length H μ' h'.length H'->Bh G μ' h' H'->Bf G μ' h'.length H' ρ' σ'->RelDL G μ' h'.length H' xs' Cf->K σ' H' Cf
section
variable{G:Cfg}
theorem WW {μ:Nat->ah}{n:Nat}{H:Hp}{ρ:Ev}{σ:St}(rs:Bf G μ n H ρ σ) (cap:List (Option Nat)):Bf G μ n H (jS cap ρ) (rD cap σ):=⟨by simp[jS,rD],λi d e=>by
 unfold jS at e;rw[dw]at e
 cases q:cap[i]? with
 |none=>rw[q]at e;cases e
 |some o=>
  rw[q]at e
  cases o with
  |none=>cases e
  |some j=>
   have e':(ρ[j]?).getD none=some d:=by simpa using e
   have e2:ρ[j]?=some (some d):=by
    cases z:ρ[j]? with
    |none=>rw[z]at e';cases e'
    |some y=>rw[z]at e';simp at e';rw[e']
   obtain⟨v,e3,r⟩:=rs.at_ j d e2;refine⟨v, ?_,r⟩;unfold rD;rw[dw,q];simp[e3]⟩
theorem BP {E:XK}{me:M Dv}{σ:St}{H:Hp}{vs:Ge}{K:St->Hp->Ge->Prop}(t:tU G (bM me) σ H vs K):IM (iJ G E me) σ H vs K:=by
 obtain⟨μ,ρ,h,xs,ρ',xs',h',rs,s,r,e,k⟩:=t;refine⟨μ,ρ,h,rs,s, ?_⟩;unfold bM at e
 cases q:me ρ h with
 |bad=>rw[q]at e;cases e
 |ex c h1=>rw[q]at e;cases e
 |ok d h1=>
  rw[q]at e;dsimp only at e
  split at e
  ·rename_i hl;cases e;intro μ1 H1 v x1 s1 r1;refine⟨?_,k μ1 H1 σ _ x1 s1 (rs.mono x1) ((Ff x1 _ _ r).append (Fj r1 Fu))⟩;rw[r.length];exact av hl (by decide)
  ·cases e
theorem JV {E:XK}{src:Src}{st:dP}{test:M Bool}{inner:MC}{J:It}{μ1:Nat->ah}{h1:Hs}{H1:Hp}{ρ ρ':Ev}{σ:St}{xs xs':Al}{vs:Ge}{h':Hs}{K:St->Hp->Ge->Prop}
  (ok:Cm G μ1 h1.length H1 src J) (rs:Bf G μ1 h1.length H1 ρ σ) (s1:Bh G μ1 h1 H1) (r:RelDL G μ1 h1.length H1 xs vs) (e:gS src st test inner src.n 0 ρ h1 xs=.ok (ρ',xs') h')
  (k:∀μ' H' σ' Cf,Ext μ1 h1.length H1 μ' h'.length H'->Bh G μ' h' H'->Bf G μ' h'.length H' ρ' σ'->RelDL G μ' h'.length H' xs' Cf->K σ' H' Cf):
  tH J (tT G st) (iR G E test) (tU G inner) K σ H1 vs:=by
 refine⟨λi m σ H vs=>∃μ2 ρ2 h2 xs2,Ext μ1 h1.length H1 μ2 h2.length H/\Bf G μ2 h2.length H ρ2 σ/\Bh G μ2 h2 H/\RelDL G μ2 h2.length H xs2 vs/\i+m=src.n/\gS src st test inner m i ρ2 h2 xs2=.ok (ρ',xs') h',⟨src.n,μ1,ρ,h1,xs,Fq,rs,s1,r,Nat.zero_add _,e⟩, ?_⟩
 rintro i m σ2 H2 vs2 ⟨μ2,ρ2,h2,xs2,x2,Dj,s2,r2,him,e2⟩
 cases m with
 |zero=>
  unfold gS at e2
  split at e2
  ·rename_i hf;cases e2;exact .inl ⟨(ok i μ2 _ H2 x2 s2).2 (by omega) hf,k μ2 H2 σ2 vs2 x2 s2 Dj r2⟩
  ·cases e2
 |succ m=>
  unfold gS at e2
  cases q:src.get i h2 with
  |none=>rw[q]at e2;cases e2
  |some d=>
   rw[q]at e2;dsimp only at e2
   cases q2:st d ρ2 with
   |none=>rw[q2]at e2;cases e2
   |some ρ3=>
    rw[q2]at e2;dsimp only at e2;obtain⟨go,yl⟩:=(ok i μ2 h2 H2 x2 s2).1 (by omega) d q;refine .inr ⟨go,λσ' H' Cf=>∃μ3 ρ4 h4 xs4,Ext μ1 h1.length H1 μ3 h4.length H'/\Bf G μ3 h4.length H' ρ4 σ'/\Bh G μ3 h4 H'/\RelDL G μ3 h4.length H' xs4 Cf/\(i+1)+m=src.n/\gS src st test inner m (i+1) ρ4 h4 xs4=.ok (ρ',xs') h',
     λσ' H' Cf z=>⟨m,jt m,z⟩,λx H' hy=>?_⟩
    obtain⟨sm,rx⟩:=yl x H' hy;have xsm:Ext μ2 h2.length H2 μ2 h2.length H':=Fg sm;refine⟨μ2,ρ2,h2.length,d,ρ3,Dj.mono xsm,rx,q2,λσ3 rs3=>⟨μ2,ρ3,h2,rs3,s2.same sm, ?_⟩⟩
    cases q3:test ρ3 h2 with
    |bad=>rw[q3]at e2;cases e2
    |ex c h3=>rw[q3]at e2;cases e2
    |ok b h3=>
     rw[q3]at e2;intro μ4 H4 b' x4 s4 rb;have eb:b'=b:=rb;subst eb
     cases b' with
     |false=>rw[if_neg (by decide)];exact⟨μ4,ρ3,h3,xs2,(x2.trans xsm).trans x4,rs3.mono x4,s4,Ff (xsm.trans x4) _ _ r2,by omega,e2⟩
     |true=>
      rw[if_pos rfl];dsimp only at e2
      cases q4:inner ρ3 h3 xs2 with
      |bad=>rw[q4]at e2;cases e2
      |ex c h5=>rw[q4]at e2;cases e2
      |ok rr h5=>rw[q4]at e2;obtain⟨ρ5,xs5⟩:=rr;exact⟨μ4,ρ3,h3,xs2,ρ5,xs5,h5,rs3.mono x4,s4,Ff (xsm.trans x4) _ _ r2,q4,λμ6 H6 σ6 vs6 x6 s6 rs6 r6=>⟨μ6,ρ5,h5,xs5,((x2.trans xsm).trans x4).trans x6,rs6,s6,r6,by omega,e2⟩⟩
theorem WX {E:XK}{mi:M Src}{st:dP}{test:M Bool}{inner:MC}{σ:St}{H:Hp}{vs:Ge}{K:St->Hp->Ge->Prop}(t:tU G (nX mi st test inner) σ H vs K):IU (BO G E mi) (tT G st) (iR G E test) (tU G inner) σ H vs K:=by
 obtain⟨μ,ρ,h,xs,ρ',xs',h',rs,s,r,e,k⟩:=t;refine⟨μ,ρ,h,rs,s, ?_⟩;unfold nX at e
 cases q:mi ρ h with
 |bad=>rw[q]at e;cases e
 |ex c h1=>rw[q]at e;cases e
 |ok src h1=>rw[q]at e;exact λμ1 H1 J x1 s1 ok=>JV ok (rs.mono x1) s1 (Ff x1 _ _ r) e λμ2 H2 σ2 vs2 x2=>k μ2 H2 σ2 vs2 (x1.trans x2)
def RL (G:Cfg):(Nat->ah)->Nat->Hp->Al->V->Prop:=λμ n H xs v=>∃p vs,v=.ref p/\H p=some (.lst vs)/\(∀i,i<n->μ i≠p)/\RelDL G μ n H xs vs
def xH (G:Cfg) (E:XK) (m:M Al ):TE:=λσ H Q=>∃μ ρ h,Bf G μ h.length H ρ σ/\Bh G μ h H/\Out G E μ h.length H (m ρ h) (RL G) Q
def qF (X:Cx) (G:Cfg) (E:XK) (pe:bj) (m:M Al ):Prop:=X.K=G.K->PE X pe (xH G E m)
theorem Bh.adopt {μ:Nat->ah}{h:Hs}{H:Hp}{p:ah}{ds:Al}{vs:Ge}(s:Bh G μ h H) (e:H p=some (.lst vs)) (hq:∀i,i<h.length->μ i≠p) (r:RelDL G μ h.length H ds vs):
  Ext μ h.length H (λi=>if i=h.length then p else μ i) (h++[Fd ds]).length H/\Bh G (λi=>if i=h.length then p else μ i) (h++[.lst ds]) H:=by
 have hl:(h++[Fd ds]).length=h.length+1:=by simp
 have x:Ext μ h.length H (λi=>if i=h.length then p else μ i) (h++[Fd ds]).length H:=⟨by omega,λi hi=>if_neg (bg hi),λa o _ e=>e⟩
 refine⟨x,λi j hi hj e=>?_,λi o q=>?_,s.tab⟩
 ·rw[hl]at hi hj
  by_cases h1:i=h.length <;> by_cases h2:j=h.length
  ·omega
  ·rw[if_pos h1,if_neg h2]at e;exact absurd e.symm (hq j (by omega))
  ·rw[if_neg h1,if_pos h2]at e;exact absurd e (hq i (by omega))
  ·rw[if_neg h1,if_neg h2]at e;exact s.inj i j (by omega) (by omega) e
 ·by_cases h1:i<h.length
  ·rw[dz h1]at q;have r1:=s.ob i o q
   cases o with
   |lst xs=>obtain⟨ws,e1,r2⟩:=r1;exact⟨ws,by rw[if_neg (bg h1)];exact e1,Ff x _ _ r2⟩
   |clo k t=>rw[if_neg (bg h1)];exact r1.clo x
  ·rw[gq (by omega)]at q;have h2:i=h.length:=by have:=(az.mp q).1;simp at this;omega
   subst h2;simp at q;subst q;exact⟨vs,by rw[if_pos rfl];exact e,Ff x _ _ r⟩
def bU (m:M Al ):M Dv:=λρ h=>(m ρ h).bind λxs h1=>.ok (.ref h1.length) (h1++[.lst xs])
theorem JW {E:XK}{m:M Al }{σ:St}{H:Hp}{Q:VK}(t:iJ G E (bU m) σ H Q):xH G E m σ H Q:=by obtain⟨μ,ρ,h,rs,s,o⟩:=t;refine⟨μ,ρ,h,rs,s,(o.bind (R1:=RL G)).mono λv H1 ⟨μ1,xs,h1,x1,s1,⟨p,vs,ev,e1,hq,r1⟩,o1⟩=>?_⟩;subst ev;obtain⟨x2,s2⟩:=s1.adopt e1 hq r1;exact o1 _ _ _ x2 s2 ⟨by simp,by show Gb p=Gb (if h1.length=h1.length then p else μ1 h1.length);rw[if_pos rfl]⟩
theorem kH {X:Cx}{E:XK}{pe:bj}{m:M Al }(h:qF X G E pe m):aJ X G E pe (bU m):=λhK=>Fo (h hK) λ_ _ _ t=>JW t
theorem BQ {E E':XK}{mi:M Src}{cap:List (Option Nat)}{st:dP}{test:M Bool}{inner:MC}{σ:St}{H:Hp}{Q:VK}(t:xH G E (bT mi cap st test inner) σ H Q):BA (BO G E mi) cap (tT G st) (iR G E' test) (tU G inner) σ H Q:=by
 obtain⟨μ,ρ,h,rs,s,o⟩:=t;refine⟨μ,ρ,h,rs,s,(o.bind (R1:=Cm G)).mono λJ H1 ⟨μ1,src,h1,x1,s1,ok,o1⟩=>?_⟩
 cases q:gS src st test inner src.n 0 (jS cap ρ) h1 []with
 |bad=>rw[q]at o1;exact o1.elim
 |ex c h2=>rw[q]at o1;exact o1.elim
 |ok r h2=>rw[q]at o1;obtain⟨ρ',xs'⟩:=r;refine JV ok (WW (rs.mono x1) cap) s1 Fu q λμ2 H2 σ2 vs2 x2 s2 Dj r2 p hp=>?_;exact o1 μ2 _ _ (x2.trans (Fg (dH hp))) (s2.same (dH hp)) ⟨p,vs2,rfl,dF,s2.not hp,Ff (Fg (dH hp)) _ _ r2⟩
end
section
variable{elt tg iter Ej Bn:bj}{ifs Cq:List bj}{sc:gu}{ps pos:Pos}{mi mi':M Src}{st Dw:dP}{test test':M Bool}{me:M Dv}{N:Aj}{cap:List (Option Nat)}
def rL (X:Cx) (G:Cfg) (ifs:List bj) (m:M Bool):Prop:=X.K=G.K->PTs X ifs (iR G E0 m)
theorem PTs.imp {Y:Cx}{ifs:List bj}{t t':TT}(h:PTs Y ifs t) (i:∀σ H Q,t' σ H Q->t σ H Q):PTs Y ifs t':=λpins s σ H Q I q=>h pins s σ H Q I (i σ H Q q)
theorem nY {Y:Cx}:rL Y G [] eK:=λ_=>PTs.imp VY λσ H Q ⟨μ,ρ,h,rs,s,o⟩=>o.val s rfl
theorem kJ {Y:Cx}{c:bj}{m:M Bool}(h:fF Y G E0 c m):rL Y G [c] m:=λhK=>VZ (h hK)
theorem PCl.imp {Y:Cx}{D:ah}{m:Sem Unit}{t t':TC}(h:PCl Y D m t) (i:∀σ H xs K,t' σ H xs K->t σ H xs K):PCl Y D m t':=λpins s σ H xs K I a f q=>h pins s σ H xs K I a f (i σ H xs K q)
theorem gU (hc:X.calm=true) (C:Ca X sc N cap) (hi:lD X G E tg iter mi) (hg:∀s H ex,mI (dM X sc N s H ex) G tg st) (Er:∀s H ex,rL (dM X sc N s H ex) G ifs test) (hel:∀s H ex,aJ (dM X sc N s H ex) G E0 elt me)
  (hs:∀x,foldedSetIterable iter X.env x=pure x:=by intro _;rfl):qF X G E (.ListComp elt [⟨tg,iter,ifs,0⟩] sc ps) (bT mi cap st test (bM me)):=λhK=>
 Fo (IW hc C rfl (λit D env=>IS elt tg iter ifs sc ps (.ref it) D env) (hi hK) (λs H ex=>hg s H ex hK) (λs H ex=>Er s H ex hK) (λs H ex D=>PCl.imp (A9 (hel s H ex hK)) λ_ _ _ _ t=>BP t) hs) λ_ _ _ t=>BQ t
theorem WY (hc:X.calm=true) (C:Ca X sc N cap) (hi:lD X G E tg iter mi) (hg:∀s H ex,mI (dM X sc N s H ex) G tg st) (Er:∀s H ex,rL (dM X sc N s H ex) G ifs test)
  (hi':∀s H ex,lD (dM X sc N s H ex) G E0 Ej Bn mi') (Ef:∀s H ex,mI (dM X sc N s H ex) G Ej Dw) (htt':∀s H ex,rL (dM X sc N s H ex) G Cq test') (hel:∀s H ex,aJ (dM X sc N s H ex) G E0 elt me)
  (hs:∀x,foldedSetIterable iter X.env x=pure x:=by intro _;rfl) (hs':∀s H ex x,foldedSetIterable Bn (dM X sc N s H ex).env x=pure x:=by intro _ _ _ _;rfl):
  qF X G E (.ListComp elt [⟨tg,iter,ifs,0⟩,⟨Ej,Bn,Cq,0⟩] sc ps) (bT mi cap st test (nX mi' Dw test' (bM me))):=λhK=>
 Fo (IW hc C rfl (inner:=λD env=>tI Bn (.ListComp elt [⟨tg,iter,ifs,0⟩,⟨Ej,Bn,Cq,0⟩] sc ps) 1 D env) (λit D env=>V0 elt tg iter Ej Bn ifs Cq sc ps (.ref it) D env) (hi hK) (λs H ex=>hg s H ex hK) (λs H ex=>Er s H ex hK)
  (λs H ex D=>PCl.imp (V2 (X:=dM X sc N s H ex) (D:=D) (gens:=[⟨tg,iter,ifs,0⟩,⟨Ej,Bn,Cq,0⟩]) (d:=1) rfl hc rfl (λit=>V1 elt tg iter Ej Bn ifs Cq sc ps (.ref it) D _) (hi' s H ex hK) (Ef s H ex hK) (htt' s H ex hK) (PCl.imp (A9 (hel s H ex hK)) λ_ _ _ _ t=>BP t) (hs' s H ex)) λ_ _ _ _ t=>WX t) hs) λ_ _ _ t=>BQ t
end
def eM (T:ah) (h:cu):Prop:=∃oT ts,h.get? T=some oT/\oT.data=.fields ts/\ts[3]?=some .none
structure Chg (fs:List ah) (e T:ah) (h h':cu):Prop where
 new:h.objs.size<=T
 keep:∀b o,b≠e->b∉fs->h.get? b=some o->h'.get? b=some o
 slot:∀b o,b≠e->h.get? b=some o->∃sl,h'.get? b=some { o with slots:=sl }
 tb:eM T h'
theorem WZ (f:Array af->Array af) (o:Obj):(Obj.mapFields f o).dict=o.dict:=by
 unfold Obj.mapFields
 split <;> rfl
section
variable{M:xc}{A:bu}{E:af->ag->Prop}{s:ag}
theorem BR {a:ah}{o:Obj}{vs:Array af}{i:Nat}{v:af}{Q:Unit->ag->Prop}(e:s.heap.get? a=some o) (hd:o.data=.fields vs) (hi:i<vs.size)
  (k:∀h' o',ik a s.heap h'->h'.get? a=some o'->o'.cls=o.cls->o'.dict=o.dict->o'.data=.fields (vs.setIfInBounds i v)->Q () { s with heap:=h' }):wpAny M A (setField (.ref a) i v) Q E s:=
 have d':=vj hd (·.setIfInBounds i v)
 zi e hd hi (k _ _ (oj ..) (oq _ e (zq d')) (Obj.cls_mapFields ..) (WZ ..) d')
theorem W0 {head v:af}{L:Int}{pl:List af}{Q:af->ag->Prop}(Ce:IsPlace pl) (k:∀ob ts,ob.data=.fields ts->3<ts.size->ob.isFreed=false->Q (.ref s.heap.objs.size) { s with heap:=s.heap.push ob }):
  wpAny M A (ye head v .none (rawInt L) .none pl) Q E s:=
 gn (k _ _ rfl (by simp only[ax,bq,cg,ni];omega) rfl) (Ce.sizeOk5 ..)
theorem JX {e T:ah}{oe oT:Obj}{vs ts:Array af}{Q:Unit->ag->Prop}(he:s.heap.get? e=some oe) (hd:oe.data=.fields vs) (h1:vs[1]?=some (.ref T)) (hT:s.heap.get? T=some oT) (hdT:oT.data=.fields ts) (hs:3<ts.size)
  (k:∀h',ik T s.heap h'->eM T h'->Q () { s with heap:=h' }):wpAny M A (setFlight (.ref e) none) Q E s:=by
 refine aa (fz he hd h1 ?_);show wpAny M A (if(ib T != jr)=true then _ else _) Q E s;rw[if_pos (by simp)];exact BR hT hdT hs λh' o' sb g _ _ d=>k h' sb ⟨o',_,g,d,by rw[ja hs];rfl⟩
theorem JY {base:cu}{l:List Env}{a:ah}{o:Obj}{vs:Array af}(hl:s.heap.FunFrames base l) (e:s.heap.get? a=some o) (hd:o.data=.fields vs):a∉dY l:=λhm=>by obtain⟨_,o',e',nf⟩:=hl.mem hm;rw[e]at e';cases e';exact nf vs hd
theorem JZ {base:cu}{env:Env}{outer:List Env}{L e:ah}{oe:Obj}{vs:Array af}{head a0:af}{nx:Bool}{Q:Unit->ag->Prop}(hfr:A.frames=some (env::outer)) (hl:s.heap.FunFrames base (env::outer)) (hf:env.frame=some L)
  (he:s.heap.get? e=some oe) (hd:oe.data=.fields vs) (hdn:oe.dict=none) (Cd:1<vs.size) (h0:vs[0]?=some a0)
  (k:∀h' T,Chg (dY (env::outer)) e T s.heap h'->eE oe.cls e T a0 h'->Q () { s with heap:=h' }):
  wpAny M A (do let a <-frameOf env;let pl <-entryPlaceOf L nx;let b <-ye head a .none (rawInt L) .none pl;setField (.ref e) 1 b)
   (λ_ s'=>wpAny M A (setFlight (.ref e) none) Q E s') E s:=by
 have ne:=JY hl he hd;refine aa (wpAny_frameOf_fun hfr hl hf λg1 so=>aa (wpAny_entryPlaceOf λpl Ce=>aa (W0 Ce λob ts dt hts nf=>?_)));have e1:g1.get? e=some oe:=(so.2.1 e ne).trans he;have lt:e<g1.objs.size:=au e1;refine BR (s:={ s with heap:=g1.push ob }) (ak _ e1) hd Cd λg2 oe2 sb2 ge c2 dn2 d2=>?_;have gT:g2.get? g1.objs.size=some ob:=sb2.extBut _ _ (jq lt) (bf _ nf);refine JX (s:={ s with heap:=g2 }) ge d2 (T:=g1.objs.size) (by rw[ja Cd]) gT dt hts λg3 sb3 tb=>?_;have kp:∀b o,b≠e->g1.get? b=some o->g3.get? b=some o:=λb o hb q=>sb3.extBut _ _ (bg (au q)) (sb2.extBut _ _ hb (ak _ q));refine k g3 g1.objs.size ⟨qg so.1.symm,λb o hb hn q=>kp b o hb ((so.2.1 b hn).trans q),λb o hb q=>?_,tb⟩ ⟨oe2,_,sb3.extBut _ _ (bg lt) ge,c2,d2, ?_, ?_,dn2.trans hdn⟩
 ·obtain⟨sl,q'⟩:=so.2.2 b o q;exact⟨sl,kp b _ hb q'⟩
 ·rw[Array.getElem?_setIfInBounds_ne (by decide)];exact h0
 ·rw[ja Cd]
theorem W2 {base:cu}{env:Env}{outer:List Env}{L e:ah}{oe:Obj}{vs:Array af}{a0:af}{Q:Unit->ag->Prop}(hfr:A.frames=some (env::outer)) (hl:s.heap.FunFrames base (env::outer)) (hf:env.frame=some L)
  (he:s.heap.get? e=some oe) (hd:oe.data=.fields vs) (hdn:oe.dict=none) (h0:vs[0]?=some a0) (h1:vs[1]?=some .none)
  (k:∀h' T,Chg (dY (env::outer)) e T s.heap h'->eE oe.cls e T a0 h'->Q () { s with heap:=h' }):
  wpAny M A (noteFrame (.ref e) env) (λ_ s'=>wpAny M A (setFlight (.ref e) none) Q E s') E s:=by
 unfold noteFrame;rw[hf];refine aa (fz he hd h1 ?_);exact JZ hfr hl hf he hd hdn (dm.mp h1).1 h0 k
theorem W3 {base:cu}{env:Env}{outer:List Env}{L e T:ah}{C a0:af}{Q:Unit->ag->Prop}(hfr:A.frames=some (env::outer)) (hl:s.heap.FunFrames base (env::outer)) (hf:env.frame=some L)
  (hx:eE C e T a0 s.heap) (ht:eM T s.heap) (hne:T≠e)
  (k:∀h' T',s.heap.objs.size<=T'->(∀b o,b≠e->b≠T->b∉dY (env::outer)->s.heap.get? b=some o->h'.get? b=some o)->(∀b o,b≠e->b≠T->s.heap.get? b=some o->∃sl,h'.get? b=some { o with slots:=sl })->
   eE C e T' a0 h'->eM T h'->eM T' h'->Q () { s with heap:=h' }):
  wpAny M A (noteFrame (.ref e) env) (λ_ s'=>wpAny M A (setFlight (.ref e) none) Q E s') E s:=by
 obtain⟨oe,vs,he,rfl,hd,h0,h1,hdn⟩:=hx;obtain⟨oT,ts,hT,hdT,h3⟩:=ht;have l3:3<ts.size:=(dm.mp h3).1;have nT:=JY hl hT hdT;unfold noteFrame;rw[hf];refine aa (fz he hd h1 ?_);rw[if_pos (by simp)];refine aa (fz hT hdT h3 ?_);rw[if_neg (by simp[rawInt])];refine aa (BR hT hdT l3 λg o' sb gT _ _ dT=>?_);have hl':g.FunFrames base (env::outer):=hl.of_keeps λb o q nf=>⟨o,sb.extBut _ _ (λz=>by subst z;rw[hT]at q;cases q;exact nf ts hdT) q,rfl⟩
 refine JZ (s:={ s with heap:=g }) hfr hl' hf (sb.extBut _ _ (cx hne) he) hd hdn (dm.mp h1).1 h0 λh' T' c x=>?_;refine k h' T' (by rw[<-sb.1];exact c.new) (λb o n1 n2 n3 q=>c.keep b o n1 n3 (sb.extBut _ _ n2 q)) (λb o n1 n2 q=>c.slot b o n1 (sb.extBut _ _ n2 q)) x ⟨_,_,c.keep T _ hne nT gT,dT, ?_⟩ c.tb;rw[ja l3]
end
theorem BS {P:bh}{w:cm}{H:Hp}{h:cu}{a:ah}{o:HO}(x:Bb P w H h a o):∃ob,h.get? a=some ob:=by
 cases o with
 |lst xs=>obtain⟨_,_,_,_,e⟩:=x;exact⟨_,e⟩
 |tup xs=>obtain⟨_,_,_,ob,e,_⟩:=x;exact⟨_,e⟩
 |dK kvs=>obtain⟨_,_,_,_,o,_,_,e,_⟩:=x;exact⟨_,e⟩
 |dT kvs=>obtain⟨_,_,_,_,o,_,_,e,_⟩:=x;exact⟨_,e⟩
 |set S n=>obtain⟨o,_,_,_,e,_⟩:=x;exact⟨_,e⟩
 |ins C dx fs=>obtain⟨_,_,_,e,_⟩:=x;exact⟨_,e⟩
 |own y=>exact x
 |xd fs=>obtain⟨_,⟨_,_,_,e,_⟩,_⟩:=x;exact⟨_,e⟩
 |rng lo hi=>obtain⟨_,_,_,e⟩:=x;exact⟨_,e⟩
 |frz ob u=>obtain⟨e,_⟩:=x;exact⟨_,e⟩
 |tbl ps=>exact⟨_,(show h.get? a=some _ from x)⟩
 |met f y=>exact⟨_,(show h.get? a=some _ from x)⟩
 |ext φ=>obtain⟨_,e,_⟩:=x;exact e
def xI (base:cu) (H:Hp) (C:af) (e:ah):Prop:=∃T a0,H e=some (.ext (eE C e T a0))/\H T=some (.ext (eM T))/\base.get? e=none/\T≠e
def tV (e:ah) (H H':Hp):Prop:=∀b o,b≠e->H b=some o->H' b=some o
theorem W4 {C a0:af}{e T:ah}{h1 h2:cu}(x:eE C e T a0 h1) (k:∀o,h1.get? e=some o->h2.get? e=some o):eE C e T a0 h2:=by obtain⟨oe,vs,he,r⟩:=x;exact⟨oe,vs,k oe he,r⟩
theorem W5 {T:ah}{h1 h2:cu}(x:eM T h1) (k:∀o,h1.get? T=some o->h2.get? T=some o):eM T h2:=by obtain⟨oe,vs,he,r⟩:=x;exact⟨oe,vs,k oe he,r⟩
theorem J0 {P:bh}{w:cm}{H:Hp}{h:cu}{C a0:af}{e T:ah}(x:eE C e T a0 h):Bb P w H h e (.ext (eE C e T a0)):=⟨x,(let ⟨oe,_,he,_⟩:=x;⟨oe,he⟩),λ_ _ y k=>W4 y k⟩
theorem xJ {P:bh}{w:cm}{H:Hp}{h:cu}{T:ah}(x:eM T h):Bb P w H h T (.ext (eM T)):=⟨x,(let ⟨oe,_,he,_⟩:=x;⟨oe,he⟩),λ_ _ y k=>W5 y k⟩
section
variable{P:bh}{w:cm}{M:xc}{A:bu}{E:af->ag->Prop}{s:ag}{H:Hp}{base:cu}{env:Env}{outer:List Env}{L e:ah}{C:af}
theorem BU {Q:Unit->ag->Prop}(hfr:A.frames=some (env::outer)) (hl:s.heap.FunFrames base (env::outer)) (hf:env.frame=some L) (hok:Cc P w H s.heap) (hfree:∀b∈dY (env::outer),H b=none) (fl:xI base H C e)
  (k:∀h' H',Un (dY (env::outer)) [] H H' s.heap h'->Cc P w H' h'->xI base H' C e->tV e H H'->Q () { s with heap:=h' }):
  wpAny M A (noteFrame (.ref e) env) (λ_ s'=>wpAny M A (setFlight (.ref e) none) Q E s') E s:=by
 obtain⟨T,a0,he,hT,hb,hne⟩:=fl;have xe:eE C e T a0 s.heap:=(show Bb P w H s.heap e _ from hok e _ he).1;have xt:eM T s.heap:=(show Bb P w H s.heap T _ from hok T _ hT).1;refine W3 hfr hl hf xe xt hne λh' T' Cv keep slot x' t0 t'=>?_;have nT':H T'=none:=hok.fresh Cv;have eT':T'≠e:=(gA he nT').symm;have TT':T'≠T:=(gA hT nT').symm;have sx:tV e H (aU (aU H e (.ext (eE C e T' a0))) T' (.ext (eM T'))):=λb o hbe q=>by rw[bV (gA q nT'),bV hbe];exact q
 have ee:aU (aU H e (.ext (eE C e T' a0))) T' (.ext (eM T')) e=some (.ext (eE C e T' a0)):=by rw[bV (cx eT'),dF]
 refine k h' (aU (aU H e (.ext (eE C e T' a0))) T' (.ext (eM T'))) ?_ ?_ ⟨T',a0,ee,dF,hb,eT'⟩ sx
 ·have free:∀b o,s.heap.get? b=some o->H b=none->aU (aU H e (.ext (eE C e T' a0))) T' (.ext (eM T')) b=none:=λb o q n=>by have h1:b≠T':=bg (av (au q) Cv);have h2:b≠e:=(gA he n).symm;rw[bV h1,bV h2];exact n
  refine⟨λb o q n hb _=>keep b o (gA he n).symm (gA hT n).symm hb q,λb o q n _ _=>slot b o (gA he n).symm (gA hT n).symm q,λb o q n _=>free b o q n,λb o q _=>?_,λb xs q=>?_,λb o u q=>?_,λb ps q=>?_⟩
  ·by_cases h1:b=e
   ·subst h1;obtain⟨oe,_,z,_⟩:=x';exact⟨oe,z⟩
   ·by_cases h2:b=T
    ·subst h2;obtain⟨oe,_,z,_⟩:=t0;exact⟨oe,z⟩
    ·obtain⟨sl,z⟩:=slot b o h1 h2 q;exact⟨_,z⟩
  ·exact sx b _ (oU q he (by intro z;cases z)) q
  ·exact sx b _ (oU q he (by intro z;cases z)) q
  ·exact⟨#[],by rw[sx b _ (oU q he (by intro z;cases z)) q];simp⟩
 ·intro a o q
  by_cases h1:a=T'
  ·subst h1;rw[dF]at q;cases q;exact xJ t'
  ·rw[bV h1]at q
   by_cases h2:a=e
   ·subst h2;rw[dF]at q;cases q;exact J0 x'
   ·rw[bV h2]at q
    by_cases h3:a=T
    ·subst h3;rw[hT]at q;cases q;exact xJ t0
    ·have nf:a∉dY (env::outer):=λz=>by rw[hfree a z]at q;cases q
     refine(hok a o q).stay (λb u hb z=>?_) (λb z=>sx b _ (oU z he (by intro y;cases y)) z) λb xs z=>sx b _ (oU z he (by intro y;cases y)) z
     rcases hb with rfl|hb
     ·exact keep b u h2 h3 nf z
     ·exact keep b u (oU hb he (by intro y;cases y)) (oU hb hT (by intro y;cases y)) (λy=>by rw[hfree b y]at hb;cases hb) z
theorem J1 {Q:Unit->ag->Prop}{h0:cu}{args:List af}(hfr:A.frames=some (env::outer)) (hl:h0.FunFrames base (env::outer)) (hf:env.frame=some L) (hok:Cc P w H h0) (hfree:∀b∈dY (env::outer),H b=none) (hsb:∀b o,base.get? b=some o->h0.get? b=some o)
  (mx:Heap.MadeExcOf h0 s.heap e C args)
  (k:∀h' H',Un (dY (env::outer)) [] H H' h0 h'->Cc P w H' h'->xI base H' C e->Cj H H'->Q () { s with heap:=h' }):
  wpAny M A (noteFrame (.ref e) env) (λ_ s'=>wpAny M A (setFlight (.ref e) none) Q E s') E s:=by
 obtain⟨t,he,hnt,ht⟩:=mx.there;have hbn:base.get? e=none:=by
  cases q:base.get? e with
  |none=>rfl
  |some o=>have:=hsb e o q;rw[mx.new]at this;cases this
 have nH:H e=none:=by
  cases q:H e with
  |none=>rfl
  |some o=>
   have z:∀a o,H a=some o->h0.get? a≠none:=λa o q n=>by
    have lt:=hok.lt q;have:=(hok a o q)
    have ex:∃ob,h0.get? a=some ob:=BS this;obtain⟨ob,eo⟩:=ex;rw[n]at eo;cases eo
   exact absurd mx.new (z e o q)
 have hl1:s.heap.FunFrames base (env::outer):=hl.of_keeps λb o hb _=>⟨o,mx.keeps b o hb,rfl⟩
 refine W2 hfr hl1 hf he rfl rfl (a0:=.ref t) rfl rfl λh' T c x=>?_;have ne_e:∀b o,h0.get? b=some o->b≠e:=λb o q z=>by subst z;rw[mx.new]at q;cases q
 have lt0:∀b o,h0.get? b=some o->b<T:=λb o q=>av (au (mx.keeps b o q)) c.new;have nT:H T=none:=by
  cases q:H T with
  |none=>rfl
  |some o=>obtain⟨ob,eo⟩:=BS (hok T o q);exact absurd (lt0 T ob eo) (gv _)
 have eT:T≠e:=jq (av (au he) c.new);have sm:Cj H (aU (aU H e (.ext (eE C e T (.ref t)))) T (.ext (eM T))):=λb o q=>by rw[bV (gA q nT),bV (gA q nH)];exact q
 refine k h' (aU (aU H e (.ext (eE C e T (.ref t)))) T (.ext (eM T))) ?_ ?_ ⟨T,.ref t,by rw[bV (cx eT),dF],dF,hbn,eT⟩ sm
 ·refine⟨λb o q n hb _=>c.keep b o (ne_e b o q) hb (mx.keeps b o q),λb o q n _ _=>c.slot b o (ne_e b o q) (mx.keeps b o q),λb o q n _=>?_,λb o q _=>?_,λb xs q=>sm b _ q,λb o u q=>sm b _ q,λb ps q=>⟨#[],by rw[sm b _ q];simp⟩⟩
  ·rw[bV (bg (lt0 b o q)),bV (ne_e b o q)];exact n
  ·obtain⟨sl,z⟩:=c.slot b o (ne_e b o q) (mx.keeps b o q);exact⟨_,z⟩
 ·intro a o q
  by_cases h1:a=T
  ·subst h1;rw[dF]at q;cases q;exact xJ c.tb
  ·rw[bV h1]at q
   by_cases h2:a=e
   ·subst h2;rw[dF]at q;cases q;exact J0 x
   ·rw[bV h2]at q;have nf:a∉dY (env::outer):=λz=>by rw[hfree a z]at q;cases q
    refine(hok a o q).stay (λb u hb z=>?_) (λb z=>sm b _ z) λb xs z=>sm b _ z
    rcases hb with rfl|hb
    ·exact c.keep b u (ne_e b u z) nf (mx.keeps b u z)
    ·exact c.keep b u (ne_e b u z) (λy=>by rw[hfree b y]at hb;cases hb) (mx.keeps b u z)
end
def bR (P:bh) (w:cm) (base:cu):nU:=λouter H s E u s'=>∃e C H',u=.ref e/\s'.os=s.os/\tq s'.gens/\Un (dY outer) [] H H' s.heap s'.heap/\Cc P w H' s'.heap/\xI base H' C e/\E u none H'
def W6 (X:Cx) (E:XK):Prop:=∀(pins:List (ah×Obj)) (σ:St) (H:Hp) (s:ag) (h':cu) (e:ah) (C:af) (args:List af),Inv X pins σ H s->Heap.MadeExcOf s.heap h' e C args->
 (∀H',Cj H H'->(∃T a0,H' e=some (.ext (eE C e T a0)))->E (.ref e) none H')->X.xe (.ref e) { s with heap:=h' }
structure Good (X:Cx) (G:Cfg) (E:XK) (k:Nat):Prop where
 calm:X.calm=true
 room:Bo k X.A
 K:X.K=G.K
 pas:AX (bR X.prog X.w X.base) X E
 own:ya (model X.prog X.w) X.A X.env X.xe
 rais:W6 X E
def BV (E:XK):Prop:=∀e H H',tV e H H'->(∃C T a0 T' a0',H e=some (.ext (eE C e T a0))/\(∃h,eE C e T a0 h)/\H' e=some (.ext (eE C e T' a0')))->E (.ref e) none H->E (.ref e) none H'
section
variable{P:bh}{w:cm}{K:aq}{mg:Str->Option af}{base:cu}{N:Aj}{qual:Str}{scope:gu}{f:ah}{cdv:af}{A:bu}{outer:List Env}{s0:ag}{H0:Hp}{E0:XK}{G:Cfg}{E:XK}{k:Nat}
theorem BW (hr:Bo k (A.deeper (envOfC qual scope s0.heap.objs.size f cdv))) (hK:K=G.K) (hE:∀u H',E u none H'->E0 u none H') (hF:BV E):
  Good (gJ (bR P w base) P w K mg base N qual scope f cdv A outer s0 H0 E0) G E k where
 calm:=rfl
 room:=hr
 K:=hK
 own:=yw
 pas:=by intro pins σ H s u s' I ⟨e,C,H',eu,os,bare,un,hok,fl,he⟩;subst eu;have I':=I.call' os un hok bare (λb z=>absurd z (by simp));refine aa (BU (P:=P) (w:=w) (H:=H') (base:=base) I'.ok.frames I'.stack rfl hok I'.stkFree fl λh'' H'' un2 De Eu sx=>?_);have I2:=I'.call (h':=h'') (g':=s'.gens) (d':=s'.drawn) (t':=s'.toks) un2 De I'.bare (λb z=>absurd z (by simp));obtain⟨T,a0,h1,_⟩:=id fl;obtain⟨T2,a2,h3,_⟩:=id Eu;have xe1:eE C e T a0 s'.heap:=(show Bb P w H' s'.heap e _ from hok e _ h1).1;have:E (.ref e) none H'':=hF e H' H'' sx ⟨C,T,a0,T2,a2,h1,⟨_,xe1⟩,h3⟩ he;exact⟨e,C,H'',rfl,I2.os,I2.bare,I2.base,De,Eu,hE _ _ this⟩
 rais:=by intro pins σ H s h' e C args I mx he;refine aa (J1 (P:=P) (w:=w) (H:=H) (base:=base) I.ok.frames I.stack rfl I.hok I.stkFree I.bk mx λh'' H'' un2 De Eu sm=>?_);have I2:=I.call (h':=h'') (g':=s.gens) (d':=s.drawn) (t':=s.toks) un2 De I.bare (λb z=>absurd z (by simp));obtain⟨T2,a2,h3,_⟩:=id Eu;exact⟨e,C,H'',rfl,I2.os,I2.bare,I2.base,De,Eu,hE _ _ (he H'' sm ⟨T2,a2,h3⟩)⟩
theorem cZ {X:Cx}{sc:gu}{N':Aj}{s:ag}{H:Hp}{ex:List ah}(g:Good X G E k):Good (dM X sc N' s H ex) G L2.E0 k where
 calm:=g.calm
 room:=g.room
 K:=g.K
 own:=PassesOwn.never
 pas:=λ_ _ _ _ _ _ _ ⟨_,_,_,_,_,_,_,_,_,z⟩=>z
 rais:=λ_ _ H s h' e C args I mx he=>by
  have nH:H e=none:=by
   cases q:H e with
   |none=>rfl
   |some o=>obtain⟨ob,eo⟩:=BS (I.hok e o q);rw[mx.new]at eo;cases eo
  exact he (aU H e (.ext (eE C e 0 .none))) (dH nH) ⟨0,.none,dF⟩
def bX (n:Nat) (ds:Al):Ev:=ds.map some++xl (n - ds.length) none
def bJ:Sr->Rs Dv
 | .rt d h=>.ok d h
 | .nx _ h=>.ok .non h
 | .ex c h=>.ex c h
 |_=>.bad
def aV (np n:Nat) (mb:MS):Ak:=λds h=>if ds.length=np then bJ (mb (bX n ds) h)else .bad
def cN (G:Cfg) (F:Ak):Sp:=λvs H Q E=>∃μ h ds,RelDL G μ h.length H ds vs/\Bh G μ h H/\Out G E μ h.length H (F ds h) (Ax G) Q
theorem J2 {μ:Nat->ah}{n:Nat}{H:Hp}{ds:Al}{vs:Ge}(r:RelDL G μ n H ds vs) (N:Aj):Bf G μ n H (bX N.length ds) (start N vs):=by
 have hl:=r.length;refine⟨by simp[bX,start,hl],λi d e=>?_⟩;unfold bX at e
 by_cases hi:i<ds.length
 ·rw[dz (by simpa using hi),dw]at e
  cases q:ds[i]? with
  |none=>rw[q]at e;cases e
  |some d'=>rw[q]at e;cases e;obtain⟨v,e1,r1⟩:=r.get q;refine⟨v, ?_,r1⟩;unfold start;rw[dz (by simp;omega),dw,e1];rfl
 ·rw[gq (by simpa using hi),sh]at e
  split at e <;> cases e
def EB (G:Cfg) (μ0:Nat->ah) (n0:Nat) (H0:Hp) (r:Sr):XK:=λu _ H'=>∃c h' μ',r=.ex c h'/\Ext μ0 n0 H0 μ' h'.length H'/\Bh G μ' h' H'/\wY G H' c u
theorem Bh.sameX {μ:Nat->ah}{h:Hs}{H H':Hp}{e:ah}(s:Bh G μ h H) (sx:tV e H H') (hx:∃φ,H e=some (.ext φ)):Bh G μ h H'/\∀(n:Nat),Ext μ n H μ n H':=by
 obtain⟨φ,hx⟩:=hx;have x:∀n:Nat,Ext μ n H μ n H':=λn=>⟨aj _,λ_ _=>rfl,λa o i q=>sx a o (by rintro rfl;rw[hx]at q;cases q;exact i) q⟩
 refine⟨⟨s.inj,λi o q=>?_,s.tab.keep λa o _ n2 q=>sx a o (by rintro rfl;rw[hx]at q;cases q;exact n2 _ rfl) q⟩,x⟩;have r:=s.ob i o q
 cases o with
 |lst xs=>obtain⟨vs,e1,r1⟩:=r;exact⟨vs,sx _ _ (oU e1 hx (by intro z;cases z)) e1,Ff (x _) _ _ r1⟩
 |clo k t=>exact r.clo (x _)
theorem BX {μ0:Nat->ah}{n0:Nat}{H0:Hp}{r:Sr}:BV (EB G μ0 n0 H0 r):=by intro e H H' sx ⟨C,T,a0,T',a0',h1,⟨hp,hx⟩,h3⟩ ⟨c,h',μ',er,x,s,e',φ,eu,h4,h5⟩;cases eu;obtain⟨s2,x2⟩:=s.sameX sx ⟨_,h1⟩;refine⟨c,h',μ',er,x.trans (x2 _),s2,e,_,rfl,h3,λhh z=>?_⟩;rw[h1]at h4;cases h4;obtain⟨o,g1,g2⟩:=h5 hp hx;obtain⟨oe,vs,g3,g4,_⟩:=hx;rw[g3]at g1;cases g1;obtain⟨oe',Cf,g5,g6,_⟩:=z;exact⟨oe',g5,by rw[g6,<-g4,g2]⟩
theorem dI {x qual:Str}{st:gw}{fd:bo}{ps:Aj}{mb:MS}(Fn:Bx K x qual st f fd) (S:Ay N ps (aX st)) (hK:K=G.K)
  (Br:∀(cdv:af) (A:bu) (outer:List Env) (s:ag) (H:Hp) (E₀ E:XK),Good (gJ (bR P w base) P w K mg base N qual (aX st) f cdv A outer s H E₀) G E k->jQ (gJ (bR P w base) P w K mg base N qual (aX st) f cdv A outer s H E₀) G E (jN st) mb):
  Bd P w K mg base (bR P w base) (k+1) f fd ps (cN G (aV ps.length N.length mb)):=by
 obtain⟨oc,od,kV,doc,pm,an,cdv,ct,osl,rfl,lk,hcd⟩:=Fn.ex;have hlen:∀vs H Q E,cN G (aV ps.length N.length mb) vs H Q E->vs.length=ps.length:=λvs H Q E ⟨μ,h,ds,r,sm,o⟩=>by
  rw[r.length];unfold aV at o
  by_cases hd:ds.length=ps.length
  ·exact hd
  ·rw[if_neg hd]at o;exact o.elim
 refine AY lk hcd S hlen λA outer s H vs Q E hr hsp=>?_;have hl:=hlen _ _ _ _ hsp;obtain⟨μ,h,ds,r,sm,o⟩:=hsp;have o':Out G E μ h.length H (bJ (mb (bX N.length ds) h)) (Ax G) Q:=by unfold aV at o;rw[if_pos (by rw[<-r.length];exact hl)]at o;exact o
 refine⟨_,Br cdv A outer s H E (EB G μ h.length H (mb (bX N.length ds) h)) (BW hr hK (λu H' ⟨c,h',μ',er,x,s',fl⟩=>?_) BX) hK, ?_⟩
 ·rw[er]at o';exact o' μ' H' u x s' fl
 ·refine⟨μ,bX N.length ds,h,J2 r N,sm, ?_⟩
  cases q:mb (bX N.length ds) h with
  |bad=>rw[q]at o';exact o'.elim
  |bk ρ h'=>rw[q]at o';exact o'.elim
  |ct ρ h'=>rw[q]at o';exact o'.elim
  |rt d h'=>rw[q]at o';exact o'
  |nx ρ h'=>rw[q]at o';exact λμ' H' σ' x' s' rs'=>o' μ' H' .non x' s' rfl
  |ex c h'=>exact λμ' H' u x' s' fl=>⟨c,h',μ',rfl,x',s',fl⟩
theorem pE {X:Cx}{F:Ak}{ps:Aj}{fd:bo}{x:Str}{p pos:Pos}{e:bj}{es:List bj}{ms:M Al }{j:Nat}(g:Good X G E k) (Fn:Bd X.prog X.w X.K X.mg X.base (bR X.prog X.w X.base) j f fd ps (cN G F)) (hj:j<=k)
  (hg:Gl X x) (hm:X.mg x=some (.ref f)) (hk:lj X.K (.ref f)=true) (hb:Binds X.K fd ps []) (ha:eF X G E (e::es) ms)
  (Du:(x==Gd)=false:=by decide) (he:ar (e::es) X.env=(false,eval e X.env)::ar es X.env:=by rfl) (Ce:(backTo pos (ar es X.env)).any (·.1)=false:=by rfl):
  aJ X G E (.Call (.Name x p) (e::es) [] pos) (aF F ms):=λhK=>
 Fo (T9 Fn (g.room.mono hj) hg hm hk hb .nil g.pas (ha hK) Du he Ce) λσ H Q ⟨μ,ρ,h,rs,s,o⟩=>kY rs s o λμ1 ds1 h1 vs H1 x1 Bm s1 r1 o1=>by rw[ku];exact⟨μ1,h1,ds1,r1,s1,o1⟩
end
abbrev tW:List af:=[.type "ValueError",.type "Exception",.type "BaseException",.type "object"]
theorem W7 {K:aq}{mg:Str->Option af}{base:cu}(p:bh) (m:Mod K mg base):∃loose mb,PySem.W.TopRead p loose mg mb base:=by
 obtain⟨mb,hb,hbb⟩:=m.blt;obtain⟨o,es,ep,ho,hd,hk,hf⟩:=id m.glob;refine⟨es.toList.filterMap λe=>match e.key with
  | .str n _=>some n
  |_=>none,mb,m.glob,hb,m.nolimit,hbb,λx _ hx _ _ _=>?_⟩
 rw[<-hf x]
 cases q:nsFind es x with
 |none=>rfl
 |some v=>
  exfalso
  apply hx
  unfold nsFind findBy at q;obtain⟨e,he,_⟩:=si.mp q;have h1:=Array.find?_some he;have h2:=Array.mem_of_find?_eq_some he;obtain⟨n,t,hn⟩:=hk e h2;rw[hn]at h1;have h3:n=x:=by simpa[Value.isStr]using h1
  exact jv.mpr ⟨e,by simpa using h2,by rw[hn,h3]⟩
section
variable{k:Nat}{x:Str}{C:ah}{np cpos pos:Pos}{e:bj}{es:List bj}{t:TA}{ms:M Al }{c:Nat}
theorem J3 (g:Good X G E k) (hg:Gl X x) (hm:X.mg x=some (.ref C)) (hns:sf X.K dg x=some (some (.ref C))) (hx:qp X.K C tW "ValueError.__new__" = true) (ha:PA X (e::es) t) (hd:(x==Gd)=false:=by decide)
  (he:ar (e::es) X.env=(false,eval e X.env)::ar es X.env:=by rfl) (Ce:(backTo cpos (ar es X.env)).any (·.1)=false:=by rfl):
  PS X (.Raise (some (.Call (.Name x np) (e::es) [] cpos)) none pos) (λ_ σ H=>t σ H λvs H1=>vs.length<=ck/\∀e H',Cj H1 H'->(∃T a0,H' e=some (.ext (eE (.ref C) e T a0)))->E (.ref e) none H'):=by
 intro pins s σ H D I h;obtain⟨bm,N,nm,q,bs,hdct,sn,sub,ab,col,dd,k0,k1,k2,k3,k5,mN,hC,hN,hni,T⟩:=(let ⟨_,_,tr⟩:=W7 X.prog I.ok.mod;PySem.W.own_of_in I.ok.mod.kin tr hns hx).obj;refine wpAny_Raise_call_subU (C:=C) (nm:=nm) (q:=q) (N:=N) (bs:=bs) (bm:=bm) (hdct:=hdct) (sn:=sn) (sub:=sub) (ab:=ab) (col:=col) (dd:=dd) (k0:=k0) (k1:=k1) (k2:=k2) (k3:=k3) (k5:=k5)
  wu (by decide) wu (mN:=mN) (T.hasType (by decide)) (I.ok.hd g.calm) (by rw[he];show(false||(backTo cpos (ar es X.env)).any (·.1))=false;rw[Ce];rfl) hni (sX I hg hm ⟨rfl, ?_⟩ hd)
 have hh:=ha cpos pins s σ H _ I h;rw[he]at hh ⊢;refine uh (aZ hh λus s2 ⟨vs,H2,I2,r,hz,w⟩=>⟨rfl,by rw[<-r.length];exact hz,I2.bk _ _ hC,hN.keeps I2.bk,T.keeps I2.bk,λh' e' mx=>?_⟩);exact g.rais pins σ H2 s2 h' e' _ _ I2 mx λH' sm z=>w e' H' sm z
theorem J4 {H:Hp}{e:ah}(hc:C=G.cl c) (z:∃T a0,H e=some (.ext (eE (.ref C) e T a0))):wY G H c (.ref e):=by obtain⟨T,a0,z⟩:=z;exact⟨e,_,rfl,z,λh ⟨oe,vs,h1,h2,_⟩=>⟨oe,h1,by rw[h2,hc]⟩⟩
def tX (c:Nat) (ms:M Al ):MS:=λρ h=>(ms ρ h).thenS λds h1=>if ds.length<=1000 then .ex c h1 else .bad
theorem W8 (g:Good X G E k) (hg:Gl X x) (hm:X.mg x=some (.ref C)) (hns:sf X.K dg x=some (some (.ref C))) (hx:qp X.K C tW "ValueError.__new__" = true) (hc:C=G.cl c) (ha:eF X G E (e::es) ms) (hd:(x==Gd)=false:=by decide)
  (he:ar (e::es) X.env=(false,eval e X.env)::ar es X.env:=by rfl) (Ce:(backTo cpos (ar es X.env)).any (·.1)=false:=by rfl):
  iU X G E (.Raise (some (.Call (.Name x np) (e::es) [] cpos)) none pos) (tX c ms):=λhK=>PS.imp (J3 g hg hm hns hx (ha hK) hd he Ce) λD σ H ⟨μ,ρ,h,rs,s,o⟩=>
 ⟨μ,ρ,h,rs,s,(o.thenS (R:=RelDL G)).mono λvs H1 ⟨μ1,ds,h1,x1,s1,r1,o1⟩=>by
  split at o1
  ·rename_i hl;refine⟨by rw[r1.length];exact dh hl (by decide),λe' H' sm z=>?_⟩;exact o1 μ1 H' (.ref e') (Fg sm) (s1.same sm) (J4 hc z)
  ·exact o1.elim⟩
def BY (X:Cx) (p:bj) (cond:St->Prop):Prop:=∀(pins:List (ah×Obj)) (s:ag) (σ:St) (H:Hp),Inv X pins σ H s->cond σ->
 wpAny (model X.prog X.w) X.A (eval p X.env) (λu s'=>∃y t,u=.str y t/\y.length<=1000/\Inv X pins σ H s') X.xe s
theorem J5 {y:Str}{j:Nat}{p:Pos}(h:y.length<=1000):BY X (.Constant (.str y) j p) (λ_=>True):=λpins s σ H I _=>aZ (GX (X:=X) pins s σ H (λv H'=>v=.str y/\H'=H) I ⟨rfl,rfl⟩) λu s' ⟨v,H',I',r,hv,hH⟩=>by subst hv;subst hH;obtain⟨t,rfl⟩:=r;exact⟨y,t,rfl,h,I'⟩
theorem J6 {a:Int}(h:iK a=true):a.natAbs.log2<1920/\(toString a:Str).length<=1000:=by
 have hn:a.natAbs<2 ^ 64:=by simp only[iK,da,decide_eq_true_eq]at h;omega
 have hlog:a.natAbs.log2<64:=by
  by_cases h0:a.natAbs=0
  ·rw[h0];decide
  ·exact(Nat.log2_lt h0).mpr hn
 refine⟨by omega, ?_⟩;have e:=int_text_length_le (k:=64) (by decide) hlog;rw[PySem.ofString_length];omega
theorem J7 {i:Nat}{y:Str}{p q:Pos}(hv:PE X (.Name y p) (GV i)):BY X (.FormattedValue (.Name y p) (-1) none q) (λσ=>∃a,σ[i]?=some (some (.int a))/\iK a=true):=by intro pins s σ H I ⟨a,e,ha⟩;refine FormattedValue_plain (aZ (hv pins s σ H (λv H'=>v=.int a/\H'=H) I ⟨_,e,rfl,rfl⟩) λu s1 ⟨v,H',I',r,e1,e2⟩=>?_);subst e1;subst e2;obtain⟨t,rfl⟩:=r;exact formatField_int_small (J6 ha).1 ⟨_,_,rfl,(J6 ha).2,I'.tok _⟩
inductive Di (X:Cx):List bj->(St->Prop)->Prop
 |nil:Di X [] (λ_=>True)
 |cons {p:bj}{ps:List bj}{a b:St->Prop}:BY X p a->Di X ps b->Di X (p::ps) (λσ=>a σ/\b σ)
theorem W9 {ps:List bj}{cond:St->Prop}(h:Di X ps cond):∀(out:Str) (pins:List (ah×Obj)) (s:ag) (σ:St) (H:Hp),Inv X pins σ H s->cond σ->out.length+1000*ps.length<=ck->
  wpAny (model X.prog X.w) X.A (joinParts out (evalEach ps X.env)) (λu s'=>∃y t,u=.str y t/\Inv X pins σ H s') X.xe s:=by
 induction h with
 |nil=>intro out pins s σ H I _ hl;exact joinParts_nil ⟨_,_,rfl,I.tok _⟩ (by simpa using hl)
 | @cons p ps a b hp hr ih=>intro out pins s σ H I ⟨ca,cb⟩ hl;rw[cg]at hl;have e1:evalEach (p::ps) X.env=eval p X.env::evalEach ps X.env:=rfl;rw[e1];refine joinParts_cons (aZ (hp pins s σ H I ca) λu s1 ⟨y,t,eu,hy,I1⟩=>?_);subst eu;have hz:(out++y).length=out.length+y.length:=strLen_append ..;refine⟨by omega,ih (out++y) pins s1 σ H I1 cb (by omega)⟩
theorem XA {p1 p2:bj}{ps:List bj}{cond:St->Prop}(h:Di X (p1::p2::ps) cond) (hl:1000*(ps.length+2)<=ck:=by decide):
  PE X (.JoinedStr (p1::p2::ps) pos) (λσ H Q=>cond σ/\∀y,Q (.str y) H):=by
 intro pins s σ H Q I ⟨c,q⟩;refine JoinedStr_many ?_;have e1:eval p1 X.env::eval p2 X.env::evalEach ps X.env=evalEach (p1::p2::ps) X.env:=rfl;rw[e1];refine aZ (W9 h Str.empty pins s σ H I c (by have:Str.empty.length=0:=rfl;rw[this,cg,cg];omega)) λu s' ⟨y,t,eu,I'⟩=>?_;exact⟨.str y,H,I',⟨t,eu⟩,q y⟩
def xK (c:Nat) (slots:Ai):MS:=λρ h=>if slots.all (λi=>match ρ[i]? with
 |some (some (.int a))=>iK a
 |_=>false)=true then .ex c h else .bad
theorem XB {p1 p2:bj}{ps:List bj}{cond:St->Prop}{slots:Ai}{fpos:Pos}(g:Good X G E k) (hg:Gl X x) (hm:X.mg x=some (.ref C)) (hns:sf X.K dg x=some (some (.ref C))) (hx:qp X.K C tW "ValueError.__new__" = true) (hc:C=G.cl c)
  (h:Di X (p1::p2::ps) cond) (hcond:∀σ,(∀i∈slots,∃a,σ[i]?=some (some (.int a))/\iK a=true)->cond σ) (hl:1000*(ps.length+2)<=ck:=by decide)
  (hd:(x==Gd)=false:=by decide) (he:ar [.JoinedStr (p1::p2::ps) fpos] X.env=[(false,eval (.JoinedStr (p1::p2::ps) fpos) X.env)]:=by rfl):
  iU X G E (.Raise (some (.Call (.Name x np) [.JoinedStr (p1::p2::ps) fpos] [] cpos)) none pos) (xK c slots):=λhK=>PS.imp (J3 g hg hm hns hx (iI (XA h hl) jM he) hd he rfl) λD σ H ⟨μ,ρ,hh,rs,s,o⟩=>by
 unfold xK at o
 split at o
 ·rename_i ha;refine⟨hcond σ λi hi=>?_,λy=>⟨by show 1<=ck;decide,λe' H' sm z=>o μ H' (.ref e') (Fg sm) (s.same sm) (J4 hc z)⟩⟩;have:=fi.mp ha i hi
  cases q:ρ[i]? with
  |none=>rw[q]at this;cases this
  |some o1=>
   cases o1 with
   |none=>rw[q]at this;cases this
   |some d=>
    cases d with
    |int a=>rw[q]at this;obtain⟨v,e1,r1⟩:=rs.at_ i _ q;rw[Ax]at r1;subst r1;exact⟨a,e1,this⟩
    |_=>rw[q]at this;cases this
 ·exact o.elim
end
open PySem.W
section
variable{prog:bh}{w:cm}{A:bu}{E:af->ag->Prop}{h:cu}{g:Array GenState}{d:Drawn}{t:Nat}{os:OsState}{a C:ah}{o:Obj}{K:Frag}
structure Cy (K:Frag) (C:ah):Prop where
 ga:findIn K (.ref C) "__getattribute__" = some (some (.builtin "BaseException.__getattribute__"))
 ng:findIn K (.ref C) "__getattr__" = some none
 cl:findIn K (.ref C) "__class__" = some (some (.builtin "object.__class__"))
 ob:mroIn K C (.type "object")=some true
 be:subIn K (.ref C) (.type "BaseException")=some true
 se:kitCls K (.ref C) (.ref C)=some true
 lk:∃oc od cd osl,K.lookup C=some ⟨oc,od,.cls cd,osl⟩
theorem kindGa:builtinKind "BaseException.__getattribute__" = some .slot/\splitId "BaseException.__getattribute__" = some ("BaseException","__getattribute__"):=by decide +kernel
theorem XC:(ur "BaseException.__getattribute__" == ur "object.__getattribute__")=false:=by decide +kernel
section
variable{R:yb->ag->Prop}{s:ag}
theorem XD {M:xc}{n:af}{Q:Unit->ag->Prop}(X:K.In s.heap) (I:InstAt s.heap a o C none) (k:Cy K C) (hq:Q () s):wpAny M A (checkBuiltinCall "BaseException.__getattribute__" ⟨[.ref a,n],[]⟩) Q E s:=by
 have one:Looks M s.heap (isInstance (.ref a) (.type "BaseException")) true:=I.type.andThen (looks_subIn X k.be);have two:=F.args_bexc_ga (.ref a) n;obtain⟨hh,g,d,t,os⟩:=s;unfold checkBuiltinCall;rw[kindGa.1,kindGa.2];refine aa (one.at ?_)
 repeat (first|assumption|wp_step)
theorem XE {n:Tok}(X:K.In s.heap) (I:InstAt s.heap a o C none) (k:Cy K C) (hq:R (.ok (.ret (.ref C))) s):codeAny (model prog w) A (.call (.builtin "BaseException.__getattribute__") ⟨[.ref a,.str "__class__" n],[]⟩) R s:=by
 refine vk F.excAttr_ValueError.ga.plain F.entry_bexc_ga (XD X I k ?_);have own:=I.type (M:=model prog w);have entry:=looks_findIn (M:=model prog w) X k.cl;have of_get:=F.slot_gs_get.lookup;have of_set:=F.slot_gs_set.lookup;have kind:=F.typeOf_object_class;have kindIs:s.TypeIs (.builtin "object.__class__") "getset_descriptor" := kind;obtain⟨hh,g,d,t,os⟩:=s
 repeat (any_goals (first|assumption|with_reducible refine own.at ?_|with_reducible refine entry.at ?_|wp_step))
 exact class_get (s:=⟨hh,g,d,t,os⟩) X I k.ob (by repeat (any_goals (first|assumption|wp_step)))
end
theorem XF {Q:Option af->ag->Prop}(X:K.In h) (I:InstAt h a o C none) (k:Cy K C) (hq:Q (some (.ref C)) ⟨h,g,d,t+1,os⟩):
  wpAny (model prog w) A (getAttr? (.ref a) "__class__") Q E ⟨h,g,d,t,os⟩:=by
 have own:=I.type (M:=model prog w);have first_:=looks_findIn (M:=model prog w) X k.ga;have then_:=looks_findIn (M:=model prog w) X k.ng;have bound:=F.excAttr_ValueError.ga.bind (.ref a);have other:=XC;have apart:(onTheHeap (ib C)&&ur "BaseException.__getattribute__" == ur "object.__getattribute__")=false:=by rw[other];rfl
 unfold getAttr? getAttrBy?
 repeat (any_goals (first|assumption|with_reducible refine own.at ?_|with_reducible refine first_.at ?_|with_reducible refine then_.at ?_|wp_step))
 exact XE X I k (by repeat (any_goals (first|assumption|wp_step)))
def XG (a C:ah) (h:cu):Prop:=∃o,InstAt h a o C none
theorem XH (k:Cy K C):KitX K (.ref a) (.ref C) (XG a C) where
 ty:=λ_ _ _ ⟨_,I⟩=>I.type
 it:=λ_ _ X _=>(kit_cls X k.se).2.1
 ne:=λh tp dd its n sl X htp=>by
  cases z:(ib C==ib tp)with
  |false=>rfl
  |true=>
   obtain rfl:C=tp:=by simpa using z
   obtain⟨oc,od,cd,osl,lk⟩:=k.lk;have:=X _ _ lk;rw[htp]at this;simp at this
 ca:=λ{prog w A E Q s} X ⟨o,I⟩ hq=>by obtain⟨hh,g,d,t,os⟩:=s;exact XF X I k hq
end
inductive Ty where
 |non|bl|int|str|tup|lst|dct|exc (c:Nat)
def gW:Dv->Hs->Option Ty
 | .non,_=>some .non
 | .bl _,_=>some .bl
 | .int _,_=>some .int
 | .str _,_=>some .str
 | .tup _,_=>some .tup
 | .ref i,h=>match getL h i with
  |some _=>some .lst
  |none=>none
 | .edc,_=>some .dct
 | .exc c,_=>some (.exc c)
 | .scr,_=>none
def lG (cl:Nat->ah):Ty->af
 | .non=>.type "NoneType"
 | .bl=>.type "bool"
 | .int=>.type "int"
 | .str=>.type "str"
 | .tup=>.type "tuple"
 | .lst=>.type "list"
 | .dct=>.type "dict"
 | .exc c=>.ref (cl c)
def bG (f:Ty->Option Bool) (d:Dv) (h:Hs):Rs Dv:=match gW d h with
 |some ty=>match f ty with
  |some b=>.ok (.bl b) h
  |none=>.bad
 |none=>.bad
section
variable{pins:List (ah×Obj)}{σ:St}{H:Hp}{s:ag}
theorem J8 {μ:Nat->ah}{h:Hs}{d:Dv}{v:V}{u:af}{ty:Ty}(I:Inv X pins σ H s) (sm:Bh G μ h H) (r:Ax G μ h.length H d v) (ru:RelV v u) (e:gW d h=some ty) (hex:∀c,ty=.exc c->Cy X.K (G.cl c)):
  ∃P,KitX X.K u (lG G.cl ty) P/\P s.heap/\u≠.builtin "__main__.__loader__#opaque":=by
 cases d with
 |non=>cases e;rw[Ax]at r;subst r;cases ru;exact⟨_,kitx_none,trivial,λz=>nomatch z⟩
 |bl b=>cases e;rw[Ax]at r;subst r;cases ru;exact⟨_,kitx_bool,trivial,λz=>nomatch z⟩
 |int i=>cases e;rw[Ax]at r;subst r;obtain⟨t,rfl⟩:=ru;exact⟨_,kitx_int,trivial,λz=>nomatch z⟩
 |str i=>cases e;rw[Ax]at r;subst r;obtain⟨t,rfl⟩:=ru;exact⟨_,kitx_str,trivial,λz=>nomatch z⟩
 |tup ds=>
  cases e;obtain⟨a,vs,rfl,ea,_⟩:=r;cases ru;obtain⟨_,_,_,o,h1,h2,_⟩:=(show Bb X.prog X.w H s.heap a (.tup vs) from I.hok a _ ea)
  exact⟨_,kitx_tuple,⟨o,h1,h2⟩,λz=>nomatch z⟩
 |ref i=>
  dsimp only[gW]at e
  cases g:getL h i with
  |none=>rw[g]at e;cases e
  |some xs=>
   rw[g]at e;cases e;obtain⟨_,rfl⟩:=r;cases ru;obtain⟨vs,ea,_⟩:=sm.ob i _ (dO g);obtain⟨_,_,n,_,h1⟩:=(show Bb X.prog X.w H s.heap (μ i) (.lst vs) from I.hok _ _ ea)
   exact⟨_,kitx_list,⟨_,h1,rfl⟩,λz=>nomatch z⟩
 |edc=>
  cases e;obtain⟨a,rfl,ea⟩:=r;cases ru;obtain⟨_,_,vs,_,p⟩:=(show Bb X.prog X.w H s.heap a (.dK []) from I.hok a _ ea)
  obtain⟨o,es,ep,h1,h2,_⟩:=p;exact⟨_,kitx_dict,⟨o,h1,h2.1⟩,λz=>nomatch z⟩
 |exc c=>
  cases e;obtain⟨a,o,uo,rfl,ea,hc,hdn,vs,hd⟩:=r;cases ru;obtain⟨h1,_⟩:=(show Bb X.prog X.w H s.heap a (.frz o uo) from I.hok a _ ea)
  refine⟨_,XH (hex c rfl),⟨o,h1,hc, ?_, ?_⟩,λz=>nomatch z⟩
  ·unfold notCls;rw[hd]
  ·rw[hdn];trivial
 |scr=>cases e
end
section
variable{a b:bj}{ma:M Dv}{p pos:Pos}{f:Ty->Option Bool}
theorem J9:di "isinstance" = some (.builtin "isinstance"):=by decide +kernel
def KC (G:Cfg) (f:Ty->Option Bool) (c:V):Ge->Hp->VK->Prop:=λxs H Q=>∃μ h d v ty bb,xs=[v,c]/\Bh G μ h H/\Ax G μ h.length H d v/\gW d h=some ty/\f ty=some bb/\Q (.bl bb) H
theorem XI {c:V}{u:af}(hc:(∃T,c=.ty T)∨∃C,c=.ref C) (rc:RelV c u) (hf:∀ty bb,f ty=some bb->kitOne X.K (lG G.cl ty) u=some bb) (hex:∀c bb,f (.exc c)=some bb->Cy X.K (G.cl c)):Bc X (.builtin "isinstance") (KC G f c):=by
 intro pins s σ H xs us Q I rv ⟨μ,h,d,v,ty,bb,e1,sm,r,et,ef,q⟩;subst e1;obtain⟨u1,u2,rfl,r1,r2⟩:=rC rv;have e2:u2=u:=by rcases hc with⟨T,rfl⟩|⟨C,rfl⟩ <;> (cases rc;cases r2;rfl)
 subst e2;obtain⟨P,Z,hP,hne⟩:=J8 I sm r r1 et (λc z=>by subst z;exact hex c bb ef);exact kia_one Z I.kIn hP (hf ty bb ef) hne λtk=>⟨.bl bb,H,I.tok _,rfl,q⟩
theorem pG {x:Str}{T:String}(hg:Gl X x) (hm:X.mg x=none) (hv:di x=some (.type T)) (hn:x ≠ "__name__" := by decide) (hd:(x==Gd)=false:=by decide):PE X (.Name x pos) (tC (.ty T)):=λpins s σ H Q I h=>qA I hg hm hv ⟨.ty T,H,I,rfl,h⟩ hn hd
theorem qG {c:V}{u:af}(hg:Gl X "isinstance") (hm:X.mg "isinstance" = none) (ha:aJ X G E a ma) (hb:PE X b (tC c)) (hc:(∃T,c=.ty T)∨∃C,c=.ref C) (rc:RelV c u)
  (hf:∀ty bb,f ty=some bb->kitOne G.K (lG G.cl ty) u=some bb) (hex:∀c bb,f (.exc c)=some bb->Cy G.K (G.cl c))
  (he:ar [a,b] X.env=[(false,eval a X.env),(false,eval b X.env)]:=by rfl) (Ds:ar [b] X.env=[(false,eval b X.env)]:=by rfl):
  aJ X G E (.Call (.Name "isinstance" p) [a,b] [] pos) (m1 (bG f) ma):=λhK=>
 Fo (tE (XI (G:=G) (f:=f) hc rc (by rw[hK];exact hf) (by rw[hK];exact hex)) hg hm J9 (iI (ha hK) (iI hb jM Ds) (by rw[he,Ds])) (by decide) (by decide) (by rw[he,Ds]) (by rw[Ds];rfl))
  λσ H Q ⟨μ,ρ,h,rs,s,o⟩=>fG rs s o λμ1 d h1 v H1 x1 Bm s1 r1 o1=>by
   show KC G f c [v,c] H1 Q;unfold bG at o1
   cases q:gW d h1 with
   |none=>rw[q]at o1;exact o1.elim
   |some ty=>
    rw[q]at o1;dsimp only at o1
    cases q2:f ty with
    |none=>rw[q2]at o1;exact o1.elim
    |some bb=>rw[q2]at o1;exact⟨μ1,h1,d,v,ty,bb,rfl,s1,r1,q,q2,o1.val s1 rfl⟩
def KD (G:Cfg) (f:Ty->Option Bool) (cs:Ge):Ge->Hp->VK->Prop:=λxs H Q=>∃μ h d v ty bb tp,xs=[v,.ref tp]/\H tp=some (.tup cs)/\Bh G μ h H/\Ax G μ h.length H d v/\gW d h=some ty/\f ty=some bb/\Q (.bl bb) H
theorem XJ {cs:Ge}{us:List af}(hcs:∀us',Az cs us'->us'=us) (hf:∀ty bb,f ty=some bb->kitAny X.K (lG G.cl ty) us=some bb) (hex:∀c bb,f (.exc c)=some bb->Cy X.K (G.cl c)):Bc X (.builtin "isinstance") (KD G f cs):=by
 intro pins s σ H xs uu Q I rv ⟨μ,h,d,v,ty,bb,tp,e1,etp,sm,r,et,ef,q⟩;subst e1;obtain⟨u1,u2,rfl,r1,r2⟩:=rC rv;cases r2;obtain⟨_,its,rits,o,h1,h2,_,n,h3⟩:=(show Bb X.prog X.w H s.heap tp (.tup cs) from I.hok tp _ etp)
 have eits:=hcs its rits;subst eits;obtain⟨oc,od,odata,osl⟩:=o
 cases h2;cases h3
 obtain⟨P,Z,hP,hne⟩:=J8 I sm r r1 et (λc z=>by subst z;exact hex c bb ef);exact kia_tup Z I.kIn hP h1 (hf ty bb ef) hne λtk=>⟨.bl bb,H,I.tok _,rfl,q⟩
theorem XM {cs:Ge}{us:List af}{bs:List bj}{kt:Nat}{tpos:Pos}(hg:Gl X "isinstance") (hm:X.mg "isinstance" = none) (ha:aJ X G E a ma) (hb:PA X bs (λ_ H Q=>Q cs H)) (hl:cs.length<=ck) (hcs:∀us',Az cs us'->us'=us)
  (hf:∀ty bb,f ty=some bb->kitAny G.K (lG G.cl ty) us=some bb) (hex:∀c bb,f (.exc c)=some bb->Cy G.K (G.cl c))
  (he:ar [a,.Tuple bs kt tpos] X.env=[(false,eval a X.env),(false,eval (.Tuple bs kt tpos) X.env)]:=by rfl) (Ds:ar [.Tuple bs kt tpos] X.env=[(false,eval (.Tuple bs kt tpos) X.env)]:=by rfl):
  aJ X G E (.Call (.Name "isinstance" p) [a,.Tuple bs kt tpos] [] pos) (m1 (bG f) ma):=λhK=>
 Fo (tE (XJ (G:=G) (f:=f) hcs (by rw[hK];exact hf) (by rw[hK];exact hex)) hg hm J9 (iI (ha hK) (iI (HJ hb) jM Ds) (by rw[he,Ds])) (by decide) (by decide) (by rw[he,Ds]) (by rw[Ds];rfl))
  λσ H Q ⟨μ,ρ,h,rs,s,o⟩=>fG rs s o λμ1 d h1 v H1 x1 Bm s1 r1 o1=>by
   refine⟨hl,λtp htp=>?_⟩;show KD G f cs [v,.ref tp] (aU H1 tp (.tup cs)) Q;unfold bG at o1
   cases q:gW d h1 with
   |none=>rw[q]at o1;exact o1.elim
   |some ty=>
    rw[q]at o1;dsimp only at o1
    cases q2:f ty with
    |none=>rw[q2]at o1;exact o1.elim
    |some bb=>rw[q2]at o1;have x2:Ext μ1 h1.length H1 μ1 h1.length (aU H1 tp (.tup cs)):=Fg (dH htp);exact⟨μ1,h1,d,v,ty,bb,tp,rfl,dF,s1.same (dH htp),Fp x2 _ _ r1,q,q2,o1 μ1 _ _ x2 (s1.same (dH htp)) rfl⟩
end
def pH:Dv->Option Bool
 | .bl b=>some b
 |_=>none
theorem BZ {G:Cfg}{μ:Nat->ah}{n:Nat}{H:Hp}:∀{xs:Al}{vs:Ge}{bs:List Bool},RelDL G μ n H xs vs->bF pH xs=some bs->vs=bs.map V.bl
 | [],vs,bs,r,e=>by cases e;rw[RelDL]at r;exact r
 |x::xs,vs,bs,r,e=>by
  rw[RelDL]at r;obtain⟨v,rr,rfl,r1,r2⟩:=r;unfold bF at e
  cases x with
  |bl b=>
   dsimp only[pH]at e
   cases q:bF pH xs with
   |none=>rw[q]at e;cases e
   |some zs=>rw[q]at e;cases e;rw[Ax]at r1;subst r1;rw[BZ r2 q];rfl
  |_=>cases e
section
variable{X:Cx}{pins:List (ah×Obj)}{σ:St}{H:Hp}{s:ag}
theorem XN (bs:List Bool):(bp bs.length).all (λi=>bs.getD i false)=bs.all id:=by
 rw[cz,fi,fi];constructor
 ·intro h b hb;obtain⟨i,hi,rfl⟩:=jf.mp hb;simpa[qf,hi]using h i (br.mpr hi)
 ·intro h i hi;have hi:=br.mp hi;simpa[qf,hi]using h _ (cj hi)
theorem XO (bs:List Bool):(bp bs.length).any (λi=>bs.getD i false)=bs.any id:=by
 rw[cz,my,my];constructor
 ·rintro ⟨i,hi,h⟩
  have hi:=br.mp hi;exact⟨bs[i],cj hi,by simpa[qf,hi]using h⟩
 ·rintro ⟨b,hb,h⟩
  obtain⟨i,hi,rfl⟩:=jf.mp hb;exact⟨i,br.mpr hi,by simpa[qf,hi]using h⟩
theorem XQ {bs:List Bool}{its:List af}(rv:Az (bs.map V.bl) its) {i:Nat}{v:af}(e:its.toArray[i]?=some v):v=.bool (bs.getD i false):=by
 have hl:=rv.length;rw[bc]at hl;have e':its[i]?=some v:=by simpa using e
 have hi:i<its.length:=(az.mp e').1;have hb:i<bs.length:=by omega
 obtain⟨u,e2,r⟩:=rv.get (i:=i) (x:=V.bl bs[i]) (by simp[hb]);rw[e']at e2;cases e2;have hg:bs.getD i false=bs[i]:=by simp[qf,hb]
 rw[hg];exact r
theorem KG {bs:List Bool}{its:List af}{A:bu}(rv:Az (bs.map V.bl) its):TruthOf X.prog X.w A (λi v=>its.toArray[i]?=some v) (λi=>bs.getD i false):=by intro i v s Q E e q;rw[XQ rv e];exact jm q
theorem xM {o:Obj}{h':cu}{tk:Nat}(I:Inv X pins σ H s) (k:∀b u,b∉[s.heap.objs.size]->(s.heap.push o).get? b=some u->h'.get? b=some u):Inv X pins σ H { s with heap:=h',toks:=tk }:=by have I1:Inv X pins σ H { s with heap:=s.heap.push o }:=I.kept (t':=s.toks) λb u e=>ak _ e;obtain⟨f0,f1,f2,f3,f4,f5⟩:=I.fpOk (aj s.heap.objs.size) I.fresh;exact I1.turned (t':=tk) (λb u hb e=>k b u (by simpa using hb) e) f0 f1 f3 f4 f5
theorem XR (hc:X.calm=true):Bc X (.builtin "all") (λxs H Q=>∃(p:ah) (bs:List Bool),xs=[.ref p]/\H p=some (.lst (bs.map V.bl))/\Q (.bl (bs.all id)) H):=by
 intro pins s σ H xs us Q I rv ⟨p,bs,e,hp,q⟩;subst e;obtain⟨u,rfl,ru⟩:=jD rv;cases ru;obtain⟨its,rits,pl,hz⟩:=I.list (Fv hp);have hn:its.toArray.size=bs.length:=by have:=rits.length;simp at this ⊢;omega
 have ne:p≠s.heap.objs.size:=bg (I.hok.lt hp);refine call_all_walk (ka pl.isList ⟨_,_,_,_,_,_,λi=>bs.getD i false,rfl,ve (A:=X.A.in1) (show X.A.in1.handled=none from I.ok.hd hc) _ p ne its.toArray,⟨⟨_,bf _ rfl,rfl,rfl⟩,pl.isList.push _⟩,KG rits,λh' tk k=>?_⟩);rw[hn,XN];exact⟨.bl _,H,(xM (tk:=tk) I k:Inv X pins σ H { s with heap:=h',toks:=tk }),rfl,q⟩
theorem XS (hc:X.calm=true):Bc X (.builtin "any") (λxs H Q=>∃(p:ah) (bs:List Bool),xs=[.ref p]/\H p=some (.lst (bs.map V.bl))/\Q (.bl (bs.any id)) H):=by
 intro pins s σ H xs us Q I rv ⟨p,bs,e,hp,q⟩;subst e;obtain⟨u,rfl,ru⟩:=jD rv;cases ru;obtain⟨its,rits,pl,hz⟩:=I.list (Fv hp);have hn:its.toArray.size=bs.length:=by have:=rits.length;simp at this ⊢;omega
 have ne:p≠s.heap.objs.size:=bg (I.hok.lt hp);refine call_any_walk (ka pl.isList ⟨_,_,_,_,_,_,λi=>bs.getD i false,rfl,ve (A:=X.A.in1) (show X.A.in1.handled=none from I.ok.hd hc) _ p ne its.toArray,⟨⟨_,bf _ rfl,rfl,rfl⟩,pl.isList.push _⟩,KG rits,λh' tk k=>?_⟩);rw[hn,XO];exact⟨.bl _,H,(xM (tk:=tk) I k:Inv X pins σ H { s with heap:=h',toks:=tk }),rfl,q⟩
end
section
variable{e:bj}{ml:M Al }{x:Str}{p pos:Pos}{bid T:String}
def mL (f:Ak) (ml:M Al ):M Dv:=λρ h=>(ml ρ h).bind f
def KH (G:Cfg) (r:Ge->Hp->VK->Prop) (f:Ak):Prop:=∀(E:XK) (μ:Nat->ah) (h:Hs) (H:Hp) (xs:Al) (a:ah) (vs:Ge) (Q:VK),Bh G μ h H->H a=some (.lst vs)->RelDL G μ h.length H xs vs->Out G E μ h.length H (f xs h) (Ax G) Q->r [.ref a] H Q
theorem XT {r:Ge->Hp->VK->Prop}{f:Ak}(hd:KH G r f) {σ:St}{H:Hp}{Q:VK}(t:iJ G E (mL f ml) σ H Q):wN r (HI (xH G E ml) HH) σ H Q:=by obtain⟨μ,ρ,h,rs,s,o⟩:=t;refine⟨μ,ρ,h,rs,s,(o.bind (R1:=RL G)).mono λv H1 ⟨μ1,xs,h1,x1,s1,⟨a,vs,ev,ea,_,r1⟩,o1⟩=>?_⟩;subst ev;exact hd E μ1 h1 H1 xs a vs Q s1 ea r1 o1
theorem KI {r:Ge->Hp->VK->Prop}{f:Ak}(hc:Bc X (.builtin bid) r) (hd:KH G r f) (hg:Gl X x) (hm:X.mg x=none) (hv:di x=some (.builtin bid)) (ha:qF X G E e ml) (hn:x ≠ "__name__" := by decide) (Du:(x==Gd)=false:=by decide)
  (he:ar [e] X.env=[(false,eval e X.env)]:=by rfl):aJ X G E (.Call (.Name x p) [e] [] pos) (mL f ml):=λhK=>
 Fo (tE hc hg hm hv (iI (ha hK) jM he) hn Du he rfl) λ_ _ _ t=>XT hd t
theorem XU:di "all" = some (.builtin "all"):=by decide +kernel
theorem XW:di "any" = some (.builtin "any"):=by decide +kernel
def lI (xs:Al) (h:Hs):Rs Dv:=match bF pH xs with
 |some bs=>.ok (.bl (bs.all id)) h
 |none=>.bad
def tY (xs:Al) (h:Hs):Rs Dv:=match bF pH xs with
 |some bs=>.ok (.bl (bs.any id)) h
 |none=>.bad
theorem tZ (hc:X.calm=true) (hg:Gl X "all") (hm:X.mg "all" = none) (ha:qF X G E e ml) (he:ar [e] X.env=[(false,eval e X.env)]:=by rfl):aJ X G E (.Call (.Name "all" p) [e] [] pos) (mL lI ml):=
 KI (XR hc) (λE μ h H xs a vs Q s ea r o=>by
  unfold lI at o
  cases q:bF pH xs with
  |none=>rw[q]at o;exact o.elim
  |some bs=>rw[q]at o;exact⟨a,bs,rfl,by rw[ea,BZ r q],o.val s rfl⟩) hg hm XU ha (by decide) (by decide) he
theorem XX (hc:X.calm=true) (hg:Gl X "any") (hm:X.mg "any" = none) (ha:qF X G E e ml) (he:ar [e] X.env=[(false,eval e X.env)]:=by rfl):aJ X G E (.Call (.Name "any" p) [e] [] pos) (mL tY ml):=
 KI (XS hc) (λE μ h H xs a vs Q s ea r o=>by
  unfold tY at o
  cases q:bF pH xs with
  |none=>rw[q]at o;exact o.elim
  |some bs=>rw[q]at o;exact⟨a,bs,rfl,by rw[ea,BZ r q],o.val s rfl⟩) hg hm XW ha (by decide) (by decide) he
end
section
variable{o e i:bj}{mo me mi:M Dv}{ml:M Al }{pos apos cpos:Pos}
theorem XY {H:Hp}{a:ah}{vs:Ge}(e:H a=some (.lst vs)):wQ X.K "list" (.ref a) H:=.inl ⟨rfl,vs,Fv e⟩
def pI (o d:Dv) (h:Hs):Rs Dv:=match o with
 | .ref j=>match getL h j with
  |some xs=>if xs.length<1000000 then .ok .non (h.set j (.lst (xs++[d])))else .bad
  |none=>.bad
 |_=>.bad
def jH (o:Dv) (h:Hs):Bool:=match o with
 | .ref j=>(getL h j).isSome
 |_=>false
def gX (mo me:M Dv):M Dv:=λρ h=>(mo ρ h).bind λx h1=>if jH x h1=true then(me ρ h1).bind λd h2=>pI x d h2 else .bad
theorem CA {μ:Nat->ah}{h:Hs}{H:Hp}{x:Dv}{v:V}(s:Bh G μ h H) (r:Ax G μ h.length H x v) (e:jH x h=true):wQ X.K "list" v H:=by
 cases x with
 |ref j=>obtain⟨xs,q⟩:=xm.mp (show(getL h j).isSome=true from e);obtain⟨vs,ea,_⟩:=s.ob j _ (dO q);obtain⟨_,rfl⟩:=r;exact XY ea
 |_=>cases e
theorem xN {y:Str}{np:Pos}(ho:aJ X G E (.Name y np) mo) (he:aJ X G E e me) (hs:ar [e] X.env=[(false,eval e X.env)]:=by rfl) (hl:(apos.endLine==cpos.line)=true:=by rfl):aJ X G E (.Call (.Attribute (.Name y np) "append" apos) [e] [] cpos) (gX mo me):=λhK=>
 Fo (A4 rf PySem.F.slot_list_append PySem.F.type_list_append VL (ho hK) (iI (he hK) jM hs) rfl (by rw[hs];rfl) hl hs rfl) λσ H Q ⟨μ,ρ,h,rs,s,oo⟩=>fG rs s oo λμ1 x h1 vx H1 x1 Bm s1 r1 o1=>by
  split at o1
  ·rename_i hl;refine⟨CA s1 r1 hl,fG Bm s1 o1 λμ2 d h2 vd H2 x2 Dj s2 r2 o2=>?_⟩
   cases x with
   |ref j=>
    dsimp only[pI]at o2
    cases q:getL h2 j with
    |none=>rw[q]at o2;exact o2.elim
    |some xs=>
     rw[q]at o2;dsimp only at o2
     split at o2
     ·rename_i hz;obtain⟨vs,ea,ra⟩:=s2.ob j _ (dO q);obtain⟨_,rfl⟩:=Fp x2 _ _ r1;obtain⟨x3,s3⟩:=s2.write (dO q) (ra.append (Fj r2 Fu));exact⟨_,vs,vd,rfl,rfl,ea,by rw[ra.length];exact av hz (by decide),o2 μ2 _ _ x3 s3 rfl⟩
     ·exact o2.elim
   |_=>exact o2.elim
  ·exact o1.elim
end
section
variable{e i:bj}{mo me mi:M Dv}{ml:M Al }{pos apos cpos np:Pos}{y:Str}
def xO (o:Dv) (ys:Al) (h:Hs):Rs Dv:=match o with
 | .ref j=>match getL h j with
  |some xs=>lim (xs.length+ys.length) (.ok .non (h.set j (.lst (xs++ys))))
  |none=>.bad
 |_=>.bad
def qH (mo:M Dv) (ml:M Al ):M Dv:=λρ h=>(mo ρ h).bind λx h1=>if jH x h1=true then(ml ρ h1).bind λys h2=>xO x ys h2 else .bad
theorem XZ (ho:aJ X G E (.Name y np) mo) (he:qF X G E e ml) (hs:ar [e] X.env=[(false,eval e X.env)]:=by rfl) (hl:(apos.endLine==cpos.line)=true:=by rfl):aJ X G E (.Call (.Attribute (.Name y np) "extend" apos) [e] [] cpos) (qH mo ml):=λhK=>
 Fo (A4 rf PySem.F.slot_list_extend PySem.F.type_list_extend VN (ho hK) (iI (he hK) jM hs) rfl (by rw[hs];rfl) hl hs rfl) λσ H Q ⟨μ,ρ,h,rs,s,oo⟩=>fG rs s oo λμ1 x h1 vx H1 x1 Bm s1 r1 o1=>by
  split at o1
  ·rename_i hl;refine⟨CA s1 r1 hl,μ1,ρ,h1,Bm,s1,(o1.bind (R1:=RL G)).mono λv H2 ⟨μ2,ys,h2,x2,s2,⟨b,ws,ev,eb,nb,rb⟩,o2⟩=>?_⟩;subst ev
   cases x with
   |ref j=>
    dsimp only[xO]at o2
    cases q:getL h2 j with
    |none=>rw[q]at o2;exact o2.elim
    |some xs=>
     rw[q]at o2;dsimp only at o2;unfold lim at o2
     split at o2
     ·rename_i hz;obtain⟨vs,ea,ra⟩:=s2.ob j _ (dO q);obtain⟨_,rfl⟩:=Fp x2 _ _ r1;obtain⟨x3,s3⟩:=s2.write (dO q) (ra.append rb);exact⟨_,b,vs,ws,rfl,rfl,ea,eb,by rw[ra.length,rb.length];exact tL hz,o2 μ2 _ _ x3 s3 rfl⟩
     ·exact o2.elim
   |_=>exact o2.elim
  ·exact o1.elim
def xP (o i d:Dv) (h:Hs):Option Hs:=match o,i with
 | .ref j,.int k=>match getL h j with
  |some xs=>match fR xs.length k with
   |some n=>some (h.set j (.lst (xs.set n d)))
   |none=>none
  |none=>none
 |_,_=>none
def uA (mo mi me:M Dv):MS:=λρ h=>(me ρ h).thenS λd h1=>(mo ρ h1).thenS λo h2=>(mi ρ h2).thenS λi h3=>match xP o i d h3 with
 |some h4=>.nx ρ h4
 |none=>.bad
theorem KJ {o:bj}{spos:Pos}(ho:aJ X G E o mo) (hi:aJ X G E i mi) (he:aJ X G E e me)
  (ha:∀v,assign (.Subscript o i spos) X.env v=(do
   let ov <-holding [v] (eval o X.env)
   let iv <-holding [v,ov] (eval i X.env)
   standAt spos
   holding [v,ov,iv] (setItem ov iv v)
   release [v,ov,iv] []):=by intro _;rfl)
  (hs:swapsWithSole [.Subscript o i spos] e pos.line X.env=pure false:=by rfl) (hw:swappedStores [.Subscript o i spos] e X.env=pure none:=by rfl)
  (h1:(assignEach [.Subscript o i spos] X.env).map (·.2)=[assign (.Subscript o i spos) X.env]:=by rfl):iU X G E (.Assign [.Subscript o i spos] e pos) (uA mo mi me):=λhK=>
 PS.imp (G4 (he hK) (SF (ho hK) (hi hK) UZ ha) hs hw h1) λD σ H ⟨μ,ρ,h,rs,s,oo⟩=>oZ rs s oo λμ1 d h1 v H1 x1 Bm s1 r1 o1=>oZ Bm s1 o1 λμ2 ob h2 vo H2 x2 Dj s2 r2 o2=>oZ Dj s2 o2 λμ3 ix h3 vi H3 x3 rs3 s3 r3 o3=>by
  cases ob with
  |ref j=>
   cases ix with
   |int k=>
    dsimp only[xP]at o3
    cases q:getL h3 j with
    |none=>rw[q]at o3;exact o3.elim
    |some xs=>
     rw[q]at o3;dsimp only at o3
     cases q2:fR xs.length k with
     |none=>rw[q2]at o3;exact o3.elim
     |some n=>rw[q2]at o3;obtain⟨vs,ea,ra⟩:=s3.ob j _ (dO q);obtain⟨_,rfl⟩:=Fp x3 _ _ r2;rw[Ax]at r3;subst r3;obtain⟨x4,s4⟩:=s3.write (dO q) (RelDL.set (Fp (x2.trans x3) _ _ r1) n ra);exact⟨_,vs,k,n,rfl,rfl,ea,by rw[ra.length];exact q2,o3 μ3 _ σ x4 s4 (rs3.mono x4)⟩
   |_=>exact o3.elim
  |_=>cases ix <;> exact o3.elim
end
section
variable{prog:bh}{w:cm}{A:bu}{E:af->ag->Prop}{s:ag}
theorem X0 {it t:ah}{i:Nat}{items:Array af}{x:af}{Q:af->ag->Prop}(hit:s.heap.IsTupleIter it t i) (ht:s.heap.IsTuple t items) (hx:items[i]?=some x)
  (k:∀h',h'.IsTupleIter it t (i+1)->ik it s.heap h'->Q x { s with heap:=h' }):wpAny (model prog w) A (fg (.ref it)) Q E s:=by
 obtain⟨o,ho,hc,hd⟩:=id hit;obtain⟨ol,hol,El,nl,hdl⟩:=id ht;refine aa (fe (name:=jz "__next__") hit.typeIs F.slot_tuple_iterator_next (ff F.slot_tuple_iterator_next hit.typeIs F.entry_tuple_iterator_next ?_ (F.args_tuple_iterator_next_1 _)));have q0:∀{Q':af->ag->Prop}{E':af->ag->Prop}{B:bu},Q' (.ref t) s->wpAny (model prog w) B (field (.ref it) 0) Q' E' s:=λq=>fz ho hd (x:=.ref t) rfl q;have q1:∀{Q':af->ag->Prop}{E':af->ag->Prop}{B:bu},Q' (.int i 0) s->wpAny (model prog w) B (field (.ref it) 1) Q' E' s:=λq=>fz ho hd (x:=.int i 0) rfl q;refine aa (ai (aa (q0 ?_)));dsimp only;rw[if_neg (by simp)];refine aa (q1 (aa (jl hol hdl ?_)));rw[show((i:Int)).toNat=i from gh i];dsimp only;rw[hx];refine aa (zi ho hd (by simp) (ai ⟨x,rfl,ai (k _ ⟨_,oq _ ho (zq (vj hd _)), ?_, ?_⟩ (oj ..))⟩))
 ·rw[Obj.cls_mapFields];exact hc
 ·rw[vj hd];simp[rawInt]
end
section
variable{prog:bh}{w:cm}{A:bu}{E:af->ag->Prop}{s:ag}
theorem X1 {α:Type}{Q:α->ag->Prop}(hh:A.handled=none) (k:∀h' e,(∀b o,s.heap.get? b=some o->h'.get? b=some o)->(∃o,h'.get? e=some o/\o.cls=.type "StopIteration")->E (.ref e) { s with heap:=h' }):
  wpAny (model prog w) A (rz:Sem α) Q E s:=by
 have e0:firstArgMember (.type "StopIteration") []=pure jr:=by show(pure (if _ then jr else jr):Sem af)=_;rw[ite_self]
 unfold rz newExc newTuple;refine aa (aa (gn (aa (ym e0 (gn (wpAny_raiseNew_none hh (k _ _ (λb o q=>ak _ (ak _ q)) ⟨_,bf _ rfl,rfl⟩)) (by size_fits)))) (by size_fits)))
theorem X2 {it t:ah}{i:Nat}{items:Array af}{Q:af->ag->Prop}(hh:A.handled=none) (hit:s.heap.IsTupleIter it t i) (ht:s.heap.IsTuple t items) (hx:items[i]?=none)
  (k:∀h' e,zr it s.heap h'->(∃o,h'.get? e=some o/\o.cls=.type "StopIteration")->E (.ref e) { s with heap:=h' }):wpAny (model prog w) A (fg (.ref it)) Q E s:=by
 obtain⟨o,ho,hc,hd⟩:=id hit;obtain⟨ol,hol,El,nl,hdl⟩:=id ht;refine aa (fe (name:=jz "__next__") hit.typeIs F.slot_tuple_iterator_next (ff F.slot_tuple_iterator_next hit.typeIs F.entry_tuple_iterator_next ?_ (F.args_tuple_iterator_next_1 _)));have q0:∀{Q':af->ag->Prop}{E':af->ag->Prop}{B:bu},Q' (.ref t) s->wpAny (model prog w) B (field (.ref it) 0) Q' E' s:=λq=>fz ho hd (x:=.ref t) rfl q;have q1:∀{Q':af->ag->Prop}{E':af->ag->Prop}{B:bu},Q' (.int i 0) s->wpAny (model prog w) B (field (.ref it) 1) Q' E' s:=λq=>fz ho hd (x:=.int i 0) rfl q;refine aa (ai (aa (q0 ?_)));dsimp only;rw[if_neg (by simp)];refine aa (q1 (aa (jl hol hdl ?_)));rw[show((i:Int)).toNat=i from gh i];dsimp only;rw[hx];refine aa (um (aa (zi ho hd (by simp) (X1 (show A.in1.handled=none from hh) λh' e kp st=>k h' e (λb u hb q=>kp b u ?_) st))));rw[nu _ _ (cx hb)];exact q
end
structure Draws (prog:bh) (w:cm) (it src:ah) (xs:List af) (st:Nat->cu->Prop):Prop where
 keep:∀i h h',st i h->(∀b o,b=it∨b=src->h.get? b=some o->h'.get? b=some o)->st i h'
 there:∀i h,st i h->∃o vs,h.get? it=some o/\o.data=.fields vs
 item:∀(A:bu) (i:Nat) (x:af) (s:ag) (Q:af->ag->Prop) (E:af->ag->Prop),xs[i]?=some x->st i s.heap->
  (∀h',st (i+1) h'->ik it s.heap h'->Q x { s with heap:=h' })->wpAny (model prog w) A (fg (.ref it)) Q E s
 done:∀(A:bu) (i:Nat) (s:ag) (Q:af->ag->Prop) (E:af->ag->Prop),A.handled=none->xs[i]?=none->st i s.heap->
  (∀h' e,zr it s.heap h'->(∃o,h'.get? e=some o/\o.cls=.type "StopIteration")->E (.ref e) { s with heap:=h' })->wpAny (model prog w) A (fg (.ref it)) Q E s
structure Ez (z TI TO i j u v:ah):Prop where
 a:z≠TO
 b:z≠i
 c:z≠j
 d:TO≠i
 e:TO≠j
 f:i≠j
 g:TI≠z
 h:TI≠TO
 k:TI≠i
 l:TI≠j
 u1:u≠z
 u2:u≠TO
 u3:u≠i
 u4:u≠j
 v1:v≠z
 v2:v≠TO
 v3:v≠i
 v4:v≠j
theorem iM {b x y c:ah}(h:b=x∨b=y) (p:x≠c) (q:y≠c):b≠c:=by
 rcases h with h|h
 ·rw[h];exact p
 ·rw[h];exact q
def xQ (z TO i j:ah) (h h':cu):Prop:=∀b o,b≠z->b≠TO->b≠i->b≠j->h.get? b=some o->h'.get? b=some o
section
variable{prog:bh}{w:cm}{A:bu}{E:af->ag->Prop}{s:ag}{z TI TO i j u v:ah}{xs ys:List af}{st su:Nat->cu->Prop}
theorem KL {n:Nat}{x y a b:af}{Q:af->ag->Prop}(F4:Ez z TI TO i j u v) (P:Draws prog w i u xs st) (R:Draws prog w j v ys su) (hz:xh s.heap z TI TO .none) (hTI:nc s.heap TI (.ref i) (.ref j)) (hTO:nc s.heap TO a b)
  (p:st n s.heap) (r:su n s.heap) (hx:xs[n]?=some x) (hy:ys[n]?=some y)
  (k:∀h' T,s.heap.objs.size<=T->xh h' z TI TO (rawInt T)->nc h' TI (.ref i) (.ref j)->nc h' TO x y->st (n+1) h'->su (n+1) h'->nc h' T x y->xQ z TO i j s.heap h'->Q (.ref T) { s with heap:=h' }):
  wpAny (model prog w) A (mw.«zip.__next__» ⟨[.ref z],[]⟩) (λfin s'=>∃v,fin=.done (.ret v)/\Q v s') E s:=by
 refine aa (ai (aa (fz hz rfl (x:=.bool false) rfl (aa (fz hz rfl (x:=.ref TI) rfl (aa (jl hTI rfl ?_)))))));have fr:∀{Q':Bool->ag->Prop}{E':af->ag->Prop},Q' true s->wpAny (model prog w) A (qr (.ref z)) Q' E' s:=λq=>aa (fz hz rfl (x:=.none) rfl (ai q));refine aa (fr ?_);rw[if_pos rfl];refine aa (um (aa (fz hz rfl (x:=.ref TO) rfl (aa (jh hz (by simp) λg1 z1 b1=>?_)))));have z1':xh g1 z TI TO .ellipsis:=z1;refine aa ?_;show wpAny _ _ (forIn [(ib i,0),(ib j,1)] _ _) _ _ _;rw[pj];refine aa (aa (ud ?_));show wpAny _ _ (fg (.ref i) >>= _) _ _ _;refine aa (P.item A n x _ _ _ hx (P.keep n _ _ p λb o hb q=>b1.extBut _ _ (iM hb (cx F4.b) F4.u1) q) λg2 p2 b2=>ai ?_);have t2:nc g2 TO a b:=b2.extBut _ _ F4.d (b1.extBut _ _ (cx F4.a) hTO);refine aa (jl t2 rfl (aa (vm t2 λg3 t3 b3=>aa (wpAny_letGo (ai ?_)))));have t3':nc g3 TO x b:=t3;dsimp only;rw[pj];refine aa (aa (ud ?_));show wpAny _ _ (fg (.ref j) >>= _) _ _ _;have r3:su n g3:=R.keep n _ _ r λb o hb q=>b3.extBut _ _ (iM hb (cx F4.e) F4.v2) (b2.extBut _ _ (iM hb (cx F4.f) F4.v3) (b1.extBut _ _ (iM hb (cx F4.c) F4.v1) q));refine aa (R.item A n y _ _ _ hy r3 λg4 r4 b4=>ai ?_);have t4:nc g4 TO x b:=b4.extBut _ _ F4.e t3';refine aa (jl t4 rfl (aa (vm t4 λg5 t5 b5=>aa (wpAny_letGo (ai ?_)))));have t5':nc g5 TO x y:=t5;dsimp only;rw[List.forIn_nil];refine ai ?_;refine aa (jl t5' rfl (aa (wpAny_newTuple ?_)));have z5:xh g5 z TI TO .ellipsis:=b5.extBut _ _ F4.a (b4.extBut _ _ F4.c (b3.extBut _ _ F4.a (b2.extBut _ _ F4.b z1')));have sz:g5.objs.size=s.heap.objs.size:=by rw[b5.1,b4.1,b3.1,b2.1,b1.1]
 have all5:xQ z TO i j s.heap g5:=λc o c1 c2 c3 c4 q=>b5.extBut _ _ c2 (b4.extBut _ _ c4 (b3.extBut _ _ c2 (b2.extBut _ _ c3 (b1.extBut _ _ c1 q))));have p5:st (n+1) g5:=P.keep _ _ _ p2 λb o hb q=>b5.extBut _ _ (iM hb (cx F4.d) F4.u2) (b4.extBut _ _ (iM hb F4.f F4.u4) (b3.extBut _ _ (iM hb (cx F4.d) F4.u2) q));have r5:su (n+1) g5:=R.keep _ _ _ r4 λb o hb q=>b5.extBut _ _ (iM hb (cx F4.e) F4.v2) q;generalize hob:({ cls:=.type "tuple",dict:=none,data:=.seq [x,y].toArray }:Obj)=ob;have zp:xh (g5.push ob) z TI TO .ellipsis:=ak _ z5;refine aa (aa (jh zp (by simp) λg7 z7 b7=>?_));have z7':xh g7 z TI TO (rawInt g5.objs.size):=z7;refine jh z7' (by simp) λg8 z8 b8=>ai ⟨_,rfl, ?_⟩;have up:∀c o,c≠z->g5.get? c=some o->g8.get? c=some o:=λc o c1 q=>b8.extBut _ _ c1 (b7.extBut _ _ c1 (ak _ q));have lz:z<g5.objs.size:=au z5;have T8:nc g8 g5.objs.size x y:=b8.extBut _ _ (jq lz) (b7.extBut _ _ (jq lz) (by rw[<-hob];exact bf _ rfl));refine k g8 g5.objs.size (qg sz.symm) z8 (up _ _ F4.g (all5 _ _ F4.g F4.h F4.k F4.l hTI)) (up _ _ (cx F4.a) t5') (P.keep _ _ _ p5 λb o hb q=>up _ _ (iM hb (cx F4.b) F4.u1) q) (R.keep _ _ _ r5 λb o hb q=>up _ _ (iM hb (cx F4.c) F4.v1) q) T8 λc o c1 c2 c3 c4 q=>up _ _ c1 (all5 c o c1 c2 c3 c4 q)
end
section
variable{prog:bh}{w:cm}{A:bu}{E:af->ag->Prop}{s:ag}{z TI TO i j u v:ah}{xs ys:List af}{st su:Nat->cu->Prop}
theorem KN {n:Nat}{a b:af}{Q:PySem.Fin->ag->Prop}(hh:A.handled=none) (F4:Ez z TI TO i j u v) (P:Draws prog w i u xs st) (R:Draws prog w j v ys su) (hz:xh s.heap z TI TO .none) (hTI:nc s.heap TI (.ref i) (.ref j)) (hTO:nc s.heap TO a b)
  (p:st n s.heap) (r:su n s.heap) (hend:xs[n]?=none∨ys[n]?=none)
  (k:∀h' e,xQ z TO i j s.heap h'->(∃o,h'.get? e=some o/\o.cls=.type "StopIteration")->E (.ref e) { s with heap:=h' }):
  wpAny (model prog w) A (mw.«zip.__next__» ⟨[.ref z],[]⟩) Q E s:=by
 refine aa (ai (aa (fz hz rfl (x:=.bool false) rfl (aa (fz hz rfl (x:=.ref TI) rfl (aa (jl hTI rfl ?_)))))));have fr:∀{Q':Bool->ag->Prop}{E':af->ag->Prop},Q' true s->wpAny (model prog w) A (qr (.ref z)) Q' E' s:=λq=>aa (fz hz rfl (x:=.none) rfl (ai q));refine aa (fr ?_);rw[if_pos rfl];refine aa (um (aa (fz hz rfl (x:=.ref TO) rfl (aa (jh hz (by simp) λg1 z1 b1=>?_)))));have z1':xh g1 z TI TO .ellipsis:=z1;have p1:st n g1:=P.keep n _ _ p λb o hb q=>b1.extBut _ _ (iM hb (cx F4.b) F4.u1) q;have fin:∀(g:cu) (e:ah),xh g z TI TO .ellipsis->xQ z TO i j s.heap g->(∃o,g.get? e=some o/\o.cls=.type "StopIteration")->
   wpAny (model prog w) A (setField (.ref z) 0 .none) (λ_ s'=>E (.ref e) s') E { s with heap:=g }:=λg e zz bt ⟨o,he,hc⟩=>
  jh zz (by simp) λg' _ b'=>k g' e (λc u c1 c2 c3 c4 q=>b'.extBut _ _ c1 (bt c u c1 c2 c3 c4 q)) ⟨o,b'.extBut _ _ (λq=>by subst q;rw[zz]at he;cases he;simp at hc) he,hc⟩
 refine aa ?_;show wpAny _ _ (forIn [(ib i,0),(ib j,1)] _ _) _ _ _;rw[pj];refine aa (aa (ud ?_));show wpAny _ _ (fg (.ref i) >>= _) _ _ _
 cases hx:xs[n]? with
 |none=>exact aa (P.done A n _ _ _ hh hx p1 λg2 e b2 he=>fin g2 e (b2 _ _ F4.b z1') (λc u c1 _ c3 _ q=>b2 _ _ c3 (b1.extBut _ _ c1 q)) he)
 |some x=>
  have hy:ys[n]?=none:=by
   rcases hend with q|q
   ·rw[hx]at q;cases q
   ·exact q
  refine aa (P.item A n x _ _ _ hx p1 λg2 p2 b2=>ai ?_);have t2:nc g2 TO a b:=b2.extBut _ _ F4.d (b1.extBut _ _ (cx F4.a) hTO);refine aa (jl t2 rfl (aa (vm t2 λg3 t3 b3=>aa (wpAny_letGo (ai ?_)))));dsimp only;rw[pj];refine aa (aa (ud ?_));show wpAny _ _ (fg (.ref j) >>= _) _ _ _;have r3:su n g3:=R.keep n _ _ r λb o hb q=>b3.extBut _ _ (iM hb (cx F4.e) F4.v2) (b2.extBut _ _ (iM hb (cx F4.f) F4.v3) (b1.extBut _ _ (iM hb (cx F4.c) F4.v1) q));exact aa (R.done A n _ _ _ hh hy r3 λg4 e b4 he=>fin g4 e (b4 _ _ F4.c (b3.extBut _ _ F4.a (b2.extBut _ _ F4.b z1'))) (λc u c1 c2 c3 c4 q=>b4 _ _ c4 (b3.extBut _ _ c2 (b2.extBut _ _ c3 (b1.extBut _ _ c1 q)))) he)
theorem rM {it t:ah}{items:Array af}(hne:t≠it):Draws prog w it t items.toList (λi h=>h.IsTupleIter it t i/\h.IsTuple t items) where
 keep:=λi h h' ⟨⟨o,e,r⟩,⟨o2,e2,r2⟩⟩ k=>⟨⟨o,k _ _ (.inl rfl) e,r⟩,⟨o2,k _ _ (.inr rfl) e2,r2⟩⟩
 there:=λi h ⟨⟨o,e,_,d⟩,_⟩=>⟨o,_,e,d⟩
 item:=λA i x s Q E hx ⟨a,b⟩ k=>X0 a b (by simpa using hx) λh' a' sb=>k h' ⟨a',b.extBut sb.extBut hne⟩ sb
 done:=λA i s Q E hh hx ⟨a,b⟩ k=>X2 hh a b (by simpa using hx) k
end
def CB (K:aq) (t u:ah):It:=
 ⟨λi H=>∃vs ws v w,Bk K H t vs/\Bk K H u ws/\vs[i]?=some v/\ws[i]?=some w,
  λi H x H'=>∃p v w,x=.ref p/\H p=none/\H'=aU H p (.tup [v,w])/\(∀vs,Bk K H t vs->vs[i]?=some v)/\∀ws,Bk K H u ws->ws[i]?=some w,
  λi H=>∃vs ws,Bk K H t vs/\Bk K H u ws/\(vs.length<=i∨ws.length<=i)⟩
structure ZipAt (z TI TO i j t u:ah) (n:Nat) (h:cu):Prop where
 zp:xh h z TI TO .none
 ti:nc h TI (.ref i) (.ref j)
 to:∃a b,nc h TO a b
 i1:h.IsTupleIter i t n
 i2:h.IsTupleIter j u n
section
variable{X:Cx}{pins:List (ah×Obj)}{σ:St}{H:Hp}{s:ag}
theorem Inv.turns {h':cu}{ch:List ah}{T:ah}{vs:Ge}{its:List af}(I:Inv X pins σ H s) (Dz:∀b∈ch,dN X pins H b) (k:∀b o,b∉ch->s.heap.get? b=some o->h'.get? b=some o) (there:∀b∈ch,∃o,h'.get? b=some o)
  (hT:s.heap.objs.size<=T) (hv:Az vs its) (hl:vs.length<=ck) (tp:Bv h' T its.toArray):Inv X pins σ (aU H T (.tup vs)) { s with heap:=h' }:=by
 have nT:H T=none:=I.hok.fresh hT;have nch:∀b o,H b=some o->b∉ch:=λb o q z=>by rw[(Dz b z).1]at q;cases q
 have un:Un (dY X.stack) ch H (aU H T (.tup vs)) s.heap h':=
  ⟨λb o q _ _ hb=>k b o hb q,λb o q _ _ hb=>⟨o.slots,k b o hb q⟩,λb o q n _=>by rw[bV (bg (av (au q) hT))];exact n,
   λb o q hb=>⟨o,k b o hb q⟩,λb xs q=>dH nT b _ q,λb o u q=>dH nT b _ q,λb ps q=>⟨#[],by rw[dH nT b _ q];simp⟩⟩
 have ok:Cc X.prog X.w (aU H T (.tup vs)) h':=λb o q=>by
  by_cases hb:b=T
  ·subst hb;rw[dF]at q;cases q;exact⟨hl,its,hv,tp⟩
  ·rw[bV hb]at q;refine(I.hok b o q).stay (λc v hc z=>k c v ?_ z) (λc z=>dH nT c _ z) λc xs z=>dH nT c _ z
   rcases hc with rfl|hc
   ·exact nch c o q
   ·exact nch c _ hc
 exact I.call (g':=s.gens) (d':=s.drawn) (t':=s.toks) un ok I.bare λb hb=>let ⟨_,f1,_,f3,f4,f5⟩:=Dz b hb;⟨f3,f1,f4,f5⟩
theorem Inv.turns0 {h':cu}{ch:List ah}(I:Inv X pins σ H s) (Dz:∀b∈ch,dN X pins H b) (k:∀b o,b∉ch->s.heap.get? b=some o->h'.get? b=some o):Inv X pins σ H { s with heap:=h' }:=by
 have nch:∀b o,H b=some o->b∉ch:=λb o q z=>by rw[(Dz b z).1]at q;cases q
 refine I.call (g':=s.gens) (d':=s.drawn) (t':=s.toks) (ch:=ch) ⟨λb o q _ _ hb=>k b o hb q,λb o q _ _ hb=>⟨o.slots,k b o hb q⟩,λ_ _ _ n _=>n,λb o q hb=>⟨o,k b o hb q⟩,λ_ _ q=>q,λ_ _ _ q=>q,λb ps q=>⟨#[],by rw[q];simp⟩⟩ (λb o q=>?_) I.bare λb hb=>let ⟨_,f1,_,f3,f4,f5⟩:=Dz b hb;⟨f3,f1,f4,f5⟩;refine(I.hok b o q).stay (λc v hc z=>k c v ?_ z) (λ_ z=>z) λ_ _ z=>z
 rcases hc with rfl|hc
 ·exact nch c o q
 ·exact nch c _ hc
end
theorem X3 {P:bh}{w:cm}{K:aq}{elts:List bj}{kk:Nat}{tp:Pos}{z TI TO i j t u:ah}(F4:Ez z TI TO i j t u) (hti:t≠i) (huj:u≠j):
  Turn P w K (.Tuple elts kk tp) (CB K t u) [z,TI,TO,i,j] z (ZipAt z TI TO i j t u) where
 mem:=by simp
 obj:=λn h st b hb=>by
  obtain⟨zp,ti,⟨a,b',to⟩,⟨o1,e1,_,d1⟩,⟨o2,e2,_,d2⟩⟩:=st;simp at hb
  rcases hb with rfl|rfl|rfl|rfl|rfl
  ·exact⟨_,zp,λv q=>by cases q⟩
  ·exact⟨_,ti,λv q=>by cases q⟩
  ·exact⟨_,to,λv q=>by cases q⟩
  ·exact⟨_,e1,λv q=>by rw[d1]at q;cases q⟩
  ·exact⟨_,e2,λv q=>by rw[d2]at q;cases q⟩
 keep:=λn h h' st k=>by obtain⟨zp,ti,⟨a,b',to⟩,⟨o1,e1,r1⟩,⟨o2,e2,r2⟩⟩:=st;exact⟨k _ (by simp) _ zp,k _ (by simp) _ ti,⟨a,b',k _ (by simp) _ to⟩,⟨o1,k _ (by simp) _ e1,r1⟩,⟨o2,k _ (by simp) _ e2,r2⟩⟩
 item:=by
  intro X hP hw hK hc n pins s σ H E I hf st hg;subst hP hw hK;obtain⟨vs,ws,v,w',hq,hr,hv,hw'⟩:=hg;obtain⟨its,rv,p1,z1⟩:=I.tuple hq;obtain⟨jts,rw',p2,z2⟩:=I.tuple hr;obtain⟨x,hx,rx⟩:=rv.get hv;obtain⟨y,hy,ry⟩:=rw'.get hw';obtain⟨zp,ti,⟨a,b,to⟩,i1,i2⟩:=st;have hT:s.TypeIs (.ref z) "zip" := ⟨_,zp,rfl⟩;unfold pyNext;refine aa (qe (fe (name:=jz "__next__") hT F.slot_zip_next (ff F.slot_zip_next hT F.entry_zip_next
   (KL F4 (rM (items:=its.toArray) hti) (rM (items:=jts.toArray) huj) zp ti to ⟨i1,p1⟩ ⟨i2,p2⟩ (by simpa using hx) (by simpa using hy) λh' T Cv a1 a2 a3 a4 a5 a6 bt=>ai ⟨_,rfl, ?_⟩) (F.args_zip_next_1 _))))
  refine zt a1 λh2 z2' sb=>?_;have kp:∀b o,b∉[z,TI,TO,i,j]->s.heap.get? b=some o->h2.get? b=some o:=λb o hb q=>by simp at hb;obtain⟨n1,n2,n3,n4,n5⟩:=hb;exact sb.extBut _ _ n1 (bt b o n1 n3 n4 n5 q)
  have Tz:T≠z:=jq (av (au zp) Cv);have T2:nc h2 T x y:=sb.extBut _ _ Tz a6;have th:∀b∈[z,TI,TO,i,j],∃o,h2.get? b=some o:=λb hb=>by
   obtain⟨⟨o1,e1,_⟩,_⟩:=a4;obtain⟨⟨o2,e2,_⟩,_⟩:=a5;simp at hb
   rcases hb with rfl|rfl|rfl|rfl|rfl
   ·exact⟨_,z2'⟩
   ·exact⟨_,sb.extBut _ _ F4.g a2⟩
   ·exact⟨_,sb.extBut _ _ (cx F4.a) a3⟩
   ·exact⟨_,sb.extBut _ _ (cx F4.b) e1⟩
   ·exact⟨_,sb.extBut _ _ (cx F4.c) e2⟩
  have I2:=Inv.turns (T:=T) (vs:=[v,w']) (its:=[x,y]) I hf kp th Cv (.cons rx (.cons ry .nil)) (by show 2<=ck;decide) ⟨_,T2,rfl,rfl,_,rfl⟩;have nT:H T=none:=I.hok.fresh Cv;refine⟨.ref T,_,I2,rfl,⟨T,v,w',rfl,nT,rfl,λCf h'=>by rw[I.tuple_inj h' hq];exact hv,λws' h'=>by rw[I.tuple_inj h' hr];exact hw'⟩, ?_,λb hb=>?_⟩
  ·exact⟨z2',sb.extBut _ _ F4.g a2,⟨_,_,sb.extBut _ _ (cx F4.a) a3⟩,a4.1.extBut sb.extBut (cx F4.b),a5.1.extBut sb.extBut (cx F4.c)⟩
  ·obtain⟨o,q,_⟩:∃o,s.heap.get? b=some o/\True:=by
    obtain⟨o1,e1,_⟩:=i1;obtain⟨o2,e2,_⟩:=i2;simp at hb
    rcases hb with rfl|rfl|rfl|rfl|rfl
    ·exact⟨_,zp,trivial⟩
    ·exact⟨_,ti,trivial⟩
    ·exact⟨_,to,trivial⟩
    ·exact⟨_,e1,trivial⟩
    ·exact⟨_,e2,trivial⟩
   rw[bV (bg (av (au q) Cv))];exact(hf b hb).1
 done:=by
  intro X hP hw hK hc n pins s σ H E I hf st hg;subst hP hw hK;obtain⟨vs,ws,hq,hr,hend⟩:=hg;obtain⟨its,rv,p1,z1⟩:=I.tuple hq;obtain⟨jts,rw',p2,z2⟩:=I.tuple hr;have l1:=rv.length;have l2:=rw'.length;obtain⟨zp,ti,⟨a,b,to⟩,i1,i2⟩:=st;have hT:s.TypeIs (.ref z) "zip" := ⟨_,zp,rfl⟩;unfold pyNext;refine aa (qe (fe (name:=jz "__next__") hT F.slot_zip_next (ff F.slot_zip_next hT F.entry_zip_next
   (KN (show X.A.in1.handled=none from I.ok.hd hc) F4 (rM (items:=its.toArray) hti) (rM (items:=jts.toArray) huj) zp ti to ⟨i1,p1⟩ ⟨i2,p2⟩ (by
    rcases hend with q|q
    ·exact .inl (by simp;omega)
    ·exact .inr (by simp;omega)) λh' e bt ⟨o,he,El⟩=>aa (ui (T := "StopIteration") (b:=true) ⟨o,he,El⟩ zj (ai ⟨rfl, ?_⟩))) (F.args_zip_next_1 _))))
  refine Inv.turns0 I hf λb o hb q=>?_;simp at hb;exact bt b o hb.1 hb.2.2.1 hb.2.2.2.1 hb.2.2.2.2 q
 self:=λ_ _ _ _ _ st h=>uj st.zp h
def KO (t u:ah) (h:cu) (z:ah) (h':cu):Prop:=∃TI TO i j,ZipAt z TI TO i j t u 0 h'/\Ez z TI TO i j t u/\(∀b∈[z,TI,TO,i,j],h.objs.size<=b)/\∀b o,h.get? b=some o->h'.get? b=some o
theorem mK {h h':cu}{o:Obj}(e:h'=h.push o) (nf:o.isFreed=false):h'.get? h.objs.size=some o:=by rw[e];exact bf _ nf
theorem KQ (n t u:Nat) (lt:t<n) (lu:u<n):Ez (n+4) (n+2) (n+3) n (n+1) t u:=by
 have ne:∀{a b:Nat},(a<b∨b<a)->a≠b:=λh=>by omega
 exact⟨ne (by omega),ne (by omega),ne (by omega),ne (by omega),ne (by omega),ne (by omega),ne (by omega),ne (by omega),ne (by omega),ne (by omega),ne (by omega),ne (by omega),ne (by omega),ne (by omega),ne (by omega),ne (by omega),ne (by omega),ne (by omega)⟩
theorem X4 {t u:ah}{hp h1 h2 h3 h4 h5:cu}{n:Nat}(hn:n=hp.objs.size) (lt:t<n) (lu:u<n)
  (e1:h1=hp.push { cls:=.type "tuple_iterator",data:=.fields #[.ref t,.int 0 0] }) (e2:h2=h1.push { cls:=.type "tuple_iterator",data:=.fields #[.ref u,.int 0 0] }) (e3:h3=h2.push { cls:=.type "tuple",data:=.seq #[.ref n,.ref (n+1)] })
  (e4:h4=h3.push { cls:=.type "tuple",data:=.seq #[.none,.none] }) (e5:h5=h4.push { cls:=.type "zip",data:=.fields #[.none,.bool false,.bool false,.ref (n+2),.ref (n+3)] }):KO t u hp (n+4) h5:=by
 have z1:h1.objs.size=n+1:=by rw[e1,cw,hn]
 have z2:h2.objs.size=n+2:=by rw[e2,cw,z1]
 have z3:h3.objs.size=n+3:=by rw[e3,cw,z2]
 have z4:h4.objs.size=n+4:=by rw[e4,cw,z3]
 have up:∀(h:cu) (o:Obj) (b:ah) (q:Obj),h.get? b=some q->(h.push o).get? b=some q:=λh o b q e=>ak _ e;have g1:=mK e1 rfl;have g2:=mK e2 rfl;have g3:=mK e3 rfl;have g4:=mK e4 rfl;have g5:=mK e5 rfl;rw[<-hn]at g1;rw[z1]at g2;rw[z2]at g3;rw[z3]at g4;rw[z4]at g5;have u2:∀b q,h2.get? b=some q->h5.get? b=some q:=λb q e=>by rw[e5,e4,e3];exact up _ _ _ _ (up _ _ _ _ (up _ _ _ _ e))
 have u1:∀b q,h1.get? b=some q->h5.get? b=some q:=λb q e=>u2 b q (by rw[e2];exact up _ _ _ _ e);have u3:∀b q,h3.get? b=some q->h5.get? b=some q:=λb q e=>by rw[e5,e4];exact up _ _ _ _ (up _ _ _ _ e)
 have u4:∀b q,h4.get? b=some q->h5.get? b=some q:=λb q e=>by rw[e5];exact up _ _ _ _ e
 refine⟨n+2,n+3,n,n+1,⟨g5,u3 _ _ g3,⟨_,_,u4 _ _ g4⟩,⟨_,u1 _ _ g1,rfl,rfl⟩,⟨_,u2 _ _ g2,rfl,rfl⟩⟩, ?_, ?_,λb q e=>u1 b q (by rw[e1];exact up _ _ _ _ e)⟩
 ·exact KQ n t u lt lu
 ·intro b hb;rw[<-hn];simp at hb
  rcases hb with rfl|rfl|rfl|rfl|rfl
  ·exact ju _ _
  ·exact ju _ _
  ·exact ju _ _
  ·exact aj _
  ·exact ju _ _
theorem X5 {t u:ah}(xs ys:Array af):Meets (mw.«zip.__new__» ⟨[.type "zip",.ref t,.ref u],[]⟩) (λ_ R s=>s.heap.IsTuple t xs/\s.heap.IsTuple u ys/\∀h' z,KO t u s.heap z h'->R (.ok (.ret (.ref z))) { s with heap:=h' }):=
 .of_wp λprog w A R s h=>by
  obtain⟨ht,hu,k⟩:=h;obtain⟨hp,g,d,tk,os⟩:=s;have sub:=sub_zip;have ht':(⟨hp,g,d,tk,os⟩:ag).heap.IsTuple t xs:=ht;have Bl:(⟨hp.push { cls:=.type "tuple_iterator",data:=.fields #[.ref t,.int 0 0] },g,d,tk,os⟩:ag).heap.IsTuple u ys:=hu.push _
  wp_walk using oh ht',oh Bl
  have lt:t<hp.objs.size:=by obtain⟨o,e,_⟩:=ht;exact au e
  have lu:u<hp.objs.size:=by obtain⟨o,e,_⟩:=hu;exact au e
  simp only[cw];refine⟨_,rfl,k _ _ (X4 rfl lt lu rfl rfl rfl rfl ?_)⟩;simp only[cw];rfl
section
variable{a b:bj}{elts:List bj}{kk:Nat}{tp p pos:Pos}{ta:TA}{ms:M Al }
def X6 (K:aq) (ta:TA):TI:=λσ H R=>ta σ H λvs H1=>∃t u xs ys,vs=[.ref t,.ref u]/\Bk K H1 t xs/\Bk K H1 u ys/\R (CB K t u) H1
theorem KR:di "zip" = some (.type "zip"):=by decide +kernel
theorem X7 (hg:Gl X "zip") (hm:X.mg "zip" = none) (ha:PA X [a,b] ta) (hs:ar [a,b] X.env=[(false,eval a X.env),(false,eval b X.env)]:=by rfl) (hs2:ar [b] X.env=[(false,eval b X.env)]:=by rfl):
  PI X (.Tuple elts kk tp) (.Call (.Name "zip" p) [a,b] [] pos) (X6 X.K ta):=by
 intro pins s σ H R I h;refine Call_ (qA I hg hm KR (je (aZ (ha pos pins s σ H _ I h) λus s1 ⟨vs,H1,I1,r1,q1⟩=>?_) (by rw[hs,hs2]) (by rw[hs2];rfl)));obtain⟨t,u,xs,ys,e,hq,hr,q⟩:=q1;subst e;obtain⟨u1,u2,rfl,e1,e2⟩:=rC r1;cases e1;cases e2;obtain⟨its,rv,p1,_⟩:=I1.tuple hq;obtain⟨jts,rw',p2,_⟩:=I1.tuple hr;refine callType_new F.called_zip (by decide) (F.typeCall_zip_2 _ _) (F.newCall_zip_2 _ _) (λobj=>F.args_object_init_3 obj _ _) F.entry_zip_new (X5 its.toArray jts.toArray) ⟨p1,p2,λh' z nz=>?_⟩;obtain⟨TI,TO,i,j,za,f4,fresh,kp⟩:=nz;refine⟨⟨_,za.zp,rfl⟩, ?_⟩;have I2:Inv X pins σ H1 { s1 with heap:=h' }:=I1.kept (t':=s1.toks) kp;refine uj za.zp ⟨z,[z,TI,TO,i,j],_,_,H1,rfl,I2,X3 f4 f4.u3 f4.v4,za,λb hb=>I1.fpOk (fresh b hb) (I1.hok.fresh (fresh b hb)),q⟩
def pJ (xs ys:Al):Src:=dX ((xs.zip ys).map λq=>.tup [q.1,q.2])
def pK:Al->Hs->Rs Src
 | [.tup xs,.tup ys],h=>.ok (pJ xs ys) h
 |_,_=>.bad
theorem Cm.zip {μ:Nat->ah}{n:Nat}{H:Hp}{t u:ah}{vs ws:Ge}{xs ys:Al}{K:aq}(e:H t=some (.tup vs)) (e':H u=some (.tup ws)) (r:RelDL G μ n H xs vs) (r':RelDL G μ n H ys ws):Cm G μ n H (pJ xs ys) (CB K t u):=by
 intro k μ2 h2 H2 x2 s2;have f:=x2.im t (.tup vs) trivial e;have f':=x2.im u (.tup ws) trivial e';have g:=Ff x2 _ _ r;have g':=Ff x2 _ _ r';have hl:(pJ xs ys).n=min xs.length ys.length:=by simp[pJ,dX]
 constructor
 ·intro hk d hd;have Cs:((xs.zip ys).map λq=>Fw [q.1,q.2])[k]?=some d:=hd;rw[dw]at Cs
  cases q:(xs.zip ys)[k]? with
  |none=>rw[q]at Cs;cases Cs
  |some xy=>
   rw[q]at Cs;cases Cs;obtain⟨qx,qy⟩:=jw.mp q;obtain⟨v,ev,rv⟩:=g.get qx;obtain⟨w',ew,rw'⟩:=g'.get qy;refine⟨⟨vs,ws,v,w',Fi f,Fi f',ev,ew⟩,λx H' hy=>?_⟩;obtain⟨pp,v1,w1,rfl,np,rfl,a1,a2⟩:=hy;have b1:=a1 vs (Fi f);have b2:=a2 ws (Fi f');rw[ev]at b1;rw[ew]at b2
   cases b1;cases b2
   have sm:Cj H2 (aU H2 pp (.tup [v,w'])):=dH np;exact⟨sm,pp,_,rfl,dF,Fj (Fp (Fg sm) _ _ rv) (Fj (Fp (Fg sm) _ _ rw') Fu)⟩
 ·intro hk _;refine⟨vs,ws,Fi f,Fi f', ?_⟩;rw[g.length,g'.length,hk,hl];omega
theorem KS (hg:Gl X "zip") (hm:X.mg "zip" = none) (ha:eF X G E [a,b] ms) (hs:ar [a,b] X.env=[(false,eval a X.env),(false,eval b X.env)]:=by rfl) (hs2:ar [b] X.env=[(false,eval b X.env)]:=by rfl):
  lD X G E (.Tuple elts kk tp) (.Call (.Name "zip" p) [a,b] [] pos) (aR pK ms):=λhK=>
 PI.imp (X7 hg hm (ha hK) hs hs2) λσ H R ⟨μ,ρ,h,rs,s,o⟩=>kY rs s o λμ1 ds h1 vs H1 x1 Bm s1 r1 o1=>by
  unfold pK at o1
  split at o1
  ·rename_i xs ys;obtain⟨v,v',rfl,rv,rv'⟩:=xE r1;obtain⟨t,us,rfl,e,r⟩:=rv;obtain⟨u,ws,rfl,e',r'⟩:=rv';exact⟨t,u,us,ws,rfl,Fi e,Fi e',o1.val s1 (Cm.zip e e' r r')⟩
  ·exact o1.elim
end
section
variable{prog:bh}{w:cm}{A:bu}{E:af->ag->Prop}{s:ag}{K:Frag}{e C N:ah}{o:Obj}
theorem X8 {Q:Bool->ag->Prop}(X:K.In s.heap) (he:s.heap.get? e=some o) (hc:o.cls=.ref C) (hn:subIn K (.ref N) (.type "BaseException")=some true) (ht:subIn K (.type "type") (.type "tuple")=some false) (hk:kitCls K (.ref N) (.ref N)=some true) {b:Bool}(hs:subIn K (.ref C) (.ref N)=some b) (q:Q b s):
  wpAny (model prog w) A (excMatches (.ref e) (.ref N)) Q E s:=by
 have L1:=(kit_cls (M:=model prog w) X hk).1;have L2:=(kit_cls (M:=model prog w) X hk).2.1;have L3:=looks_subIn (M:=model prog w) X hn;have L4:=looks_subIn (M:=model prog w) X hs;have L5:=looks_subIn (M:=model prog w) X ht;obtain⟨hp,g,d,tk,os⟩:=s;unfold excMatches
 repeat (any_goals (first|assumption|(with_reducible refine wpAny_loadPart_at he ?_;rw[hc])|with_reducible refine L1.at ?_|with_reducible refine L2.at ?_|with_reducible refine L3.at ?_|with_reducible refine L4.at ?_|with_reducible refine L5.at ?_|wp_step))
 cases b
 all_goals (repeat (any_goals (first|assumption|wp_step)))
end
def jT (P:bh) (w:cm) (K:aq) (mg:Str->Option af) (base:cu) (N:Aj) (qual:Str) (scope:gu) (f:ah) (cd:af) (cl:List (Str×ah)) (A:bu) (outer:List Env) (s:ag) (H:Hp) (E:XK):Cx where
 prog:=P
 w:=w
 K:=K
 mg:=mg
 base:=base
 A:=A.deeper (nq qual scope s.heap.objs.size f cd cl)
 N:=N
 s₀:=s
 H₀:=H
 env:=nq qual scope s.heap.objs.size f cd cl
 outer:=outer
 stack:=nq qual scope s.heap.objs.size f cd cl::outer
 ex:=[]
 calm:=true
 fn:=λ_=>false
 pn:=[]
 xe:=λe s'=>wpAny (model P w) (A.deeper (nq qual scope s.heap.objs.size f cd cl)) (leaving (nq qual scope s.heap.objs.size f cd cl) e) (λ_ s''=>bR P w base outer H s E e s'') (λe' s''=>bR P w base outer H s E e' s'') s'
structure Bu (N:Aj) (sc:gu):Prop where
 kind:sc.kind=.function
 co:sc.isCoroutine=false
 gen:sc.isGenerator=false
 nocell:∀x∈sc.names,x.2≠.cell
 fr:∀x∈N,sc.names.lookup x=some .free
 all:∀x∈sc.names,x.2=.free->x.1∈N
structure Ei (G:Cfg) (base:cu) (H:Hp) (μ:Nat->ah) (n:Nat) (N:Aj) (params:mm) (body:bj) (scope:gu) (f c':ah) (cl:List (Str×ah)) (ds:Al):Prop where
 ob:∃pm ctv,H f=some (.frz (km "<lambda>" G.lq params body scope cl pm c' ctv) (.own 0))
 cd:∃oc,H c'=some (.frz oc (.own 0))/\wZ G.lq oc
 inj:∀x y c,cl.lookup x=some c->cl.lookup y=some c->x=y
 len:ds.length=N.length
 at_:∀(i:Nat) (x:Str),N[i]?=some x->∃c,cl.lookup x=some c
 cell:∀(x:Str) (c:ah),cl.lookup x=some c->∃o u,base.get? c=some o/\o.data=.cell u
 val:∀(i:Nat) (x:Str) (c:ah) (d:Dv),N[i]?=some x->ds[i]?=some d->cl.lookup x=some c->∃o u v,base.get? c=some o/\o.data=.cell (some u)/\RelV v u/\Ax G μ n H d v
section
variable{P:bh}{w:cm}{K:aq}{mg:Str->Option af}{base:cu}{N:Aj}{qual:Str}{scope:gu}{f:ah}{cdv:af}{cl:List (Str×ah)}{A:bu}{outer:List Env}{s0:ag}{H0:Hp}{E0:XK}{G:Cfg}{E:XK}{k:Nat}
theorem X9 (hr:Bo k (A.deeper (nq qual scope s0.heap.objs.size f cdv cl))) (hK:K=G.K) (hE:∀u H',E u none H'->E0 u none H') (hF:BV E):
  Good (jT P w K mg base N qual scope f cdv cl A outer s0 H0 E0) G E k where
 calm:=rfl
 room:=hr
 K:=hK
 own:=yw
 pas:=by intro pins σ H s u s' I ⟨e,C,H',eu,os,bare,un,hok,fl,he⟩;subst eu;have I':=I.call' os un hok bare (λb z=>absurd z (by simp));refine aa (BU (P:=P) (w:=w) (H:=H') (base:=base) I'.ok.frames I'.stack rfl hok I'.stkFree fl λh'' H'' un2 De Eu sx=>?_);have I2:=I'.call (h':=h'') (g':=s'.gens) (d':=s'.drawn) (t':=s'.toks) un2 De I'.bare (λb z=>absurd z (by simp));obtain⟨T,a0,h1,_⟩:=id fl;obtain⟨T2,a2,h3,_⟩:=id Eu;have xe1:eE C e T a0 s'.heap:=(show Bb P w H' s'.heap e _ from hok e _ h1).1;have:E (.ref e) none H'':=hF e H' H'' sx ⟨C,T,a0,T2,a2,h1,⟨_,xe1⟩,h3⟩ he;exact⟨e,C,H'',rfl,I2.os,I2.bare,I2.base,De,Eu,hE _ _ this⟩
 rais:=by intro pins σ H s h' e C args I mx he;refine aa (J1 (P:=P) (w:=w) (H:=H) (base:=base) I.ok.frames I.stack rfl I.hok I.stkFree I.bk mx λh'' H'' un2 De Eu sm=>?_);have I2:=I.call (h':=h'') (g':=s.gens) (d':=s.drawn) (t':=s.toks) un2 De I.bare (λb z=>absurd z (by simp));obtain⟨T2,a2,h3,_⟩:=id Eu;exact⟨e,C,H'',rfl,I2.os,I2.bare,I2.base,De,Eu,hE _ _ (he H'' sm ⟨T2,a2,h3⟩)⟩
end
def KU {α:Type}:Rs α->Sr
 | .ex c h=>.ex c h
 |_=>.bad
section
variable{P:bh}{w:cm}{K:aq}{mg:Str->Option af}{base:cu}{N:Aj}{params:mm}{body:bj}{scope:gu}{f c':ah}{cl:List (Str×ah)}{A:bu}{outer:List Env}{s:ag}{H:Hp}{E:XK}{G:Cfg}{k:Nat}{μ:Nat->ah}{h:Hs}{ds:Al}
theorem YA {h1:cu}{tk:Nat}{σ:St}{E₀:XK}(S:Bu N scope) (hd:A.handled=none) (e0:Fb P w K mg base A outer s H) (L:Ei G base H μ h.length N params body scope f c' cl ds)
  (Bz:∀x c,cl.lookup x=some c->x∈N)
  (hns:h1.Ns s.heap.objs.size λ_=>none) (hk1:∀b o,s.heap.get? b=some o->h1.get? b=some o)
  (hσ:σ.length=N.length) (hv:∀(i:Nat) (x:Str) (v:V),N[i]?=some x->σ[i]?=some (some v)->∃c o u,cl.lookup x=some c/\base.get? c=some o/\o.data=.cell (some u)/\RelV v u):
  Inv (jT P w K mg base N G.lq scope f (.ref c') cl A outer s H E₀) [] σ H { s with heap:=h1,toks:=tk }:=by
 have noA:∀b:ah,b∉(jT P w K mg base N G.lq scope f (.ref c') cl A outer s H E₀).ex:=λb z=>absurd (show b∈([]:List ah) from z) (by simp);have kfree:∀x,scope.names.lookup x=some .free->x∈N:=λx e=>S.all _ (fh e) rfl;refine⟨⟨e0.mod,S.kind,rfl,rfl,aj _,L.inj,λx hx=>?_,λx c z=>(nomatch z),λ_=>hd,yu e0.frames,.inr ⟨rfl,rfl⟩,λb z=>absurd z (noA b),e0.bs,e0.bsz,λb _ _=>noA b,λb z=>absurd z (noA b),e0.funs,e0.frf⟩,
  rfl,e0.bare,Un.kept hk1,⟨_,hns,λi x v h1' h2 h3=>?_⟩,λx c e=>?_,e0.hok.fresh (aj _),λx c e=>?_,λp hp=>absurd (show p∈([]:List (ah×Obj)) from hp) (by simp),e0.hok.kept hk1,hσ⟩
 ·have hx:scope.names.lookup x=some .cell∨scope.names.lookup x=some .free:=hx
  rcases hx with hx|hx
  ·exact absurd rfl (S.nocell _ (fh hx))
  ·obtain⟨i,hi⟩:=List.getElem?_of_mem (kfree x hx);exact L.at_ i x hi
 ·obtain⟨c,o,u,e1,e2,e3,r⟩:=hv i x v h1' h2;refine⟨u,r,.inr ⟨.inr (S.fr x (cn h1')),c,e1,o,hk1 _ _ (e0.bs _ _ e2).1,e3⟩⟩
 ·obtain⟨o,u,e2,e3⟩:=L.cell x c e;exact⟨u,o,hk1 _ _ (e0.bs _ _ e2).1,e3⟩
 ·obtain⟨o,u,e2,e3⟩:=L.cell x c e;exact(e0.bs _ _ e2).2
theorem YB {me:M Dv}{Q:VK}(S:Bu N scope) (hK:K=G.K) (hb:∀(cl:List (Str×ah)) (pm cdv ct:af),bindArgs (pz "<lambda>" G.lq params body scope cl pm cdv ct) ⟨[],[]⟩=pure [])
  (Br:∀(f:ah) (cdv:af) (cl:List (Str×ah)) (A:bu) (outer:List Env) (s:ag) (H:Hp) (E₀ E:XK),Good (jT P w K mg base N G.lq scope f cdv cl A outer s H E₀) G E k->aJ (jT P w K mg base N G.lq scope f cdv cl A outer s H E₀) G E body me)
  (hr:Bo (k+1) A) (e0:Fb P w K mg base A outer s H) (L:Ei G base H μ h.length N params body scope f c' cl ds) (Bz:∀x c,cl.lookup x=some c->x∈N) (sm:Bh G μ h H) (o:Out G E μ h.length H (me (ds.map some) h) (Ax G) Q):
  codeAny (model P w) A (.call (.ref f) ⟨[],[]⟩) (CR (bR P w base) outer P w H s Q E) s:=by
 obtain⟨pm,ctv,ho⟩:=L.ob;obtain⟨oc,hc,vs,t,hcd,hq⟩:=L.cd;have lim:s.heap.NoLimit:=e0.mod.nolimit.keeps λb o e=>(e0.bs b o e).1;have gc:s.heap.get? c'=some oc:=(e0.hok c' _ hc).1;refine PySem.W.kla_callFunE hr.depth (e0.hok f _ ho).1 rfl S.co S.gen rfl ⟨c',oc,vs,t,rfl,gc,hcd,hq⟩ ?_;rw[hb];refine ai (wpAny_newFunctionEnv S.nocell (λx hx=>absurd hx (by simp)) (λh₁ hns hsb=>⟨lim.fresh _ hsb, ?_⟩) S.kind);show codeAny _ _ (.expr body (nq G.lq scope s.heap.objs.size f (.ref c') cl)) _ _;have hk₁:∀b o,s.heap.get? b=some o->h₁.get? b=some o:=λb o e=>hsb.extBut b o (bg (au e)) (ak _ e);have hvs:∀(i:Nat),i<N.length->∃v:V,∀d,ds[i]?=some d->Ax G μ h.length H d v/\∀x,N[i]?=some x->∃c o u,cl.lookup x=some c/\base.get? c=some o/\o.data=.cell (some u)/\RelV v u:=λi hi=>by
  obtain⟨x,hx⟩:∃x,N[i]?=some x:=⟨_,aw hi⟩
  obtain⟨d,hd⟩:∃d,ds[i]?=some d:=⟨_,aw (by rw[L.len];exact hi)⟩
  obtain⟨c,ec⟩:=L.at_ i x hx;obtain⟨oo,u,v,e1,e2,r1,r2⟩:=L.val i x c d hx hd ec;refine⟨v,λd' Cs=>?_⟩;rw[hd]at Cs;cases Cs;refine⟨r2,λx' hx'=>?_⟩;rw[hx]at hx';cases hx';exact⟨c,oo,u,ec,e1,e2,r1⟩
 have Dz:∃vs:Ge,vs.length=N.length/\∀(i:Nat) (v:V),vs[i]?=some v->∀d,ds[i]?=some d->Ax G μ h.length H d v/\∀x,N[i]?=some x->∃c o u,cl.lookup x=some c/\base.get? c=some o/\o.data=.cell (some u)/\RelV v u:=by
  have:∀m,m<=N.length->∃vs:Ge,vs.length=m/\∀(i:Nat) (v:V),vs[i]?=some v->∀d,ds[i]?=some d->Ax G μ h.length H d v/\∀x,N[i]?=some x->∃c o u,cl.lookup x=some c/\base.get? c=some o/\o.data=.cell (some u)/\RelV v u:=by
   intro m
   induction m with
   |zero=>exact λ_=>⟨[],rfl,λi v e=>by simp at e⟩
   |succ m ih=>
    intro hm;obtain⟨vs,hl,hv⟩:=ih (by omega);obtain⟨v,hv'⟩:=hvs m (by omega);refine⟨vs++[v],by simp[hl],λi v' e d hd=>?_⟩
    by_cases hi:i<vs.length
    ·rw[dz hi]at e;exact hv i v' e d hd
    ·rw[gq (by omega)]at e;have:i=m:=by have:=(az.mp e).1;simp at this;omega
     subst this;simp[hl]at e;subst e;exact hv' d hd
  exact this _ (aj _)
 obtain⟨Cf,hl,hv⟩:=Dz;have I:Inv (jT P w K mg base N G.lq scope f (.ref c') cl A outer s H E) [] (Cf.map some) H { s with heap:=h₁,toks:=s.toks+([]:List (Str×af)).length }:=by
  refine YA S hr.hd e0 L Bz hns hk₁ (by simp[hl]) λi x v h1 h2=>?_;have h3:Cf[i]?=some v:=by
   rw[dw]at h2
   cases q:Cf[i]? with
   |none=>rw[q]at h2;cases h2
   |some a=>rw[q]at h2;cases h2;rfl
  obtain⟨d,hd⟩:∃d,ds[i]?=some d:=⟨_,aw (by rw[L.len];exact(az.mp h1).1)⟩
  exact(hv i v h3 d hd).2 x h1
 have rs:Bf G μ h.length H (ds.map some) (Cf.map some):=⟨by simp[hl,L.len],λi d e=>by
  have h3:ds[i]?=some d:=by
   rw[dw]at e
   cases q:ds[i]? with
   |none=>rw[q]at e;cases e
   |some a=>rw[q]at e;cases e;rfl
  have hi:i<Cf.length:=by rw[hl,<-L.len];exact(az.mp h3).1
  exact⟨Cf[i],by rw[dw,aw hi];rfl,(hv i _ (aw hi) d h3).1⟩⟩
 have gd:Good (jT P w K mg base N G.lq scope f (.ref c') cl A outer s H E) G (EB G μ h.length H (KU (me (ds.map some) h))) k:=X9 (hr.deeper _) hK (λu H' ⟨c,h',μ',er,x,s',fl⟩=>by
  cases q:me (ds.map some) h with
  |ok d hh=>rw[q]at er;cases er
  |bad=>rw[q]at er;cases er
  |ex c1 h1=>rw[q]at er o;cases er;exact o μ' H' u x s' fl) BX
 refine PySem.W.kla_codeExpr (lh (Br f (.ref c') cl A outer s H E _ gd hK [] _ (Cf.map some) H Q I ⟨μ,ds.map some,h,rs,sm, ?_⟩) (λu s' ⟨v,H',J,rv,q⟩=>⟨v,H',J.os,J.bare,J.base,J.hok,rv,q⟩) λe s' hs=>hs)
 cases q:me (ds.map some) h with
 |ok d hh=>rw[q]at o;exact o
 |bad=>rw[q]at o;exact o
 |ex c1 h1=>exact λμ' H' u x' s' fl=>⟨c1,h1,μ',rfl,x',s',fl⟩
end
section
variable{X:Cx}{pins:List (ah×Obj)}{σ:St}{H:Hp}{s:ag}
theorem YC {i:Nat}{x:Str}{h':cu}{tk:Nat}{m:Str->Option af}{v:Option af}(I:Inv X pins σ H s) (hN:X.N.Nodup) (hi:X.N[i]?=some x) (hn:s.heap.Ns X.env.locals m)
  (hl:∀(i:Nat) (x:Str) (v:V),X.N[i]?=some x->σ[i]?=some (some v)->qZ X.env.scope x->∃u,RelV v u/\GS X.env s.heap m x u)
  (hs:ik X.env.locals s.heap h') (hn':h'.Ns X.env.locals (λy=>if y=x then v else m y)):Inv X pins (σ.set i none) H { s with heap:=h',toks:=tk }:=by
 have cne:=I.cne;have hok:Cc X.prog X.w H h':=λb ob e=>by
  refine(I.hok b ob e).stay (λc w' hc q=>(hs.2 c ?_).trans q) (λ_ q=>q) λ_ _ q=>q
  rintro rfl
  have hfree:=I.free
  rcases hc with hc|hc
  ·rw[<-hc]at e;rw[hfree]at e;cases e
  ·rw[hfree]at hc;cases hc
 refine⟨I.ok,I.os,I.bare,⟨λb o e n hb hx=>?_,λb o e n hb hx=>?_,I.base.free,λb o e hx=>?_,I.base.tups,I.base.frzs,I.base.tbls⟩,⟨_,hn',λj y v' e1 e2 e3=>?_⟩,λy c e=>?_,I.free,I.freeC,λp hp=>?_,hok,by simpa using I.len⟩
 ·exact(hs.2 b (bg (av (au e) I.ok.above))).trans (I.base.keep b o e n hb hx)
 ·obtain⟨sl,e1⟩:=I.base.slot b o e n hb hx;exact⟨sl,(hs.2 b (bg (av (au e) I.ok.above))).trans e1⟩
 ·obtain⟨o',e1⟩:=I.base.there b o e hx;exact⟨o',(hs.2 b (bg (av (au e) I.ok.above))).trans e1⟩
 ·by_cases hj:j=i
  ·subst hj;have hiσ:j<σ.length:=by rw[I.len];exact(az.mp hi).1
   rw[df hiσ]at e2;cases e2
  ·rw[du (cx hj)]at e2;obtain⟨u',r',q⟩:=hl j y v' e1 e2 e3;refine⟨u',r', ?_⟩
   rcases q with⟨k,e⟩|⟨k,c,e,z⟩
   ·refine .inl ⟨k, ?_⟩;have:y≠x:=λe=>hj (AJ hN e1 (e▸hi));show(if y=x then v else m y)=some u';rw[if_neg this];exact e
   ·exact .inr ⟨k,c,e,z.sameBut hs (cne y c e)⟩
 ·obtain⟨w',z⟩:=I.cell y c e;exact⟨w',z.sameBut hs (cne y c e)⟩
 ·obtain⟨e,n,ne,nf,d⟩:=I.pin p hp;exact⟨(hs.2 p.1 ne).trans e,n,ne,nf,d⟩
def rN (X:Cx) (e:af):Cx:={ X with A:=X.A.mark (some e),calm:=false,xe:=λ_ _=>False }
theorem KW (e:af) (I:Inv X pins σ H s):Inv (rN X e) pins σ H s:=
 have ok:=I.ok
 ⟨⟨ok.mod,ok.kind,ok.glob,ok.blt,ok.above,ok.inj,ok.has,ok.cab,λz=>(nomatch z),ok.frames,ok.stk,ok.exf,ok.bs,ok.bsz,ok.noex,ok.exfs,ok.funs,ok.frf⟩,I.os,I.bare,I.base,I.loc,I.cell,I.free,I.freeC,I.pin,I.hok,I.len⟩
theorem YD {e:af}(ok:X.Ok) (I:Inv (rN X e) pins σ H s):Inv X pins σ H s:=⟨ok,I.os,I.bare,I.base,I.loc,I.cell,I.free,I.freeC,I.pin,I.hok,I.len⟩
end
section
variable{k:Nat}{N:Aj}{params:mm}{body:bj}{scope:gu}{me:M Dv}{ncl:Nat}{NE:ah}
theorem YE {x xn en nm:Str}{p cpos epos np xp ep apos hpos tpos:Pos}{pins:List (ah×Obj)}{σ:St}{H:Hp}{s:ag}{D:Ends}{f c':ah}{cl:List (Str×ah)}{μ:Nat->ah}{h:Hs}{ds:Al}
  (hK:X.K=G.K) (Es:X.stack=X.env::X.outer) (hfr:X.env.frame=some X.env.locals) (hnd:X.N.Nodup) (h0:X.N[0]?=some x) (h1:X.N[1]?=some xn) (h2:X.N[2]?=some en) (hfn:∀y,X.fn y=true)
  (l0:X.env.scope.names.lookup x=some .local) (l1:X.env.scope.names.lookup xn=some .local) (l2:X.env.scope.names.lookup en=some .local)
  (d0:(x==Gd)=false) (c0:(x==("__classdict__" : Str))=false) (d2:(en==Gd)=false) (c2:(en==("__classdict__" : Str))=false) (dn:(nm==Gd)=false)
  (hsw:swapsWith (.Call (.Name x p) [] [] cpos) none epos.line X.env=pure false) (hsw2:swapsWith (.Name en ep) (some (.Name xn xp)) apos.line X.env=pure false)
  (hg:Gl X nm) (hm:X.mg nm=some (.ref NE)) (hx1:jx X.K (.ref NE) (.type "BaseException")=some true) (hx2:jx X.K (.type "type") (.type "tuple")=some false) (hx3:wx X.K (.ref NE) (.ref NE)=some true)
  (hsub:∀c,c<ncl->jx X.K (.ref (G.cl c)) (.ref NE)=some true)
  (S:Bu N scope) (hb:∀(cl:List (Str×ah)) (pm cdv ct:af),bindArgs (pz "<lambda>" G.lq params body scope cl pm cdv ct) ⟨[],[]⟩=pure [])
  (Br:∀(f:ah) (cdv:af) (cl:List (Str×ah)) (A:bu) (outer:List Env) (s:ag) (H:Hp) (E₀ E:XK),Good (jT X.prog X.w X.K X.mg X.base N G.lq scope f cdv cl A outer s H E₀) G E k->aJ (jT X.prog X.w X.K X.mg X.base N G.lq scope f cdv cl A outer s H E₀) G E body me)
  (hr:Bo (k+1) X.A) (I:Inv X pins σ H s) (hσ:σ[0]?=some (some (.ref f))) (L:Ei G X.base H μ h.length N params body scope f c' cl ds) (Bz:∀x c,cl.lookup x=some c->x∈N) (sm:Bh G μ h H)
  (hD:match me (ds.map some) h with
   | .ok _ h1=>∀μ' H',Ext μ h.length H μ' h1.length H'->Bh G μ' h1 H'->D.nx σ H'
   | .ex c h1=>c<ncl/\∀μ' H' a,Ext μ h.length H μ' h1.length H'->Bh G μ' h1 H'->Ax G μ' h1.length H' (.exc c) (.ref a)->D.nx (((σ.set 2 (some (.ref a))).set 1 (some (.ref a))).set 2 none) H'
   | .bad=>False):
  wpAny (model X.prog X.w) X.A (exec (.Try [.Expr (.Call (.Name x p) [] [] cpos) epos] [.ExceptHandler (some (.Name nm np)) (some en) [.Assign [.Name xn xp] (.Name en ep) apos] hpos] [] [] tpos) X.env) (SP X pins D) X.xe s:=by
 have hcls:(X.env.scope.kind==.class||(X.env.scope.kind==.module&&X.env.locals != X.env.globals))=false:=by rw[I.ok.kind];rfl
 refine wpAny_Try_except ?_;obtain⟨pm,ctv,ho⟩:=L.ob;refine pv (wpAny_Expr_any (oi (aZ (lh (sW (X:=X.nox) (pos:=p) h0 (.inl l0) d0 c0 pins s σ H (λv H'=>v=.ref f/\H'=H) (I.wish _) ⟨_,hσ,rfl,rfl⟩) (λ_ _ q=>q) λ_ _ z=>gz z) λu s1 ⟨v,H',I',r,e1,e2⟩=>?_)) I.quiet hsw);subst e1;subst e2;cases r;have I1:Inv X pins σ H' s1:=I'.unwish;refine PySem.W.callWith_F0 ⟨_,_,_,_,(I1.hok f _ ho).1⟩ ?_;refine zd (oz (YB (E:=EB G μ h.length H' (KU (me (ds.map some) h))) (Q:=λ_ H2=>∃d hh μ',me (ds.map some) h=.ok d hh/\Ext μ h.length H' μ' hh.length H2/\Bh G μ' hh H2) S hK hb Br hr I1.env0 L Bz sm ?_) λr s' hq=>?_)
 ·cases q:me (ds.map some) h with
  |ok d hh=>exact λμ' H' v x' s' _=>⟨d,hh,μ',rfl,x',s'⟩
  |bad=>rw[q]at hD;exact hD.elim
  |ex c1 h1=>exact λμ' H' u x' s' fl=>⟨c1,h1,μ',rfl,x',s',fl⟩
 cases r with
 |ok fl=>
  cases fl with
  |ret u=>obtain⟨v,H2,I2,r2,d,hh,μ',e1,x1,s1⟩:=I1.after hq;refine nt (nt ?_);rw[e1]at hD;exact⟨σ,H2,I2,hD μ' H2 x1 s1⟩
  |next=>exact gz hq
  |brk=>exact gz hq
  |cont=>exact gz hq
 |error ev=>
  obtain⟨e,C,H2,rfl,os,bare,un,hok,fl,c,hh,μ',er,x1,sm1,e',φ,eu,g1,g2⟩:=hq;cases eu
  cases qm:me (ds.map some) h with
  |ok d h3=>rw[qm]at er;cases er
  |bad=>rw[qm]at er;cases er
  |ex c3 h3=>
  rw[qm]at er hD;cases er;obtain⟨hc,hD⟩:=hD;have I2:Inv X pins σ H2 s':=I1.call' os un hok bare (λb z=>absurd z (by simp));refine BU (P:=X.prog) (w:=X.w) (H:=H2) (base:=X.base) (env:=X.env) (outer:=X.outer) (by rw[<-Es];exact I2.ok.frames) (by rw[<-Es];exact I2.stack) hfr hok (by rw[<-Es];exact I2.stkFree) fl λh4 H4 un4 hok4 fl4 sx4=>?_;have I4:Inv X pins σ H4 { s' with heap:=h4 }:=I2.call (h':=h4) (g':=s'.gens) (d':=s'.drawn) (t':=s'.toks) (by rw[Es];exact un4) hok4 I2.bare (λb z=>absurd z (by simp));obtain⟨sm4,x4⟩:=sm1.sameX sx4 ⟨_,g1⟩;obtain⟨T,a0,w1,w2,w3,w4⟩:=id fl4;obtain⟨T0,b0,v1,_,_,_⟩:=id fl;have hC:C=.ref (G.cl c):=by have xo:eE C e T0 b0 s'.heap:=(show Bb X.prog X.w H2 s'.heap e _ from hok e _ v1).1;rw[v1]at g1;cases g1;obtain⟨oo,q1,q2⟩:=g2 _ xo;obtain⟨o2,vs2,q3,q4,_⟩:=xo;rw[q3]at q1;cases q1;rw[<-q4,q2]
  subst hC;have xo4:eE (.ref (G.cl c)) e T a0 h4:=(show Bb X.prog X.w H4 h4 e _ from hok4 e _ w1).1;obtain⟨oe,vs,y1,y2,y3,y4,y5,y6⟩:=id xo4;refine wpAny_handleBy_cons (codeAny_handlers_test (lh (sX (X:=rN X (.ref e)) (E:=λ_ _=>False) (Q:=λu s5=>u=.ref NE/\Inv X pins σ H4 s5/\s5.heap=h4) (KW _ I4) hg hm ⟨rfl,I4,rfl⟩ dn) (λcv s5 hs5=>?_) λ_ _ z=>gz z)) (by intro z;cases z);obtain⟨rfl,I5,e5⟩:=hs5;refine X8 (K:=X.K) I5.kIn (by rw[e5];exact y1) y2 hx1 hx2 hx3 (hsub c hc) ?_;obtain⟨oT,ts,z1,z2,z3⟩:eM T h4:=(show Bb X.prog X.w H4 h4 T _ from hok4 T _ w2).1;have l3:3<ts.size:=(dm.mp z3).1;refine codeAny_handlers_suite_as (JX (e:=e) (T:=T) (by rw[e5];exact y1) y3 y5 (by rw[e5];exact z1) z2 l3 λh6 sb6 tb6=>?_);rw[e5]at sb6;have ge6:h6.get? e=some oe:=sb6.extBut _ _ (cx w4) y1;have I6:Inv X pins σ (aU H4 T (.ext (eM T))) { s5 with heap:=h6 }:=I5.write (x:=T) (e:=T) (o:=.ext (eM T)) (h':=h6) (t':=s5.toks) (by rw[w2];trivial) (.inl rfl) (λb u hb q=>by rw[e5]at q;exact sb6.extBut _ _ hb q) (let ⟨oo,_,q,_⟩:=tb6;⟨oo,q⟩) (xJ tb6);have se:Cj H4 (aU H4 T (.ext (eM T))):=λb o q=>by
   by_cases hb:b=T
   ·subst hb;rw[w2]at q;cases q;exact dF
   ·rw[bV hb];exact q
  have w1':(aU H4 T (.ext (eM T))) e=some (.ext (eE (.ref (G.cl c)) e T a0)):=se _ _ w1;have I7:Inv X pins σ (aU (aU H4 T (.ext (eM T))) e (.frz oe (.own 0))) { s5 with heap:=h6 }:=I6.write (x:=e) (e:=e) (o:=.frz oe (.own 0)) (h':=h6) (t':=s5.toks) (by rw[w1'];trivial) (.inl rfl) (λb u hb q=>q) ⟨_,ge6⟩ ⟨ge6,oe,ge6⟩;have sx7:tV e (aU H4 T (.ext (eM T))) (aU (aU H4 T (.ext (eM T))) e (.frz oe (.own 0))):=λb o hb q=>by rw[bV hb];exact q
  obtain⟨sm7,x7⟩:=(sm4.same se).sameX sx7 ⟨_,w1'⟩;have xx:Ext μ h.length H' μ' hh.length (aU (aU H4 T (.ext (eM T))) e (.frz oe (.own 0))):=x1.trans ((x4 _).trans ((Fg se).trans (x7 _)));generalize hH7:aU (aU H4 T (.ext (eM T))) e (.frz oe (.own 0))=H7 at *;have rl:Ax G μ' hh.length H7 (.exc c) (.ref e):=by rw[Ax,<-hH7];exact⟨e,oe,.own 0,rfl,dF,y2,y6,vs,y3⟩
  refine AK (v:=.ref e) I7 hnd h2 (.inl l2) rfl (λs8 I8=>?_) (.inr l2);have I8':Inv (rN X (.ref e)) pins (σ.set 2 (some (.ref e))) H7 s8:=KW _ I8;have hlen:2<σ.length:=by rw[I.len];exact(az.mp h2).1
  refine lh (G2 (AN (X:=rN X (.ref e)) (i:=1) (pos:=apos) (pos':=xp) hnd h1 (.inl l1) (sW (X:=rN X (.ref e)) (pos:=ep) h2 (.inl l2) d2 c2) hsw2 (.inr l1)) pins s8 (σ.set 2 (some (.ref e))) H7 { nx:=λσ' H'=>σ'=(σ.set 2 (some (.ref e))).set 1 (some (.ref e))/\H'=H7,rt:=λ_ _=>False } I8' ⟨.ref e,df hlen,rfl,rfl⟩) (λfl9 s9 hs9=>?_) λ_ _ z=>gz z
  cases fl9 with
  |ret u=>obtain⟨_,_,_,_,_,z⟩:=hs9;exact z.elim
  |brk=>obtain⟨_,_,_,z⟩:=hs9;exact z.elim
  |cont=>obtain⟨_,_,_,z⟩:=hs9;exact z.elim
  |next=>obtain⟨σ9,H9,I9,e9,f9⟩:=hs9;subst e9;subst f9;have I9':Inv X pins _ H9 s9:=YD I8.ok I9;obtain⟨m,hn,hl⟩:=id I9'.loc;refine wpAny_nameGoes_keeps l2 hn hcls λh10 v10 hn10 hs10=>?_;exact⟨_,H9,YC I9' hnd h2 hn hl hs10 hn10,hD μ' H9 e xx sm7 rl⟩
end
def uB:Sr->Rs Dv
 | .rt d h=>.ok d h
 | .nx _ h=>.ok .non h
 |_=>.bad
def pL (n:Nat) (d:Dv):Ev:=none::some d::xl (n - 2) none
def uC (n ncl:Nat) (mb:MS):Rs Dv->Rs Dv
 | .ok _ h1=>uB (mb (pL n .non) h1)
 | .ex c h1=>if c<ncl then uB (mb (pL n (.exc c)) h1)else .bad
 | .bad=>.bad
def xR (G:Cfg) (base:cu) (Nl:Aj) (params:mm) (body:bj) (scope:gu) (me:M Dv) (n ncl:Nat) (mb:MS):Sp:=λvs H Q E=>∃f c' cl ds μ h,vs=[.ref f]/\Ei G base H μ h.length Nl params body scope f c' cl ds/\(∀x c,cl.lookup x=some c->x∈Nl)/\Bh G μ h H/\Out G E μ h.length H (uC n ncl mb (me (ds.map some) h)) (Ax G) Q
theorem KY {G:Cfg}{E:XK}{μ μ1:Nat->ah}{n n1:Nat}{H H1:Hp}{r:Sr}{Q:VK}(o:Out G E μ n H (uB r) (Ax G) Q) (x:Ext μ n H μ1 n1 H1):Bw G (λ_ _ _=>False) μ1 n1 H1 r { nx:=λ_ H'=>Q .non H',rt:=Q }:=by
 cases r with
 |nx ρ h'=>exact λμ' H' σ' y s _=>o μ' H' .non (x.trans y) s rfl
 |rt d h'=>exact λμ' H' v y s r=>o μ' H' v (x.trans y) s r
 |bk ρ h'=>exact o.elim
 |ct ρ h'=>exact o.elim
 |ex c h'=>exact o.elim
 |bad=>exact o
theorem KZ {G:Cfg}{μ:Nat->ah}{n:Nat}{H:Hp}{m:Nat}{d:Dv}{v:V}{σ:St}(hl:σ.length=m) (hm:2<=m) (h1:σ[1]?=some (some v)) (r:Ax G μ n H d v):Bf G μ n H (pL m d) σ:=by
 refine⟨by simp[pL,hl];omega,λi d' e=>?_⟩;unfold pL at e
 match i,e with
 |0,e=>simp at e
 |1,e=>simp at e;subst e;exact⟨v,h1,r⟩
 |i+2,e=>
  simp only[sj,sh]at e
  split at e <;> cases e
section
variable{P:bh}{w:cm}{K:aq}{mg:Str->Option af}{base:cu}{f:ah}{G:Cfg}{k:Nat}{Nm Nl:Aj}{params:mm}{body:bj}{scope:gu}{me:M Dv}{ncl:Nat}{NE:ah}{mb:MS}
theorem YF {x xn en nm q qual:Str}{st:gw}{fd:bo}{p cpos epos np xp ep apos hpos tpos zpos zp npos:Pos}{j:Nat}{rest:List gw}(Fn:Bx K q qual st f fd) (S:Ay Nm [x] (aX st)) (hK:K=G.K)
  (Et:jN st=.Assign [.Name xn zp] (.Constant .none j npos) zpos::.Try [.Expr (.Call (.Name x p) [] [] cpos) epos] [.ExceptHandler (some (.Name nm np)) (some en) [.Assign [.Name xn xp] (.Name en ep) apos] hpos] [] [] tpos::rest)
  (h0:Nm[0]?=some x) (h1:Nm[1]?=some xn) (h2:Nm[2]?=some en)
  (l0:(aX st).names.lookup x=some .local) (l1:(aX st).names.lookup xn=some .local) (l2:(aX st).names.lookup en=some .local)
  (d0:(x==Gd)=false) (c0:(x==("__classdict__" : Str))=false) (d2:(en==Gd)=false) (c2:(en==("__classdict__" : Str))=false) (dn:(nm==Gd)=false)
  (hsw:∀L cd,swapsWith (.Call (.Name x p) [] [] cpos) none epos.line (envOfC qual (aX st) L f cd)=pure false) (hsw2:∀L cd,swapsWith (.Name en ep) (some (.Name xn xp)) apos.line (envOfC qual (aX st) L f cd)=pure false)
  (hsw3:∀L cd,swapsWith (.Constant .none j npos) (some (.Name xn zp)) zpos.line (envOfC qual (aX st) L f cd)=pure false)
  (hg:(aX st).names.lookup nm=some .globalImplicit) (hm:mg nm=some (.ref NE)) (hx1:jx K (.ref NE) (.type "BaseException")=some true) (hx2:jx K (.type "type") (.type "tuple")=some false) (hx3:wx K (.ref NE) (.ref NE)=some true)
  (hsub:∀c,c<ncl->jx K (.ref (G.cl c)) (.ref NE)=some true)
  (LS:Bu Nl scope) (hb:∀(cl:List (Str×ah)) (pm cdv ct:af),bindArgs (pz "<lambda>" G.lq params body scope cl pm cdv ct) ⟨[],[]⟩=pure [])
  (Br:∀(f:ah) (cdv:af) (cl:List (Str×ah)) (A:bu) (outer:List Env) (s:ag) (H:Hp) (E₀ E:XK),Good (jT P w K mg base Nl G.lq scope f cdv cl A outer s H E₀) G E k->aJ (jT P w K mg base Nl G.lq scope f cdv cl A outer s H E₀) G E body me)
  (Ea:∀(cdv:af) (A:bu) (outer:List Env) (s:ag) (H:Hp) (E₀ E:XK),Good (gJ (bR P w base) P w K mg base Nm qual (aX st) f cdv A outer s H E₀) G E (k+1)->jQ (gJ (bR P w base) P w K mg base Nm qual (aX st) f cdv A outer s H E₀) G E rest mb):
  Bd P w K mg base (bR P w base) (k+2) f fd [x] (xR G base Nl params body scope me Nm.length ncl mb):=by
 obtain⟨oc,od,kV,doc,pm,an,cdv,ct,osl,rfl,lk,hcd⟩:=Fn.ex;have hNl:2<Nm.length:=(az.mp h2).1;refine AY lk hcd S (λvs H Q E ⟨f,c',cl,ds,μ,h,e,_⟩=>by rw[e];rfl) λA outer s H vs Q E hr hsp=>?_;obtain⟨fl,c',cl,ds,μ,h,rfl,L,Bz,sm,o⟩:=hsp;refine⟨λD σ H1=>σ=start Nm [.ref fl]/\H1=H/\D={ nx:=λ_ H'=>Q .non H',rt:=Q }, ?_,rfl,rfl,rfl⟩;intro pins s1 σ H1 D I ⟨eσ,eH,eD⟩;subst eH;have hσl:σ.length=Nm.length:=I.len;have hσ0:σ[0]?=some (some (.ref fl)):=by rw[eσ];rfl
 rw[Et];have gd:Good (gJ (bR P w base) P w K mg base Nm qual (aX st) f cdv A outer s H1 E) G (λ_ _ _=>False) (k+1):=BW hr hK (λ_ _ z=>z.elim) (λ_ _ _ _ _ z=>z);have hset:(σ.set 1 (some .non))[0]?=some (some (.ref fl)):=by rw[du (by decide)];exact hσ0
 refine pv (aZ (AN (X:=gJ (bR P w base) P w K mg base Nm qual (aX st) f cdv A outer s H1 E) (i:=1) (pos:=zpos) (pos':=zp) S.nd h1 (.inl l1) (GW (j:=j) (pos:=npos)) (hsw3 _ _) (.inl rfl) pins s1 σ H1 { nx:=λσ' H'=>σ'=σ.set 1 (some .non)/\H'=H1,rt:=λ_ _=>False } I ⟨rfl,rfl⟩) λEu s2 q2=>?_)
 cases Eu with
 |ret u=>obtain⟨_,_,_,_,_,z⟩:=q2;exact z.elim
 |brk=>obtain⟨_,_,_,z⟩:=q2;exact z.elim
 |cont=>obtain⟨_,_,_,z⟩:=q2;exact z.elim
 |next=>
  obtain⟨σ2,H2,I2,e2,f2⟩:=q2;subst e2;subst f2;refine pv (aZ (YE (X:=gJ (bR P w base) P w K mg base Nm qual (aX st) f cdv A outer s H2 E) (G:=G) (N:=Nl) (me:=me) (ncl:=ncl) (NE:=NE) (k:=k) (D:={ nx:=xF G (λ_ _ _=>False) mb D,rt:=λ_ _=>False })
   hK rfl rfl S.nd h0 h1 h2 (λ_=>rfl) l0 l1 l2 d0 c0 d2 c2 dn (hsw _ _) (hsw2 _ _) hg hm hx1 hx2 hx3 hsub LS hb Br hr I2 hset L Bz sm ?_) λfl3 s3 q3=>?_)
  ·cases qm:me (ds.map some) h with
   |bad=>rw[qm]at o;exact o
   |ok d hh=>rw[qm]at o;intro μ' H' x' s';refine⟨μ',pL Nm.length .non,hh,KZ (v:=.non) (by rw[kz];exact hσl) (by omega) (df (by omega)) rfl,s', ?_⟩;rw[eD];exact KY o x'
   |ex c hh=>
    rw[qm]at o;unfold uC at o;dsimp only at o
    split at o
    ·rename_i hc;refine⟨hc,λμ' H' a x' s' r'=>?_⟩;refine⟨μ',pL Nm.length (.exc c),hh,KZ (v:=.ref a) (by simp only[kz];exact hσl) (by omega) ?_ r',s', ?_⟩
     ·rw[du (by decide),df (by simp only[kz];omega)]
     ·rw[eD];exact KY o x'
    ·exact o.elim
  ·cases fl3 with
   |ret u=>obtain⟨_,_,_,_,_,z⟩:=q3;exact z.elim
   |brk=>obtain⟨_,_,_,z⟩:=q3;exact z.elim
   |cont=>obtain⟨_,_,_,z⟩:=q3;exact z.elim
   |next=>obtain⟨σ3,H3,I3,q3⟩:=q3;exact Ea cdv A outer s H2 E _ gd hK pins s3 σ3 H3 D I3 q3
end
theorem YG:∀(l:List af) (a b:Int) (t u:Tok) (c:af),vp l->vp (l++[.int a t,.int b u,c]):=by
 intro l a b t u c h
 fun_induction vp l with
 |case1=>trivial
 |case2 x t y u z rest ih=>exact ih h
 |case3 l h1 h2=>exact h.elim
theorem YH {pos:Pos}{cv c:af}{a b:Int}{t u:Tok}:∀(l:List af),vp l->codeAmong pos (l++[.int a t,.int b u,c])=some cv->codeAmong pos l=some cv∨cv=c:=by
 intro l h
 fun_induction vp l with
 |case1=>
  intro e;simp only[xa,codeAmong]at e
  split at e
  ·cases e;exact .inr rfl
  ·cases e
 |case2 x t y u z rest ih=>
  intro e;simp only[we,codeAmong]at e ⊢
  split at e
  ·rename_i hc;rw[if_pos hc];exact .inl e
  ·rename_i hc;rw[if_neg hc];exact ih h e
 |case3 l h1 h2=>exact h.elim
def mM (mg:Str->Option af) (base:cu):Prop:=∃bm ob,mg "__builtins__" = some (.ref bm)/\bm≠builtinsNs/\base.get? bm=some ob/\ob.cls=.type "module"/\ob.dict=some builtinsNs/\ob.data=.plain
def K0 (H H':Hp):Prop:=∀a o,(∀ps,o≠.tbl ps)->H a=some o->H' a=some o
section
variable{X:Cx}{G:Cfg}{params:mm}{body:bj}{scope:gu}{lpos:Pos}{c P:ah}
theorem YI (Et:defaultsOf params X.env=([],[])) (hq:X.env.qual ++ "<lambda>" = G.lq) (hP:G.tab=some P) (Dp:X.env.code=.ref c) (hC:lx X.base c P) (hB:mM X.mg X.base)
  (hfree:∀x,(x,bz)∈scope.names->X.env.kindOf x=some .cell∨X.env.kindOf x=some .free):
  PE X (.Lambda params body scope lpos) (λσ H Q=>Dg G H/\∀f c' pm ctv oc H1,H f=none->K0 H H1->Dg G H1->H1 f=some (.frz (km "<lambda>" G.lq params body scope (dJ X.env scope.names []) pm c' ctv) (.own 0))->H1 c'=some (.frz oc (.own 0))->wZ G.lq oc->Q (.ref f) H1):=by
 intro pins s σ H Q I ⟨hT,h⟩;obtain⟨ps,t1,t2,t3⟩:=hT P hP;have gP:s.heap.get? P=some (ue ps):=I.hok P _ t1;have El:closureFor scope X.env=pure (dJ X.env scope.names []):=A7 λx hx=>I.ok.has x (hfree x hx);have hgs:s.heap.Ns dg X.mg:=I.mod.glob.keeps I.bk;obtain⟨bm,ob,b1,b2,b3,b4,b5,b6⟩:=hB;have b3':=I.bk _ _ b3;have hgP:dg≠P:=λq=>by obtain⟨o,es,ep,e,hd,_⟩:=hgs;rw[q,gP]at e;cases e;cases hd
 have hbP:bm≠P:=λq=>by rw[q,gP]at b3';cases b3';cases b4
 have hbG:bm≠dg:=λq=>by obtain⟨o,es,ep,e,hd,_⟩:=hgs;rw[<-q,b3']at e;cases e;rw[hd]at b6;cases b6
 have hba:s.heap.BuiltinsAt X.mg P:=⟨bm,ob,b1,b2,hbG,hbP,b3',b4,b5,b6⟩
 refine PySem.W.kla_eval Et ?_;rw[hq]
 cases hc:codeAmong lpos ps.toList with
 |some cv=>obtain⟨c',oc,ec,h2,h3⟩:=t3 lpos cv hc;subst ec;refine PySem.W.kla_makeFunctionHit (mg:=X.mg) El I.ok.glob hgs Dp (hC.keeps I.bk) gP t2 hc hba λctv h' tk hk Cd=>?_;have hn:H h'.objs.size=none:=I.hok.fresh Cd;have kk:∀b u,s.heap.get? b=some u->(h'.push { cls:=.type "function",data:=.func (pz "<lambda>" G.lq params body scope (dJ X.env scope.names []) ((X.mg "__name__").getD .none) (.ref c') ctv) }).get? b=some u:=λb u q=>ak _ (hk b u q);have gf:=bf h' (o:=km "<lambda>" G.lq params body scope (dJ X.env scope.names []) ((X.mg "__name__").getD .none) c' ctv) rfl;have I1:=I.laid (a:=h'.objs.size) (o:=.frz (km "<lambda>" G.lq params body scope (dJ X.env scope.names []) ((X.mg "__name__").getD .none) c' ctv) (.own 0)) (t':=tk) kk Cd ⟨gf,_,gf⟩;have sm:Cj H (aU H h'.objs.size (.frz (km "<lambda>" G.lq params body scope (dJ X.env scope.names []) ((X.mg "__name__").getD .none) c' ctv) (.own 0))):=dH hn;exact⟨.ref h'.objs.size,_,I1,rfl,h _ c' _ ctv oc _ hn (λa o _ q=>sm a o q) (hT.keep λa o _ _ q=>sm a o q) dF (sm _ _ h2) h3⟩
 |none=>
  refine PySem.W.kla_makeFunction (mg:=X.mg) El I.ok.glob hgs Dp (hC.keeps I.bk) gP t2 hc hgP hba λc' ctv h' tk hx hge hlt hrec htb=>?_;obtain⟨c₂,oc,vs,t,e2,hoc,hd,hv⟩:=hrec;cases e2;generalize hfo:km "<lambda>" G.lq params body scope (dJ X.env scope.names []) ((X.mg "__name__").getD .none) c' ctv=fo;have nfo:fo.isFreed=false:=by rw[<-hfo];rfl
  have gf:(h'.push fo).get? h'.objs.size=some fo:=bf h' nfo;have goc:(h'.push fo).get? c'=some oc:=ak _ hoc;have gP':=ak fo htb;generalize hps:ps++#[rawInt lpos.line,rawInt lpos.col,.ref c']=Bq at gP';have lP:P<s.heap.objs.size:=au gP;have kk:∀b u,b≠P->s.heap.get? b=some u->(h'.push fo).get? b=some u:=λb u hb q=>ak _ (hx b u hb q);have lt0:∀b u,s.heap.get? b=some u->b<s.heap.objs.size:=λb u q=>au q;have nPc:P≠c':=bg (av lP hge);have nPf:P≠h'.objs.size:=bg (av lP (dh hge (gy hlt)));have ncf:c'≠h'.objs.size:=bg hlt;have lH:∀b o,H b=some o->b<s.heap.objs.size:=λb o q=>I.hok.lt q;have H1e:∀b,b≠P->b<s.heap.objs.size->aU (aU (aU H P (.tbl Bq)) c' (.frz oc (.own 0))) h'.objs.size (.frz fo (.own 0)) b=H b:=λb h1 h2=>by rw[bV (bg (av h2 (dh hge (gy hlt)))),bV (bg (av h2 hge)),bV h1]
  have eP:aU (aU (aU H P (.tbl Bq)) c' (.frz oc (.own 0))) h'.objs.size (.frz fo (.own 0)) P=some (.tbl Bq):=by rw[bV nPf,bV nPc,dF]
  have ec:aU (aU (aU H P (.tbl Bq)) c' (.frz oc (.own 0))) h'.objs.size (.frz fo (.own 0)) c'=some (.frz oc (.own 0)):=by rw[bV ncf,dF]
  have ef:aU (aU (aU H P (.tbl Bq)) c' (.frz oc (.own 0))) h'.objs.size (.frz fo (.own 0)) h'.objs.size=some (.frz fo (.own 0)):=dF;have cases1:∀b o,aU (aU (aU H P (.tbl Bq)) c' (.frz oc (.own 0))) h'.objs.size (.frz fo (.own 0)) b=some o->(b=h'.objs.size/\o=.frz fo (.own 0))∨(b=c'/\o=.frz oc (.own 0))∨(b=P/\o=.tbl Bq)∨(b≠P/\H b=some o):=λb o q=>by
   by_cases q1:b=h'.objs.size
   ·subst q1;rw[dF]at q;cases q;exact .inl ⟨rfl,rfl⟩
   rw[bV q1]at q
   by_cases q2:b=c'
   ·subst q2;rw[dF]at q;cases q;exact .inr (.inl ⟨rfl,rfl⟩)
   rw[bV q2]at q
   by_cases q3:b=P
   ·subst q3;rw[dF]at q;cases q;exact .inr (.inr (.inl ⟨rfl,rfl⟩))
   rw[bV q3]at q;exact .inr (.inr (.inr ⟨q3,q⟩))
  generalize aU (aU (aU H P (.tbl Bq)) c' (.frz oc (.own 0))) h'.objs.size (.frz fo (.own 0))=H1 at *;have keepO:∀b o,(∀ps,o≠.tbl ps)->H b=some o->H1 b=some o:=λb o hn q=>by rw[H1e b (λz=>by subst z;rw[t1]at q;cases q;exact hn _ rfl) (lH b o q)];exact q
  have un:Un X.fs [] H H1 s.heap (h'.push fo):=by
   have nP:∀b,H b=none->b≠P:=λb n z=>by subst z;rw[t1]at n;cases n
   refine⟨λb o q n _ _=>kk b o (nP b n) q,λb o q n _ _=>⟨o.slots,kk b o (nP b n) q⟩,λb o q n _=>by rw[H1e b (nP b n) (lt0 b o q)];exact n,λb o q _=>?_,λb xs q=>keepO b _ (λ_ z=>by cases z) q,λb o u q=>keepO b _ (λ_ z=>by cases z) q,λb qs q=>?_⟩
   ·by_cases hb:b=P
    ·subst hb;exact⟨_,gP'⟩
    ·exact⟨_,kk b o hb q⟩
   ·by_cases hb:b=P
    ·subst hb;rw[t1]at q;cases q;exact⟨#[rawInt lpos.line,rawInt lpos.col,.ref c'],by rw[eP,hps]⟩
    ·exact⟨#[],by rw[H1e b hb (lH b _ q),q];simp⟩
  have hok1:Cc X.prog X.w H1 (h'.push fo):=λb o q=>by
   rcases cases1 b o q with⟨rfl,rfl⟩|⟨rfl,rfl⟩|⟨rfl,rfl⟩|⟨hb,q⟩
   ·exact⟨gf,_,gf⟩
   ·exact⟨goc,_,goc⟩
   ·exact gP'
   ·refine(I.hok b o q).stay (λb2 u Em z=>kk b2 u ?_ z) (λb2 z=>keepO b2 _ (λ_ z=>by cases z) z) λb2 xs z=>keepO b2 _ (λ_ z=>by cases z) z
    rcases Em with rfl|Em
    ·exact hb
    ·rintro rfl;rw[t1]at Em;cases Em
  have I1:Inv X pins σ H1 { s with heap:=h'.push fo,toks:=tk }:=I.un un hok1;refine⟨.ref h'.objs.size,H1,I1,rfl,h h'.objs.size c' ((X.mg "__name__").getD .none) ctv oc H1 (I.hok.fresh (dh hge (gy hlt))) keepO ?_ (by rw[hfo];exact ef) ec ⟨vs,t,hd,hv⟩⟩;intro P' eP';rw[hP]at eP';cases eP';have hl:Bq.toList=ps.toList++[rawInt lpos.line,rawInt lpos.col,.ref c']:=by rw[<-hps];simp
  refine⟨Bq,eP,by rw[hl];exact YG _ _ _ _ _ _ t2,λpos cv q=>?_⟩;rw[hl]at q
  rcases YH _ t2 q with q|q
  ·obtain⟨a,oa,z1,z2,z3⟩:=t3 pos cv q;exact⟨a,oa,z1,keepO a _ (λ_ z=>by cases z) z2,z3⟩
  ·exact⟨c',oc,q,ec,vs,t,hd,hv⟩
end
def nZ:Ai->Ev->Option Al 
 | [],_=>some []
 |i::r,ρ=>match ρ[i]? with
  |some (some d)=>(match nZ r ρ with
   |some ds=>some (d::ds)
   |none=>none)
  |_=>none
theorem K2 {ρ:Ev}:∀{caps:Ai}{ds:Al},nZ caps ρ=some ds->ds.length=caps.length/\∀(i:Nat) (d:Dv),ds[i]?=some d->∃j,caps[i]?=some j/\ρ[j]?=some (some d)
 | [],ds,e=>by unfold nZ at e;cases e;exact⟨rfl,λi d e=>by simp at e⟩
 |j::r,ds,e=>by
  unfold nZ at e
  split at e
  ·rename_i d0 h0
   split at e
   ·rename_i ds0 h1;cases e;obtain⟨l,k⟩:=K2 h1;refine⟨by simp[l],λi d q=>?_⟩
    cases i with
    |zero=>simp at q;subst q;exact⟨j,rfl,h0⟩
    |succ i=>exact k i d (by simpa using q)
   ·cases e
  ·cases e
def mO (caps:Ai) (n ncl:Nat) (mb:MS) (me:M Dv):M Dv:=λρ h=>match nZ caps ρ with
 |some ds=>uC n ncl mb (me (ds.map some) h)
 |none=>.bad
def jU (base h:cu) (cs:List ah):cu:=PySem.W.hideAll h ((bp h.objs.size).filter λb=>!((base.get? b).isSome||cs.contains b))
theorem CC {base h:cu}{cs:List ah}{b:ah}{o:Obj}(e:h.get? b=some o) (hb:(∃u,base.get? b=some u)∨b∈cs):(jU base h cs).get? b=some o:=
 yr _ e λz=>by
  have:=(gb.mp z).2
  rcases hb with⟨u,hb⟩|hb
  ·simp[hb]at this
  ·simp[hb]at this
theorem K4 {base h:cu}{cs:List ah}{b:ah}{o:Obj}(e:(jU base h cs).get? b=some o):h.get? b=some o/\((∃u,base.get? b=some u)∨b∈cs):=by
 have e1:=zb _ e;refine⟨e1, ?_⟩
 by_cases hb:(∃u,base.get? b=some u)∨b∈cs
 ·exact hb
 ·exfalso
  have hm:b∈(bp h.objs.size).filter λb=>!((base.get? b).isSome||cs.contains b):=by
   refine gb.mpr ⟨br.mpr (au e1), ?_⟩
   cases q:base.get? b with
   |some u=>exact absurd (.inl ⟨u,q⟩) hb
   |none=>have:b∉cs:=λz=>hb (.inr z);simp[this]
  have:=yp (h:=h) _ hm;unfold jU at e;rw[this]at e;cases e
theorem Out.ext {α β:Type}{G:Cfg}{E:XK}{μ μ1:Nat->ah}{n n1:Nat}{H H1:Hp}{r:Rs α}{R:(Nat->ah)->Nat->Hp->α->β->Prop}{Q:β->Hp->Prop}(o:Out G E μ n H r R Q) (x:Ext μ n H μ1 n1 H1):Out G E μ1 n1 H1 r R Q:=by
 cases r with
 |bad=>exact o
 |ex c h'=>exact λμ' H' u y=>o μ' H' u (x.trans y)
 |ok d h'=>exact λμ' H' u y=>o μ' H' u (x.trans y)
theorem K9 {env:Env}{scope:gu}{x:Str}{c:ah}(hf:∀x,(x,bz)∈scope.names->∃c,env.cells.lookup x=some c) (e:(dJ env scope.names []).lookup x=some c):(x,bz)∈scope.names/\env.cells.lookup x=some c:=by
 rcases wU _ _ e with q|⟨q1,q2⟩
 ·cases q
 ·obtain⟨c',h'⟩:=hf x q1;rw[h']at q2;subst q2;exact⟨q1,h'⟩
section
variable{k:Nat}{q x:Str}{p pos lpos:Pos}{params:mm}{body:bj}{scope:gu}{c P fr:ah}{fdr:bo}{Nl:Aj}{me:M Dv}{n ncl j:Nat}{mb:MS}{caps:Ai}
theorem YJ (g:Good X G E k) (hj:j<=k) (hfn:∀y,X.fn y=true)
  (F:∀base,X.K.In base->base.Ns dg X.mg->Bd X.prog X.w X.K X.mg base (bR X.prog X.w base) j fr fdr [x] (xR G base Nl params body scope me n ncl mb))
  (hg:Gl X q) (hm:X.mg q=some (.ref fr)) (hk:lj X.K (.ref fr)=true) (hb:Binds X.K fdr [x] [])
  (Et:defaultsOf params X.env=([],[])) (hq:X.env.qual ++ "<lambda>" = G.lq) (hP:G.tab=some P) (Dp:X.env.code=.ref c) (hC:lx X.base c P) (hB:mM X.mg X.base)
  (LS:Bu Nl scope) (Dn:∀y∈Nl,X.env.scope.names.lookup y=some .cell) (El:caps.length=Nl.length) (hcap:∀(i j:Nat) (y:Str),caps[i]?=some j->Nl[i]?=some y->X.N[j]?=some y)
  (Du:(q==Gd)=false) (he:ar [.Lambda params body scope lpos] X.env=[(false,eval (.Lambda params body scope lpos) X.env)]:=by rfl):
  aJ X G E (.Call (.Name q p) [.Lambda params body scope lpos] [] pos) (mO caps n ncl mb me):=by
 intro hK pins s σ H Q I ⟨μ,ρ,h,rs,sm,o⟩;unfold mO at o
 cases hcd:nZ caps ρ with
 |none=>rw[hcd]at o;exact o.elim
 |some ds=>
 rw[hcd]at o;obtain⟨hdl,hdg⟩:=K2 hcd;have hfree:∀y,(y,bz)∈scope.names->X.env.kindOf y=some .cell∨X.env.kindOf y=some .free:=λy hy=>.inl (Dn y (LS.all _ hy rfl));have hfc:∀y,(y,bz)∈scope.names->∃c,X.env.cells.lookup y=some c:=λy hy=>I.ok.has y (hfree y hy);refine oi (sX I hg hm ?_ Du);refine ze (h₀:=X.base) I.ok.mod.kin hk (aZ (iI (YI (G:=G) (lpos:=lpos) (body:=body) Et hq hP Dp hC hB hfree) jM he pos pins s σ H
  (λvs H1=>∃f c' pm ctv oc,vs=[.ref f]/\K0 H H1/\Dg G H1/\H1 f=some (.frz (km "<lambda>" G.lq params body scope (dJ X.env scope.names []) pm c' ctv) (.own 0))/\H1 c'=some (.frz oc (.own 0))/\wZ G.lq oc) I
  ⟨sm.tab,λf c' pm ctv oc H1 _ st tb e1 e2 e3=>⟨f,c',pm,ctv,oc,rfl,st,tb,e1,e2,e3⟩⟩) λus s1 ⟨vs,H1,I1,r,f,c',pm,ctv,oc,ev,st,tb,e1,e2,e3⟩=>⟨I1.kIn, ?_⟩) he rfl
 subst ev;generalize hcs:dJ X.env scope.names []=cl at *;have kb:∀b u,X.base.get? b=some u->(jU X.base s1.heap (cl.map (·.2))).get? b=some u:=λb u e=>CC (I1.bk _ _ e) (.inl ⟨u,e⟩);have clc:∀y cc,(y,cc)∈cl->cl.lookup y=some cc->X.env.cells.lookup y=some cc:=λy cc _ e=>(K9 hfc (by rw[hcs];exact e)).2;have memc:∀b,b∈cl.map (·.2)->∃y,X.env.cells.lookup y=some b:=λb hb=>by
  obtain⟨⟨y,cc⟩,hm1,rfl⟩:=cf.mp hb;have:∀(l:List (Str×kr)) (acc:List (Str×ah)),(∀y cc,(y,cc)∈acc->X.env.cells.lookup y=some cc)->(∀y,(y,bz)∈l->∃c,X.env.cells.lookup y=some c)->∀y cc,(y,cc)∈dJ X.env l acc->X.env.cells.lookup y=some cc:=by
   intro l
   induction l with
   |nil=>exact λacc h1 _=>h1
   |cons a l ih=>
    obtain⟨y0,k0⟩:=a;intro acc h1 h2;rw[dJ];refine ih _ (λy cc hm2=>?_) λy hy=>h2 y (ao _ hy)
    cases hk0:k0==bz with
    |true=>
     rw[hk0,if_pos rfl]at hm2
     rcases ba.mp hm2 with z|z
     ·cases z;have ek:k0=.free:=by cases k0 <;> first|rfl|cases hk0
      subst ek;obtain⟨c3,h3⟩:=h2 y0 (ay ..);rw[h3];rfl
     ·exact h1 _ _ z
    |false=>rw[hk0,if_neg (by simp)]at hm2;exact h1 _ _ hm2
  exact⟨y,this scope.names [] (λ_ _ z=>by cases z) hfc y cc (by rw[hcs];exact hm1)⟩
 have M0:=I1.ok.mod;have nsk:∀{a:ah}{m:Str->Option af},X.base.Ns a m->(jU X.base s1.heap (cl.map (·.2))).Ns a m:=λhn=>hn.keeps kb;have hM:Mod X.K X.mg (jU X.base s1.heap (cl.map (·.2))):=⟨M0.kin.keeps kb,nsk M0.glob,(let ⟨mb,a,b⟩:=M0.blt;⟨mb,nsk a,b⟩),M0.nolimit.keeps kb⟩
 have hbs:∀b u,(jU X.base s1.heap (cl.map (·.2))).get? b=some u->s1.heap.get? b=some u/\H1 b=none:=λb u e=>by
  obtain⟨g1,g2⟩:=K4 e;refine⟨g1, ?_⟩
  rcases g2 with⟨u',g2⟩|g2
  ·exact(I1.bs _ _ g2).2
  ·obtain⟨y,hy⟩:=memc b g2;exact I1.freeC y b hy
 have nbf:∀b∈dY X.stack,(jU X.base s1.heap (cl.map (·.2))).get? b=none:=λb hb=>by
  cases qq:(jU X.base s1.heap (cl.map (·.2))).get? b with
  |none=>rfl
  |some u=>
   exfalso
   obtain⟨g1,g2⟩:=K4 qq
   rcases g2 with⟨u',g2⟩|g2
   ·have:=(I1.stack.mem hb).1;rw[this]at g2;cases g2
   ·obtain⟨y,hy⟩:=memc b g2
    rcases ba.mp (I1.stkSub b hb)with z|z
    ·exact I1.cne y b hy z
    ·obtain⟨v0,ob,ho1,hd1⟩:=I1.cell y b hy;have fm:∀z∈X.fs,z<X.s₀.heap.objs.size:=λz hz=>by obtain⟨_,o2,h2,_⟩:=I1.ok.funs.mem hz;exact au h2
     exact absurd (av (fm b z) (I1.ok.cab y b (hfn y) hy)) (gv _)
 have hfun:s1.heap.FunFrames (jU X.base s1.heap (cl.map (·.2))) X.stack:=by
  have all:∀(l:List Env),(∀b∈dY l,b∈dY X.stack)->s1.heap.FunFrames X.base l->s1.heap.FunFrames (jU X.base s1.heap (cl.map (·.2))) l:=by
   intro l
   induction l with
   |nil=>intro _ _;trivial
   |cons env r ih=>
    intro hs hl;obtain⟨Dy,⟨L,o',hf',hn',Dm,Cs⟩,hr'⟩:=hl;have hL:L∈dY (env::r):=by unfold dY;rw[bw,hf'];exact ay
    exact⟨Dy,⟨L,o',hf',nbf L (hs L hL),Dm,Cs⟩,ih (λb hb=>hs b (by unfold dY;rw[bw,hf'];exact ao _ hb)) hr'⟩
  exact all X.stack (λ_ hb=>hb) I1.stack
 have e0:Fb X.prog X.w X.K X.mg (jU X.base s1.heap (cl.map (·.2))) X.A X.stack s1 H1:=⟨I1.ok.frames,hM,hbs,qg (yo _ _),hfun,I1.stkFree,I1.hok,I1.bare⟩
 have xt:Ext μ h.length H μ h.length H1:=⟨aj _,λ_ _=>rfl,λa u im z=>st a u (λps w=>by subst w;exact im) z⟩
 have sm1:Bh G μ h H1:=⟨sm.inj,λi ob z=>by
  have r0:=sm.ob i ob z
  cases ob with
  |lst xs=>obtain⟨vs,z1,z2⟩:=r0;exact⟨vs,st _ _ (λ_ w=>by cases w) z1,Ff xt _ _ z2⟩
  |clo k t=>exact r0.clo xt,tb⟩
 have look:∀y cc,cl.lookup y=some cc->(y,bz)∈scope.names/\X.env.cells.lookup y=some cc:=λy cc e=>K9 hfc (by rw[hcs];exact e);have memL:∀y cc,cl.lookup y=some cc->cc∈cl.map (·.2):=λy cc e=>cf.mpr ⟨(y,cc),fh e,rfl⟩;have L:Ei G (jU X.base s1.heap (cl.map (·.2))) H1 μ h.length Nl params body scope f c' cl ds:=by
  refine⟨⟨pm,ctv,e1⟩,⟨oc,e2,e3⟩,λy z cc a b=>I1.ok.inj y z cc (look y cc a).2 (look z cc b).2,hdl.trans El,λi y hy=>?_,λy cc e=>?_,λi y cc d hy hd e=>?_⟩
  ·have hf1:=LS.fr y (cn hy);have:=tF (env:=X.env) (x:=y) scope.names [] (.inl (fh hf1));rw[hcs]at this;exact⟨_,this⟩
  ·obtain⟨v0,ob,ho1,hd1⟩:=I1.cell y cc (look y cc e).2;exact⟨ob,v0,CC ho1 (.inr (memL y cc e)),hd1⟩
  ·obtain⟨jj,hjj,hρ⟩:=hdg i d hd;obtain⟨v,hv,rd⟩:=rs.at_ jj d hρ;have hNj:=hcap i jj y hjj hy;have hyk:=Dn y (cn hy);obtain⟨m,hn,hl⟩:=I1.loc;obtain⟨u,ru,lk⟩:=hl jj y v hNj hv (.inr (.inl hyk))
   rcases lk with⟨kl,_⟩|⟨_,c4,ec4,ob,ho1,hd1⟩
   ·have kl':X.env.scope.names.lookup y=some .local:=kl;rw[hyk]at kl';cases kl'
   ·rw[(look y cc e).2]at ec4;cases ec4;exact⟨ob,u,v,CC ho1 (.inr (memL y cc e)),hd1,ru,Fp xt _ _ rd⟩
 have Bz:∀y cc,cl.lookup y=some cc->y∈Nl:=λy cc e=>LS.all _ (look y cc e).1 rfl;have hlen:(us++([]:List af)).length=[x].length:=by rw[ku,<-r.length];rfl
 have hbt:=hb s1 us I1.kIn hlen;rw[ku]at hbt;refine zd (oz ((F _ hM.kin hM.glob).run X.A X.stack s1 H1 ⟨us,[]⟩ us [.ref f] Q E (g.room.mono hj) e0 hbt r ⟨f,c',cl,ds,μ,h,rfl,L,Bz,sm1,o.ext xt⟩) λrr s' hq'=>?_)
 cases rr with
 |ok fl=>
  cases fl with
  |ret u=>exact I1.after hq'
  |next=>exact gz hq'
  |brk=>exact gz hq'
  |cont=>exact gz hq'
 |error ev=>
  obtain⟨e,C,H',eu,os,bare,un,hok,fl,hE⟩:=hq';refine g.pas pins σ H1 s1 ev s' I1 ⟨e,C,H',eu,os,bare,un,hok, ?_,hE⟩;obtain⟨T,a0,w1,w2,w3,w4⟩:=fl;refine⟨T,a0,w1,w2, ?_,w4⟩
  cases qq:X.base.get? e with
  |none=>rfl
  |some u=>have:=kb e u qq;rw[w3]at this;cases this
end
section
variable{X:Cx}{G:Cfg}
open Classical in
def eX (H:Hp) (tx:Dt) (u:af):Bool:=decide (∃v t,RelV v u/\Den kG H t v/\bI t tx=true)
open Classical in
theorem LA {H:Hp}{tx t:Dt}{u:af}{v:V}(r:RelV v u) (d:Den kG H t v):eX H tx u=bI t tx:=by
 unfold eX
 cases q:bI t tx with
 |true=>exact decide_eq_true ⟨v,t,r,d,q⟩
 |false=>refine decide_eq_false λ⟨v',t',r',d',q'⟩=>?_;have e:=r'.inj r;subst e;rw[Den.inj t' t v' d' d,q]at q';cases q'
theorem uD {H:Hp}{tx:Dt}:∀{ts:List Dt}{vs:Ge}{us:List af},Be kG H ts vs->Az vs us->us.any (eX H tx)=ts.any λt=>bI t tx
 | [],_,_,d,r=>by rw[Be]at d;subst d;cases r;rfl
 |t::ts,_,_,d,r=>by
  rw[Be]at d;obtain⟨v,rr,rfl,d1,d2⟩:=d
  cases r with
  |cons r1 r2=>rw[List.any_cons,List.any_cons,LA r1 d1,uD d2 r2]
def xS (K:aq) (neg:Bool):R2:=λx y H Q=>∃a vs ts tx,y=.ref a/\(Bs K H a vs∨Bk K H a vs)/\Be kG H ts vs/\Den kG H tx x/\(∀t∈ts,eW t<=bY/\nod t=true)/\nod tx=true/\Q (.bl (if neg then !(ts.any λt=>bI t tx)else ts.any λt=>bI t tx)) H
theorem xT {pins:List (ah×Obj)}{σ:St}{H:Hp}{s:ag}{x:V}{v:af}{vs:Ge}{its:List af}{ts:List Dt}{tx:Dt}(hu:X.A.units+64<cLine) (I:Inv X pins σ H s) (rx:RelV x v) (r:Az vs its) (d:Be kG H ts vs) (dx:Den kG H tx x)
  (ht:∀t∈ts,eW t<=bY/\nod t=true) (nx:nod tx=true):∀y,y∈its.toArray->kj X.A.in1 s y v (eX H tx y):=λy hy=>by
 have hy':y∈its:=by simpa using hy
 obtain⟨j,hj,e⟩:=jf.mp hy';have hl:=r.length;obtain⟨u,eu,ru⟩:=r.get (i:=j) (x:=vs[j]'(by omega)) (aw (by omega));have:u=y:=by rw[aw hj,e]at eu;cases eu;rfl
 subst this;obtain⟨t,et,dt⟩:=d.get (i:=j) (aw (by omega:j<vs.length));obtain⟨h1,h2⟩:=ht t (cn et);rw[LA ru dt];exact(I0 I.hok bY X.A.in1 t tx _ x _ v h1 (by show X.A.units+1+bY+1<cLine;unfold bY;omega) h2 nx dt dx ru rx).2
theorem LB (hu:X.A.units+64<cLine):Bp X (compareOp .In) (xS X.K false):=by
 intro pins s σ H x y v u Q I r1 r2 ⟨a,vs,ts,tx,e,hs,d,dx,ht,nx,q⟩;subst e;cases r2
 rcases hs with hs|hs
 ·obtain⟨its,r,pl,hz⟩:=I.list hs;refine SeqAt.in_listAt (eX H tx) pl.isList (xT hu I r1 r d dx ht nx) ?_;exact⟨.bl _,H,I,by rw[show its.toArray.any (eX H tx)=its.any (eX H tx)by simp,uD d r];rfl,q⟩
 ·obtain⟨its,r,pl,hz⟩:=I.tuple hs;refine SeqAt.in_tupleAt (eX H tx) pl (xT hu I r1 r d dx ht nx) ?_;exact⟨.bl _,H,I,by rw[show its.toArray.any (eX H tx)=its.any (eX H tx)by simp,uD d r];rfl,q⟩
theorem LC (hu:X.A.units+64<cLine):Bp X (compareOp .NotIn) (xS X.K true):=by
 intro pins s σ H x y v u Q I r1 r2 ⟨a,vs,ts,tx,e,hs,d,dx,ht,nx,q⟩;subst e;cases r2
 rcases hs with hs|hs
 ·obtain⟨its,r,pl,hz⟩:=I.list hs;refine SeqAt.notIn_listAt (eX H tx) pl.isList (xT hu I r1 r d dx ht nx) ?_;exact⟨.bl _,H,I,by rw[show its.toArray.any (eX H tx)=its.any (eX H tx)by simp,uD d r];rfl,q⟩
 ·obtain⟨its,r,pl,hz⟩:=I.tuple hs;refine SeqAt.notIn_tupleAt (eX H tx) pl (xT hu I r1 r d dx ht nx) ?_;exact⟨.bl _,H,I,by rw[show its.toArray.any (eX H tx)=its.any (eX H tx)by simp,uD d r];rfl,q⟩
def kK (scr:Ah) (neg:Bool) (x c:Dv) (h:Hs):Rs Dv:=match fV scr c h with
 |some ys=>match bF (bQ bY h) ys,bQ bY h x with
  |some ts,some tx=>.ok (.bl (if neg then !(ts.any λt=>bI t tx)else ts.any λt=>bI t tx)) h
  |_,_=>.bad
 |none=>.bad
theorem LD {μ:Nat->ah}{h:Hs}{H:Hp}(s:Bh G μ h H):∀{xs:Al}{vs:Ge}{ts:List Dt},RelDL G μ h.length H xs vs->bF (bQ bY h) xs=some ts->Be kG H ts vs/\∀t∈ts,eW t<=bY/\nod t=true
 | [],_,_,r,e=>by cases e;rw[RelDL]at r;subst r;exact⟨Be.nil,λt ht=>by simp at ht⟩
 |x::xs,_,_,r,e=>by
  rw[RelDL]at r;obtain⟨v,rr,rfl,r1,r2⟩:=r;unfold bF at e
  cases q:bQ bY h x with
  |none=>rw[q]at e;cases e
  |some y=>
   rw[q]at e;dsimp only at e
   cases q2:bF (bQ bY h) xs with
   |none=>rw[q2]at e;cases e
   |some ys=>
    rw[q2]at e;cases e;obtain⟨a1,a2,a3⟩:=rH s _ x v y r1 q;obtain⟨b1,b2⟩:=LD s r2 q2;refine⟨Be.cons a1 b1,λt ht=>?_⟩
    rcases ba.mp ht with rfl|ht
    ·exact⟨a2,a3⟩
    ·exact b2 t ht
theorem YK (neg:Bool):fO G (xS G.K neg) (kK G.scr neg):=by
 intro E μ h H x y vx vy Q s rx ry o;unfold kK at o
 cases q:fV G.scr y h with
 |none=>rw[q]at o;exact o.elim
 |some ys=>
  rw[q]at o;dsimp only at o
  split at o
  ·rename_i ts tx e1 e2;obtain⟨a,vs,rfl,hs,r⟩:=BM s ry q;obtain⟨b1,b2⟩:=LD s r e1;obtain⟨c1,c2,c3⟩:=rH s _ x vx tx rx e2;exact⟨a,vs,ts,tx,rfl,hs,b1,c1,b2,c3,o.val s rfl⟩
  ·exact o.elim
end
section
variable{X:Cx}{G:Cfg}
theorem LF {M:xc}{A:bu}{E:af->ag->Prop}{s:ag}{x:V}{u:af}{b:Bool}{Q:Bool->ag->Prop}(r:RelV x u) (q:Q (decide (x=.bl b)) s):wpAny M A (isSame u (.bool b)) Q E s:=by
 cases x with
 |non=>cases r;exact ai q
 |bl c=>
  cases r;refine ai ?_;have:decide (V.bl c=V.bl b)=(ux c==ux b):=by cases c <;> cases b <;> rfl
  rw[this]at q;exact q
 |int i=>obtain⟨t,rfl⟩:=r;exact ai q
 |str i=>obtain⟨t,rfl⟩:=r;exact ai q
 |byt i=>obtain⟨t,rfl⟩:=r;exact ai q
 |flt i=>obtain⟨t,rfl⟩:=r;exact ai q
 |ref a=>cases r;exact ai q
 |ty n=>cases r;exact ai q
def CD (neg:Bool):R2:=λx y H Q=>∃b,y=.bl b/\Q (.bl (if neg then !decide (x=.bl b)else decide (x=.bl b))) H
theorem YL:Bp X (compareOp .Is) (CD false):=by intro pins s σ H x y v u Q I rx ry ⟨b,e,q⟩;subst e;cases ry;exact aa (LF rx (ai ⟨.bl _,H,I,rfl,q⟩))
theorem YM:Bp X (compareOp .IsNot) (CD true):=by intro pins s σ H x y v u Q I rx ry ⟨b,e,q⟩;subst e;cases ry;exact aa (LF rx (ai ⟨.bl _,H,I,rfl,q⟩))
def xU:Dv->Dv->Option Bool
 | .non,.non=>some true
 |_,.non=>some false
 | .bl a,.bl b=>some (a==b)
 |_,.bl _=>some false
 |_,_=>none
def fW (neg:Bool) (x y:Dv) (h:Hs):Rs Dv:=match xU x y with
 |some b=>.ok (.bl (if neg then !b else b)) h
 |none=>.bad
def CF (neg:Bool):R2:=λx y H Q=>(y=.non/\Q (.bl (if neg then !decide (x=.non)else decide (x=.non))) H)∨CD neg x y H Q
theorem LG:Bp X (compareOp .Is) (CF false):=Bp.or TJ YL
theorem YN:Bp X (compareOp .IsNot) (CF true):=Bp.or TL YM
theorem YO {μ:Nat->ah}{n:Nat}{H:Hp}{x:Dv}{v:V}{b:Bool}(r:Ax G μ n H x v) (e:xU x .non=some b):decide (v=.non)=b:=by
 cases x with
 |non=>cases e;rw[Ax]at r;subst r;rfl
 |bl c=>cases e;rw[Ax]at r;subst r;rfl
 |int c=>cases e;rw[Ax]at r;subst r;rfl
 |str c=>cases e;rw[Ax]at r;subst r;rfl
 |tup c=>cases e;obtain⟨a,vs,rfl,_⟩:=r;rfl
 |ref c=>cases e;obtain⟨_,rfl⟩:=r;rfl
 |edc=>cases e;obtain⟨a,rfl,_⟩:=r;rfl
 |exc c=>cases e;obtain⟨a,o,u,rfl,_⟩:=r;rfl
 |scr=>cases e;obtain⟨rfl,_⟩:=r;rfl
theorem YQ {μ:Nat->ah}{n:Nat}{H:Hp}{x:Dv}{v:V}{b c:Bool}(r:Ax G μ n H x v) (e:xU x (.bl c)=some b):decide (v=.bl c)=b:=by
 cases x with
 |non=>cases e;rw[Ax]at r;subst r;rfl
 |bl d=>cases e;rw[Ax]at r;subst r;cases c <;> cases d <;> rfl
 |int c=>cases e;rw[Ax]at r;subst r;rfl
 |str c=>cases e;rw[Ax]at r;subst r;rfl
 |tup c=>cases e;obtain⟨a,vs,rfl,_⟩:=r;rfl
 |ref c=>cases e;obtain⟨_,rfl⟩:=r;rfl
 |edc=>cases e;obtain⟨a,rfl,_⟩:=r;rfl
 |exc c=>cases e;obtain⟨a,o,u,rfl,_⟩:=r;rfl
 |scr=>cases e;obtain⟨rfl,_⟩:=r;rfl
theorem CG (neg:Bool):fO G (CF neg) (fW neg):=by
 intro E μ h H x y vx vy Q s rx ry o;unfold fW at o
 cases q:xU x y with
 |none=>rw[q]at o;exact o.elim
 |some b=>
  rw[q]at o
  cases y with
  |non=>rw[Ax]at ry;exact .inl ⟨ry,by rw[YO rx q];exact o.val s rfl⟩
  |bl c=>rw[Ax]at ry;exact .inr ⟨c,ry,by rw[YQ rx q];exact o.val s rfl⟩
  |_=>cases x <;> cases q
end
def iV (c:M Bool) (body:MS):Nat->MS
 |0=>λ_ _=>.bad
 |f+1=>λρ h=>(c ρ h).thenS λb h1=>if b=true then(match body ρ h1 with
  | .nx ρ2 h2=>iV c body f ρ2 h2
  | .ct ρ2 h2=>iV c body f ρ2 h2
  | .bk ρ2 h2=>.nx ρ2 h2
  |r=>r)else .nx ρ h1
section
variable{c:bj}{body:List gw}{mc:M Bool}{mb:MS}{pos:Pos}
theorem LH (n:Nat) (hp:ya (model X.prog X.w) X.A X.env X.xe) (hc:fF X G E c mc) (hb:jQ X G E body mb):iU X G E (.While c body [] pos) (iV mc mb n):=λhK=>PS.imp (SH hp (hc hK) (hb hK)) λD σ H ⟨μ,ρ,h,rs,s,o⟩=>by
 refine⟨λm σ H=>∃μ ρ h,Bf G μ h.length H ρ σ/\Bh G μ h H/\Bw G E μ h.length H (iV mc mb m ρ h) D,⟨n,μ,ρ,h,rs,s,o⟩, ?_⟩
 rintro m σ1 H1 ⟨μ1,ρ1,h1,Bm,s1,o1⟩
 cases m with
 |zero=>exact o1.elim
 |succ m=>
  refine JS Bm s1 o1 λμ2 b h2 H2 x2 Dj s2 o2=>?_
  cases b with
  |false=>rw[if_neg (by decide)]at o2 ⊢;exact o2 μ2 H2 σ1 Fq s2 Dj
  |true=>
   rw[if_pos rfl]at o2 ⊢;refine⟨λσ' H'=>∃μ ρ h,Bf G μ h.length H' ρ σ'/\Bh G μ h H'/\Bw G E μ h.length H' (iV mc mb m ρ h) D,λσ' H' z=>⟨m,jt m,z⟩,μ2,ρ1,h2,Dj,s2, ?_⟩
   cases q:mb ρ1 h2 with
   |nx ρ3 h3=>rw[q]at o2;exact λμ4 H4 σ4 x4 s4 pZ=>⟨μ4,ρ3,h3,pZ,s4,Bw.ext o2 x4⟩
   |ct ρ3 h3=>rw[q]at o2;exact λμ4 H4 σ4 x4 s4 pZ=>⟨μ4,ρ3,h3,pZ,s4,Bw.ext o2 x4⟩
   |bk ρ3 h3=>rw[q]at o2;exact o2
   |rt d h3=>rw[q]at o2;exact o2
   |ex d h3=>rw[q]at o2;exact o2
   |bad=>rw[q]at o2;exact o2.elim
end
section
variable{e o:bj}{mo me:M Dv}{pos apos cpos np p2:Pos}{y:Str}
def xV (x i:Dv) (h:Hs):Rs Dv:=match x,i with
 | .ref j,.int n=>match getL h j with
  |some xs=>match fR xs.length n with
   |some k=>match xs[k]? with
    |some d=>if xs.length<=1000000 then .ok d (h.set j (.lst (xs.eraseIdx k)))else .bad
    |none=>.bad
   |none=>.bad
  |none=>.bad
 |_,_=>.bad
theorem LI {μ:Nat->ah}{n:Nat}{H:Hp}:∀{ds:Al}{vs:Ge}(k:Nat),RelDL G μ n H ds vs->RelDL G μ n H (ds.eraseIdx k) (vs.eraseIdx k)
 | [],_,_,h=>by rw[RelDL]at h;subst h;exact Fu
 |d::ds,_,0,h=>by rw[RelDL]at h;obtain⟨v,r,rfl,h1,h2⟩:=h;exact h2
 |d::ds,_,k+1,h=>by rw[RelDL]at h;obtain⟨v,r,rfl,h1,h2⟩:=h;exact Fj h1 (LI k h2)
def uE (mo me:M Dv):M Dv:=λρ h=>(mo ρ h).bind λx h1=>if jH x h1=true then(me ρ h1).bind λd h2=>xV x d h2 else .bad
theorem YR (ho:aJ X G E (.Name y np) mo) (he:aJ X G E e me) (hs:ar [e] X.env=[(false,eval e X.env)]:=by rfl) (hl:(apos.endLine==cpos.line)=true:=by rfl):aJ X G E (.Call (.Attribute (.Name y np) "pop" apos) [e] [] cpos) (uE mo me):=λhK=>
 Fo (A4 rf PySem.F.slot_list_pop PySem.F.type_list_pop VP (ho hK) (iI (he hK) jM hs) rfl (by rw[hs];rfl) hl hs rfl) λσ H Q ⟨μ,ρ,h,rs,s,oo⟩=>fG rs s oo λμ1 x h1 vx H1 x1 Bm s1 r1 o1=>by
  split at o1
  ·rename_i hl;refine⟨CA s1 r1 hl,fG Bm s1 o1 λμ2 d h2 vd H2 x2 Dj s2 r2 o2=>?_⟩
   cases x with
   |ref j=>
    cases d with
    |int n=>
     dsimp only[xV]at o2
     cases q:getL h2 j with
     |none=>rw[q]at o2;exact o2.elim
     |some xs=>
      rw[q]at o2;dsimp only at o2
      cases q2:fR xs.length n with
      |none=>rw[q2]at o2;exact o2.elim
      |some k=>
       rw[q2]at o2;dsimp only at o2
       cases q3:xs[k]? with
       |none=>rw[q3]at o2;exact o2.elim
       |some d'=>
        rw[q3]at o2;dsimp only at o2
        split at o2
        ·rename_i hz;obtain⟨vs,ea,ra⟩:=s2.ob j _ (dO q);obtain⟨_,rfl⟩:=Fp x2 _ _ r1;rw[Ax]at r2;subst r2;obtain⟨v,ev,rv⟩:=ra.get q3;obtain⟨i1,i2,i3,i4⟩:=AZ q2;obtain⟨x3,s3⟩:=s2.write (dO q) (LI k ra);exact⟨_,vs,n,k,v,rfl,rfl,ea,by omega,by omega,by rw[ra.length];exact i1,ev,o2 μ2 _ _ x3 s3 (Fp x3 _ _ rv)⟩
        ·exact o2.elim
    |_=>exact o2.elim
   |_=>exact o2.elim
  ·exact o1.elim
def pM (xs:Al) (lo hi:Option Int):Al:=(xs.drop (HT.sIx xs.length 0 lo)).take (HT.sIx xs.length xs.length hi - HT.sIx xs.length 0 lo)
theorem LJ {μ:Nat->ah}{n:Nat}{H:Hp}{xs:Al}{vs:Ge}(r:RelDL G μ n H xs vs) (lo hi:Option Int):RelDL G μ n H (pM xs lo hi) (oV vs lo hi):=by unfold pM oV;rw[r.length];exact(r.drop _).take _
abbrev MO:=Ev->Hs->Rs (Option Int)
def YS (G:Cfg) (E:XK) (m:MO):TO:=λσ H Q=>∃μ ρ h,Bf G μ h.length H ρ σ/\Bh G μ h H/\Out G E μ h.length H (m ρ h) (λ_ _ _ a b=>b=a) Q
def xW (X:Cx) (G:Cfg) (E:XK) (pe:Option bj) (m:MO):Prop:=X.K=G.K->PO X pe (YS G E m)
theorem PO.imp {pe:Option bj}{t t':TO}(h:PO X pe t) (i:∀σ H Q,t' σ H Q->t σ H Q):PO X pe t':=λpins s σ H Q I q=>h pins s σ H Q I (i σ H Q q)
def uF:MO:=λ_ h=>.ok none h
def LK:Dv->Hs->Rs (Option Int)
 | .int i,h=>.ok (some i) h
 |_,_=>.bad
def uG (m:M Dv):MO:=λρ h=>(m ρ h).bind LK
theorem YT:xW X G E none uF:=λ_=>PO.imp UO λσ H Q ⟨μ,ρ,h,rs,s,oo⟩=>oo.val s rfl
theorem YU (he:aJ X G E e me):xW X G E (some e) (uG me):=λhK=>PO.imp (UP (he hK)) λσ H Q ⟨μ,ρ,h,rs,s,oo⟩=>fG rs s oo λμ1 d h1 v H1 x1 Bm s1 r1 o1=>by
 cases d with
 |int i=>exact⟨i,r1,o1.val s1 rfl⟩
 |_=>exact o1.elim
end
section
variable{pos:Pos}
theorem YV:aJ X G E (.Dict [] [] pos) (mC .edc):=λ_ pins s σ H Q I ⟨μ,ρ,h,rs,sm,o⟩=>by have hb:sysModules<s.heap.objs.size:=Nat.lt_trans (by decide) (I.mod.glob.keeps I.bk).lt;have hn:=I.hok.fresh (aj s.heap.objs.size);refine wpAny_Dict_empty ⟨.ref s.heap.objs.size,_,I.laid (a:=s.heap.objs.size) (o:=.dK []) (t':=s.toks) (λ_ _ q=>ak _ q) (aj _) ⟨jg _,beq_eq_false_iff_ne.mpr (cx (bg hb)),[],.nil,Heap.DictOf.new s.heap⟩,rfl, ?_⟩;exact o μ _ _ (Fg (dH hn)) (sm.same (dH hn)) ⟨_,rfl,dF⟩
theorem LL {x:Str}{i:Int}{t:Tok}(hg:Gl X x) (hm:X.mg x=some (.int i t)) (hd:(x==Gd)=false:=by decide):aJ X G E (.Name x pos) (mC (.int i)):=λ_=>Fo (GY (v:=.int i) hg hm ⟨t,rfl⟩ hd) λσ H Q ⟨μ,ρ,h,rs,s,o⟩=>o.val s (show Ax G μ _ H (.int i) (.int i) from rfl)
def lJ:Dv->Hs->Rs Dv
 | .int i,h=>.ok (.int (-i)) h
 |_,_=>.bad
theorem YW:mE G (rU λi=>.int (-i)) lJ:=by
 intro E μ h H x vx Q s r o
 cases x with
 |int i=>rw[Ax]at r;subst r;exact⟨i,rfl,o.val s rfl⟩
 |_=>exact o.elim
end
section
variable{tg a b c:bj}{p pos:Pos}{ms:M Al }
end
structure Lawful (lp:bh) (w:cm) (K:aq) (mg:Str->Option af) (base:cu) (k:Nat) (fa:ah) (fd:bo) (x:Str) (P a:ah) (ns:Ah):Prop where
 ex:∃(G:Cfg) (lawF:Ak) (hh:Hs),G.K=K/\G.scr=ns/\G.sa=a/\G.tab=some P/\lawF [.scr] []=.ok (.bl true) hh/\Bd lp w K mg base (bR lp w base) k fa fd [x] (cN G lawF)
theorem LM {lp:bh}{w:cm}{K:aq}{mg mb:Str->Option af}{k:Nat}{fa a c P:ah}{fd:bo}{x:Str}{s₁:ag}{vs:List af}{ns:Ah}
  (KX:K.In s₁.heap) (hns:s₁.heap.Ns dg mg) (hb:s₁.heap.Ns builtinsNs mb) (hbb:∀x:Str,x ≠ "__name__"->mb x=di x) (hlim:s₁.heap.NoLimit) (hg:s₁.gens=#[])
  (ha:s₁.heap.get? a=some { cls:=.type "list",data:=.seq vs.toArray }) (hi:ll vs ns) (hl:ns.length<=ck) (hr:Bo k callerA)
  (hC:lx s₁.heap c P) (hP:s₁.heap.get? P=some (ue #[])) (hB:mM mg s₁.heap) (hnt:PySem.W.noTabs K=true)
  (F:∀base:cu,K.In base->base.Ns dg mg->lx base c P->mM mg base->Lawful lp w K mg base k fa fd x P a ns) (hbind:∀(s:ag) (u:af),yt s fd ⟨[u],[]⟩ [(x,u)]):
  codeAny (model lp w) callerA (.call (.ref fa) ⟨[.ref a],[]⟩) (λr s'=>r=.ok (.ret (.bool true))/\OldK s₁.heap s'.heap/\s'.os=s₁.os/\tq s'.gens) s₁:=by
 have rv:=IG hi;have lenV:=hi.length;have KP:K.lookup P=none:=by
  cases q:K.lookup P with
  |none=>rfl
  |some o=>have e:=KX P o q;rw[hP]at e;cases e;have:=fi.mp hnt (P,ue #[]) (PySem.W.mem_of_lookupK q);exact absurd (show false=true from this) iw
 have aP:a≠P:=λz=>by rw[z,hP]at ha;cases ha
 have core:∀H:Hp,H P=some (.tbl #[])->FzL K H a (ns.map Fm)->Cc lp w H s₁.heap->(∀b,H b≠none->b=a∨b=P)->(H a≠none->K.lookup a=none)->(∀u,H a=some u->∃o xs,u=.frz o (.lst xs))->
   codeAny (model lp w) callerA (.call (.ref fa) ⟨[.ref a],[]⟩) (λr s'=>r=.ok (.ret (.bool true))/\OldK s₁.heap s'.heap/\s'.os=s₁.os/\tq s'.gens) s₁:=by
  intro H hHP hS hok hA hK hF;have base_of:∀{b:ah}{o:Obj},s₁.heap.get? b=some o->H b=none->(kW s₁.heap H).get? b=some o:=λe n=>RC e n;have none_of:∀{b:ah},b≠a->b≠P->H b=none:=λ{b} h1 h2=>by
   cases q:H b with
   |none=>rfl
   |some u=>exact((hA b (by rw[q];simp)).elim h1 h2).elim
  have noD:∀{b:ah}{o:Obj}{es:Array DictEntry}{ep:Nat},s₁.heap.get? b=some o->o.data=.dict es ep->H b=none:=λ{b o es ep} e d=>none_of (λz=>by
    subst z;rw[ha]at e;cases e;have d':Data.seq vs.toArray _=Data.dict es ep:=d
    cases d') (λz=>by
    subst z;rw[hP]at e;cases e;have d':Data.fields _=Data.dict es ep:=d
    cases d')
  have nsK:∀{b:ah}{m:Str->Option af},s₁.heap.Ns b m->(kW s₁.heap H).Ns b m:=λ{b m} ⟨o,es,ep,e,d,r⟩=>⟨o,es,ep,base_of e (noD e d),d,r⟩
  have hKb:K.In (kW s₁.heap H):=λb o e=>base_of (KX b o e) (by
   cases q:H b with
   |none=>rfl
   |some u=>
    rcases hA b (by rw[q];simp)with z|z
    ·subst z;rw[hK (by rw[q];simp)]at e;cases e
    ·subst z;rw[KP]at e;cases e)
  have hM:Mod K mg (kW s₁.heap H):=⟨hKb,nsK hns,⟨mb,nsK hb,hbb⟩,let ⟨mc,h1,h2⟩:=hlim;⟨mc,nsK h1,h2⟩⟩
  have hCb:lx (kW s₁.heap H) c P:=by obtain⟨o,Cf,file,tf,flags,tg,inF,text,tt,e1,r1,r⟩:=hC;refine⟨o,Cf,file,tf,flags,tg,inF,text,tt,base_of e1 (none_of (λz=>?_) r.2.2.2.2.2.2.2),r1,r⟩;subst z;rw[ha]at e1;cases e1;exact absurd r1 (by intro w;injection w with w;exact absurd w (by decide))
  have hBb:mM mg (kW s₁.heap H):=by
   obtain⟨bm,ob,b1,b2,b3,b4,b5,b6⟩:=hB;refine⟨bm,ob,b1,b2,base_of b3 (none_of (λz=>?_) (λz=>?_)),b4,b5,b6⟩
   ·subst z;rw[ha]at b3;cases b3;exact absurd b4 (by intro w;injection w with w;exact absurd w (by decide))
   ·subst z;rw[hP]at b3;cases b3;cases b4
  have e0:Fb lp w K mg (kW s₁.heap H) callerA [] s₁ H:=⟨rfl,hM,λb o e=>RD e,qg (RA _ _),trivial,λb hb=>absurd (show b∈([]:List ah) from hb) (by simp),hok,.of_eq hg⟩
  obtain⟨G,lawF,hh,g1,g2,g3,g4,hlaw,Fn⟩:=(F _ hKb (nsK hns) hCb hBb).ex;have rd:RelDL G (λ_=>0) 0 H [.scr] [.ref a]:=by refine Fj ?_ Fu;rw[Ax,g1,g2,g3];exact⟨rfl,hS⟩
  have sm:Bh G (λ_=>0) [] H:=⟨λi j h1=>absurd h1 (by simp),λi o q=>by simp at q,λP' e=>by
   rw[g4]at e;cases e;exact⟨#[],hHP,trivial,λpos cv q=>by
    have q':(none:Option af)=some cv:=q
    cases q'⟩⟩
  refine oz (Fn.run callerA [] s₁ H ⟨[.ref a],[]⟩ [.ref a] [.ref a] (λv _=>v=.bl true) (λ_ _ _=>False) hr e0 (hbind s₁ (.ref a)) (.cons rfl .nil) ⟨λ_=>0,[],[.scr],rd,sm, ?_⟩) λr s' h=>?_
  ·rw[hlaw];exact λμ' H' v _ _ r=>r
  cases r with
  |error e=>obtain⟨_,_,_,_,_,_,_,_,_,z⟩:=h;exact z.elim
  |ok fl=>
   cases fl with
   |next=>exact gz h
   |brk=>exact gz h
   |cont=>exact gz h
   |ret u=>
    obtain⟨v,H',os,bare,un,hok',r',q⟩:=h;have q':v=.bl true:=q;subst q';obtain rfl:u=ux true:=r';have kept:∀b o,b≠P->s₁.heap.get? b=some o->s'.heap.get? b=some o:=λb o hbP e=>by
     cases q:H b with
     |none=>exact un.keep b o e q (by intro z;exact absurd (show b∈([]:List ah) from z) (by simp)) (by simp)
     |some u=>
      rcases hA b (by rw[q];simp)with z|z
      ·subst z;obtain⟨ob,xs,rfl⟩:=hF u q;have z2:=un.frzs b ob _ q;obtain⟨e1,_⟩:=hok b _ q;obtain⟨e2,_⟩:=hok' b _ z2;rw[e]at e1;cases e1;exact e2
      ·exact absurd z hbP
    obtain⟨more,hm⟩:=un.tbls P #[] hHP;have gP:s'.heap.get? P=some (ue (#[]++more)):=hok' P _ hm;refine⟨rfl,⟨λb o e=>?_,λb o e=>?_⟩,os,bare⟩
    ·by_cases hb:b=P
     ·subst hb;rw[hP]at e;cases e;exact .inr (.inl ⟨(hC.tab hP).isCodeTable,rfl,#[],more,rfl,gP⟩)
     ·exact .inl (kept b o hb e)
    ·by_cases hb:b=P
     ·subst hb;exact⟨_,gP⟩
     ·exact⟨_,kept b o hb e⟩
 cases hk:K.lookup a with
 |some o=>
  have e:=KX a o hk;rw[ha]at e;cases e;refine core (λb=>if b=P then some (.tbl #[])else none) (if_pos rfl) (.inr ⟨_,vs.toArray,_,hk,rfl,rfl,rfl,by rw[ax,lenV];exact hl,by simpa using rv⟩) (λb u z=>?_) (λb z=>?_) (λz=>absurd (if_neg aP) z) (λu z=>?_)
  ·by_cases hb:b=P
   ·have z':=(if_pos hb).symm.trans z;cases z';subst hb;exact hP
   ·have z':=(if_neg hb).symm.trans z;cases z'
  ·by_cases hb:b=P
   ·exact .inr hb
   ·exact absurd (if_neg hb) z
  ·have z':=(if_neg aP).symm.trans z;cases z'
 |none=>
  have ea:(λb=>if b=a then some (HO.frz { cls:=.type "list",data:=.seq vs.toArray } (.lst (ns.map Fm)))else if b=P then some (.tbl #[])else none) a=some (.frz { cls:=.type "list",data:=.seq vs.toArray } (.lst (ns.map Fm))):=if_pos rfl;refine core (λb=>if b=a then some (.frz { cls:=.type "list",data:=.seq vs.toArray } (.lst (ns.map Fm)))else if b=P then some (.tbl #[])else none) ((if_neg (cx aP)).trans (if_pos rfl)) (.inl ⟨{ cls:=.type "list",data:=.seq vs.toArray },ea⟩) (λb u z=>?_) (λb z=>?_) (λ_=>hk) (λu z=>?_)
  ·by_cases hb:b=a
   ·have z':=(if_pos hb).symm.trans z;cases z';subst hb;exact⟨ha,by rw[bc];exact hl,vs,_,rv,ha⟩
   ·have z':=(if_neg hb).symm.trans z
    by_cases Em:b=P
    ·have z2:=(if_pos Em).symm.trans z';cases z2;subst Em;exact hP
    ·have z2:=(if_neg Em).symm.trans z';cases z2
  ·by_cases hb:b=a
   ·exact .inl hb
   ·by_cases Em:b=P
    ·exact .inr Em
    ·exact absurd ((if_neg hb).trans (if_neg Em)) z
  ·have z':=ea.symm.trans z;cases z';exact⟨_,_,rfl⟩
theorem jV {α:Type}{P:List α->Prop}(h:∀a,P [a]):∀us:List α,us.length=1->P us
 | [a],_=>h a
theorem iW {α:Type}{P:List α->Prop}(h:∀a b,P [a,b]):∀us:List α,us.length=2->P us
 | [a,b],_=>h a b
theorem rO {α:Type}{P:List α->Prop}(h:∀a b c,P [a,b,c]):∀us:List α,us.length=3->P us
 | [a,b,c],_=>h a b c
theorem YX {α:Type}{P:List α->Prop}(h:∀a b c d,P [a,b,c,d]):∀us:List α,us.length=4->P us
 | [a,b,c,d],_=>h a b c d
theorem kL {P:Nat->Bool->Prop}:∀c b,List.lookup c ([]:List (Nat×Bool))=some b->P c b:=λ_ _ h=>nomatch h
theorem fJ {P:Nat->Bool->Prop}{x:Nat}{y:Bool}{l:List (Nat×Bool)}(h:P x y) (hl:∀c b,l.lookup c=some b->P c b):∀c b,List.lookup c ((x,y)::l)=some b->P c b:=λc b e=>by
 rw[ij]at e
 cases q:c==x with
 |true=>rw[q]at e;exact eq_of_beq q▸(cq e)▸h
 |false=>rw[q]at e;exact hl c b e
theorem YY {P:Nat->Prop}:∀c,c<0->P c:=λc h=>absurd h (Nat.not_lt_zero c)
theorem lK {P:Nat->Prop}{n:Nat}(h0:P 0) (h:∀c,c<n->P (c+1)):∀c,c<n+1->P c
 |0,_=>h0
 |c+1,hc=>h c (Nat.lt_of_succ_lt_succ hc)
open PySem.Calls
abbrev Ys {β:Type}(ob:Frag->β) (obE:β):cm->cu->Prop:=λ_ h=>∃K:Frag,K.In h/\noTabs K=true/\ob K=obE
theorem ys_of {β:Type}{ob:Frag->β}{obE:β}:∀(w:cm) (s:ag),ob (sV s.heap)=obE->Ys ob obE w s.heap:=λ_ s e=>⟨sV s.heap,wC _ _,wD _ _,e⟩
theorem ys_keeps {β:Type}{ob:Frag->β}{obE:β}:∀(w:cm) (h h':cu),Ys ob obE w h->(∀b o,h.get? b=some o->h'.get? b=some o)->Ys ob obE w h':=λ_ _ _ ⟨K,x,n,e⟩ k=>⟨K,x.keeps k,n,e⟩
theorem z6l {β:Type}{ob:Frag->β}{obE:β}{l:OpenLaw}{n k:Nat}{q:bh}{loose:Aj}{XP:(Str->Option af)->cu->Prop}{d:DefRec}{x:Str}
  (hn:l.most=some n) (hn2:n<=ck) (hdf:d.params.defaults=[]) (hr:Bo k callerA) (hfind:(recsOf q).find? (λe=>e.name==d.name)=some d)
  (F:∀(K:Frag) (w:cm) (mg:Str->Option af) (fa:ah) (h:cu),ob K=obE->noTabs K=true->K.In h->h.Ns dg mg->mg d.name=some (.ref fa)->
   ∃(fd:bo) (c P:ah),(∀(s:ag) (u:af),yt s fd ⟨[u],[]⟩ [(x,u)])/\tabIn K d.name=some (c,P)/\noTabs K=true /\
    ∀(base:cu) (a:ah) (ns:Ah),ns.length<=n->K.In base->base.Ns dg mg->CodeHd base c P->mM mg base->Lawful l.prog w K mg base k fa fd x P a ns):
  WalkO q loose XP (Ys ob obE) l.row.toRowW d [] (λf vs=>Aa f vs):=by
 refine Att.attach_call hn hdf λw s₀ s₁ mg mb fa o pm cd doc a vs ns G Y ho hd hcd hmg hobj hints hlen hg=>?_;obtain⟨K,KX,hnt',hob⟩:=Y;obtain⟨fd,c,P,hb,ht,hnt,hF⟩:=F K w mg fa _ hob hnt' KX G.T.g hmg;obtain⟨hC,hP⟩:=tab_of G.T KX hfind ht;exact LM KX G.T.g G.T.b G.T.builtins G.T.nolimit hg hobj hints (dh hlen hn2) hr hC hP G.T.bmain hnt (λbase h1 h2 h3 h4=>hF base a ns hlen h1 h2 h3 h4) hb
theorem YZ {K:Frag}{f c:ah}{st:gw}{n:Str}{ps:Aj}(h:cW K f=some (fnOf n n (oW st) (jN st) (aX st) .none .none .none .none none (.ref c) .none)) (hc:codeIn K (.ref c) n=true) (hk:keepIn K (.ref f)=true)
  (hb:∀(kV doc pm:af) (an:Option ah) (cdv ct:af) (us:List af),us.length=ps.length->bindArgs (fnOf n n (oW st) (jN st) (aX st) .none kV doc pm an cdv ct) ⟨us,[]⟩=pure (ps.zip us)):
  ∃fd:bo,Bx K n n st f fd/\Binds K fd ps []/\fd.code=.ref c/\∀us:List af,us.length=ps.length->bindArgs fd ⟨us,[]⟩=pure (ps.zip us):=by
 obtain⟨oc,od,kV,dc,pm,an,ct,sl,e⟩:=QY h;exact⟨_,IH e hc hk,(IH e hc hk).binds hb,rfl,hb kV dc pm an (.ref c) ct⟩
theorem walkK2 {β:Type}{ob:Frag->β}{obE:β}{l:OpenLaw}{n k:Nat}{q:bh}{loose:Aj}{XP:(Str->Option af)->cu->Prop}{d:DefRec}{x:Str}(nm:Str)
  (hn:l.most=some n) (hn2:n<=ck) (hdf:d.params.defaults=[]) (hr:Bo k callerA) (hfind:∃d2:DefRec,(recsOf q).find? (λe=>e.name==nm)=some d2/\d2.name=nm)
  (F:∀(K:Frag) (w:cm) (mg:Str->Option af) (fa:ah) (h:cu),ob K=obE->noTabs K=true->K.In h->h.Ns dg mg->mg d.name=some (.ref fa)->
   ∃(fd:bo) (c P:ah),(∀(s:ag) (u:af),yt s fd ⟨[u],[]⟩ [(x,u)])/\tabIn K nm=some (c,P)/\noTabs K=true /\
    ∀(base:cu) (a:ah) (ns:Ah),ns.length<=n->K.In base->base.Ns dg mg->CodeHd base c P->mM mg base->Lawful l.prog w K mg base k fa fd x P a ns):
  WalkO q loose XP (Ys ob obE) l.row.toRowW d [] (λf vs=>Aa f vs):=by
 refine Att.attach_call hn hdf λw s₀ s₁ mg mb fa o pm cd doc a vs ns G Y ho hd hcd hmg hobj hints hlen hg=>?_;obtain⟨K,KX,hnt',hob⟩:=Y;obtain⟨fd,c,P,hb,ht,hnt,hF⟩:=F K w mg fa _ hob hnt' KX G.T.g hmg;obtain⟨d2,hf,hnm⟩:=hfind;have hf':(recsOf q).find? (λe=>e.name==d2.name)=some d2:=by rw[hnm];exact hf
 obtain⟨hC,hP⟩:=tab_of G.T KX hf' (by rw[hnm];exact ht);exact LM KX G.T.g G.T.b G.T.builtins G.T.nolimit hg hobj hints (dh hlen hn2) hr hC hP G.T.bmain hnt (λbase h1 h2 h3 h4=>hF base a ns hlen h1 h2 h3 h4) hb
theorem dB {F:List (Frag->Bool)}{K:Frag}(h:F.all (λf=>f K)=true) (i:Nat) {g:Frag->Prop}[∀K,Decidable (g K)] (e:F[i]?=some (λK=>decide (g K)):=by rfl):g K:=dA h i e
theorem cE {K:Frag}{h:cu}{mg:Str->Option af}{n:Str}{v:af}{F:List (Frag->Bool)}(X:K.In h) (G:h.Ns dg mg) (hc:F.all (λf=>f K)=true) (i:Nat) (e:F[i]?=some (λK=>decide (nsIn K dg n=some (some v))):=by rfl):mg n=some v:=mg_of X G (dA hc i e)
theorem Y0 {α:Type}{P:List α->Prop}(h:∀a b c d e,P [a,b,c,d,e]):∀us:List α,us.length=5->P us
 | [a,b,c,d,e],_=>h a b c d e
theorem CH {env:Env}{x:Str}:∀{l:List (Str×kr)},l.lookup x=some .free->(l.map λ(n,k)=>if(k==bz&&env.scope.kind==.function&&env.kindOf n==some .cell)then(n,dv)else(n,k)).lookup x≠some .local
 | [],h=>by simp at h
 |(n,q)::r,h=>by
  rw[ij]at h;rw[dk]
  cases e:x==n with
  |true=>
   rw[e]at h;have hq:q=.free:=cq h;subst hq;dsimp only
   split
   ·rw[ij,e];simp
   ·rw[ij,e];simp
  |false=>
   rw[e]at h;dsimp only
   split
   ·rw[ij,e];exact CH h
   ·rw[ij,e];exact CH h
theorem Y1 {X:Cx}{sc os:gu}{oN N:Aj}{cap:List (Option Nat)}(hs:X.env.scope.names=os.names) (hN:X.N=oN) (h1:sc.kind=.function) (h2:∀p∈sc.names,p.2=.local->sc.names.lookup p.1=some .local) (h3:cap.length=N.length)
  (h4:∀p∈sc.names,p.2=.free->os.names.lookup p.1=some .cell∨os.names.lookup p.1=some .free) (h5:∀p∈sc.names,p.2=.free->(p.1,dv)∉sc.names) (h6:∀q∈cap.zip N,∀j∈q.1,oN[j]?=some q.2/\sc.names.lookup q.2=some .free):Ca X sc N cap:=by
 refine⟨h1,h2,h3,λx hx=>?_,λx hx=>h5 _ hx rfl,λi j x e1 e2=>?_⟩
 ·have:=h4 _ hx rfl;rw[<-hs]at this;exact this
 ·have hm:(some j,x)∈cap.zip N:=cn (i:=i) (jw.mpr ⟨e1,e2⟩);obtain⟨a,b⟩:=h6 _ hm j rfl;rw[hN];refine⟨a,fh b, ?_⟩;exact CH b
def eI:Dv->Dv->Hs->Rs Dv:=iC λi j=>.int (i - j)
def qI:Dv->Dv->Hs->Rs Dv:=mG xC λi j=>.int (i*j)
def mP:Dv->Dv->Hs->Rs Dv:=mG rJ λi j=>.int (i % j)
def uH:Dv->Dv->Hs->Rs Dv:=mG tP λi j=>.int (i ^ j.toNat)
def rP:Dv->Dv->Hs->Rs Dv:=iC λi j=>.bl (decide (i<j))
def fP:Dv->Dv->Hs->Rs Dv:=iC λi j=>.bl (decide (i<=j))
def kM:Dv->Dv->Hs->Rs Dv:=iC λi j=>.bl (decide (i>j))
def qJ:Dv->Dv->Hs->Rs Dv:=iC λi j=>.bl (decide (i>=j))
section
variable{k:Nat}{a b:bj}{ma mb:M Dv}{pos:Pos}
theorem oA (ha:aJ X G E a ma) (hb:aJ X G E b mb):aJ X G E (.BinOp a .Sub b pos) (m2 eI ma mb):=rG S7 WC ha hb
theorem uI (ha:aJ X G E a ma) (hb:aJ X G E b mb):aJ X G E (.BinOp a .Mult b pos) (m2 qI ma mb):=rG S8 (xB WD) ha hb
theorem rQ (ha:aJ X G E a ma) (hb:aJ X G E b mb):aJ X G E (.BinOp a .Mod b pos) (m2 mP ma mb):=rG S9 (xB WE) ha hb
theorem LN (ha:aJ X G E a ma) (hb:aJ X G E b mb):aJ X G E (.BinOp a .Pow b pos) (m2 uH ma mb):=rG TB (xB WG) ha hb
theorem CI (ha:aJ X G E a ma):aJ X G E (.UnaryOp .USub a pos) (m1 lJ ma):=V8 TH YW ha
theorem Y2 (ha:aJ X G E a ma) (hb:aJ X G E b mb):aJ X G E (.Compare a [.LtE] [b] pos) (m2 fP ma mb):=nW tD lA ha hb (iQ _)
theorem Y3 (ha:aJ X G E a ma) (hb:aJ X G E b mb):aJ X G E (.Compare a [.Gt] [b] pos) (m2 kM ma mb):=nW HC lA ha hb (iQ _)
theorem Y4 (ha:aJ X G E a ma) (hb:aJ X G E b mb):aJ X G E (.Compare a [.GtE] [b] pos) (m2 qJ ma mb):=nW HD lA ha hb (iQ _)
theorem oC (g:Good X G E k) (ha:aJ X G E a ma) (hb:aJ X G E b mb):aJ X G E (.Compare a [.Eq] [b] pos) (m2 bD ma mb):=nW (JD g.room.units) JF ha hb (iQ _)
theorem Y5 (g:Good X G E k) (ha:aJ X G E a ma) (hb:aJ X G E b mb):aJ X G E (.Compare a [.NotEq] [b] pos) (m2 cJ ma mb):=nW (JE g.room.units) JG ha hb (iQ _)
theorem Y6 (ha:aJ X G E a ma) (hb:aJ X G E b mb):fF X G E (.Compare a [.LtE] [b] pos) (mB (m2 fP ma mb)):=mD tD lA ha hb (iQ _)
theorem Y7 (ha:aJ X G E a ma) (hb:aJ X G E b mb):fF X G E (.Compare a [.Gt] [b] pos) (mB (m2 kM ma mb)):=mD HC lA ha hb (iQ _)
theorem Y8 (ha:aJ X G E a ma) (hb:aJ X G E b mb):fF X G E (.Compare a [.GtE] [b] pos) (mB (m2 qJ ma mb)):=mD HD lA ha hb (iQ _)
theorem kN (g:Good X G E k) (ha:aJ X G E a ma) (hb:aJ X G E b mb):fF X G E (.Compare a [.Eq] [b] pos) (mB (m2 bD ma mb)):=mD (JD g.room.units) JF ha hb (iQ _)
theorem lL (g:Good X G E k) (ha:aJ X G E a ma) (hb:aJ X G E b mb):fF X G E (.Compare a [.NotEq] [b] pos) (mB (m2 cJ ma mb)):=mD (JE g.room.units) JG ha hb (iQ _)
variable{c:bj}{mc:M Dv}
theorem Y9 (ha:aJ X G E a ma) (hb:aJ X G E b mb) (hc:aJ X G E c mc) (hm:lastMarks [.LtE,.LtE] [b,c]=false:=by with_unfolding_all rfl):aJ X G E (.Compare a [.LtE,.LtE] [b,c] pos) (jO fP fP ma mb mc):=V6 tD tD lA lA ha hb hc hm
theorem ZA (ha:aJ X G E a ma) (hb:aJ X G E b mb) (hc:aJ X G E c mc) (hm:lastMarks [.LtE,.Lt] [b,c]=false:=by with_unfolding_all rfl):fF X G E (.Compare a [.LtE,.Lt] [b,c] pos) (mB (jO fP rP ma mb mc)):=V7 tD AV lA lA ha hb hc hm
end
def qK:Ty->Option Bool
 | .bl=>some true | .int=>some true | .exc _=>none|_=>some false
def kP:Ty->Option Bool
 | .bl=>some true | .exc _=>none|_=>some false
def gL:Ty->Option Bool
 | .tup=>some true | .exc _=>none|_=>some false
def uJ:Ty->Option Bool
 | .lst=>some true | .exc _=>none|_=>some false
def uK:Ty->Option Bool
 | .str=>some true | .exc _=>none|_=>some false
def qL:Ty->Option Bool
 | .tup=>some true | .lst=>some true | .exc _=>none|_=>some false
section
variable{K:aq}{cl:Nat->ah}
theorem ZC:∀ty bb,qK ty=some bb->de K (lG cl ty) (.type "int")=some bb:=by intro ty bb h;cases ty <;> first|(cases h;rfl)|cases h
theorem ZD:∀ty bb,kP ty=some bb->de K (lG cl ty) (.type "bool")=some bb:=by intro ty bb h;cases ty <;> first|(cases h;rfl)|cases h
theorem ZE:∀ty bb,gL ty=some bb->de K (lG cl ty) (.type "tuple")=some bb:=by intro ty bb h;cases ty <;> first|(cases h;rfl)|cases h
theorem ZF:∀ty bb,uJ ty=some bb->de K (lG cl ty) (.type "list")=some bb:=by intro ty bb h;cases ty <;> first|(cases h;rfl)|cases h
theorem ZG:∀ty bb,uK ty=some bb->de K (lG cl ty) (.type "str")=some bb:=by intro ty bb h;cases ty <;> first|(cases h;rfl)|cases h
theorem ZH:∀ty bb,qL ty=some bb->PySem.W.kitAny K (lG cl ty) [.type "tuple",.type "list"]=some bb:=by intro ty bb h;cases ty <;> first|(cases h;rfl)|cases h
end
theorem ZI:di "int" = some (.type "int"):=by decide +kernel
theorem ZJ:di "bool" = some (.type "bool"):=by decide +kernel
theorem ZK:di "str" = some (.type "str"):=by decide +kernel
theorem ZL:di "ValueError" = some (.type "ValueError"):=by decide +kernel
def eS (nn:Option Bool) (tbl:List (Nat×Bool)):Ty->Option Bool
 | .exc c=>tbl.lookup c
 | .non=>nn
 |_=>none
section
variable{a:bj}{ma:M Dv}{p q r pos:Pos}
theorem LO (hg:Gl X "isinstance") (hm:X.mg "isinstance" = none) (Ef:Gl X "int") (Eb:X.mg "int" = none) (ha:aJ X G E a ma) (he:ar [a,.Name "int" q] X.env=[(false,eval a X.env),(false,eval (.Name "int" q) X.env)]:=by rfl):
  aJ X G E (.Call (.Name "isinstance" p) [a,.Name "int" q] [] pos) (m1 (bG qK) ma):=qG hg hm ha (pG Ef Eb ZI) (.inl ⟨_,rfl⟩) rfl ZC (λc bb h=>by cases h) he
theorem xX (hg:Gl X "isinstance") (hm:X.mg "isinstance" = none) (Ef:Gl X "bool") (Eb:X.mg "bool" = none) (ha:aJ X G E a ma) (he:ar [a,.Name "bool" q] X.env=[(false,eval a X.env),(false,eval (.Name "bool" q) X.env)]:=by rfl):
  aJ X G E (.Call (.Name "isinstance" p) [a,.Name "bool" q] [] pos) (m1 (bG kP) ma):=qG hg hm ha (pG Ef Eb ZJ) (.inl ⟨_,rfl⟩) rfl ZD (λc bb h=>by cases h) he
theorem qM (hg:Gl X "isinstance") (hm:X.mg "isinstance" = none) (Ef:Gl X "tuple") (Eb:X.mg "tuple" = none) (ha:aJ X G E a ma) (he:ar [a,.Name "tuple" q] X.env=[(false,eval a X.env),(false,eval (.Name "tuple" q) X.env)]:=by rfl):
  aJ X G E (.Call (.Name "isinstance" p) [a,.Name "tuple" q] [] pos) (m1 (bG gL) ma):=qG hg hm ha (pG Ef Eb BL) (.inl ⟨_,rfl⟩) rfl ZE (λc bb h=>by cases h) he
theorem LP (hg:Gl X "isinstance") (hm:X.mg "isinstance" = none) (Ef:Gl X "list") (Eb:X.mg "list" = none) (ha:aJ X G E a ma) (he:ar [a,.Name "list" q] X.env=[(false,eval a X.env),(false,eval (.Name "list" q) X.env)]:=by rfl):
  aJ X G E (.Call (.Name "isinstance" p) [a,.Name "list" q] [] pos) (m1 (bG uJ) ma):=qG hg hm ha (pG Ef Eb xD) (.inl ⟨_,rfl⟩) rfl ZF (λc bb h=>by cases h) he
theorem ZM (hg:Gl X "isinstance") (hm:X.mg "isinstance" = none) (Ef:Gl X "str") (Eb:X.mg "str" = none) (ha:aJ X G E a ma) (he:ar [a,.Name "str" q] X.env=[(false,eval a X.env),(false,eval (.Name "str" q) X.env)]:=by rfl):
  aJ X G E (.Call (.Name "isinstance" p) [a,.Name "str" q] [] pos) (m1 (bG uK) ma):=qG hg hm ha (pG Ef Eb ZK) (.inl ⟨_,rfl⟩) rfl ZG (λc bb h=>by cases h) he
theorem ZN:∀us',Az [.ty "tuple",.ty "list"] us'->us'=[.type "tuple",.type "list"]:=by
 intro us' h
 cases h with
 |cons r rr=>
  cases rr with
  |cons r' rr=>
   cases rr
   cases r;cases r'
   rfl
theorem ZO {kt:Nat}{p':Pos}(hg:Gl X "isinstance") (hm:X.mg "isinstance" = none) (Ef:Gl X "tuple") (Eb:X.mg "tuple" = none) (hg'':Gl X "list") (hm'':X.mg "list" = none) (ha:aJ X G E a ma)
  (he:ar [a,.Tuple [.Name "tuple" q,.Name "list" r] kt p] X.env=[(false,eval a X.env),(false,eval (.Tuple [.Name "tuple" q,.Name "list" r] kt p) X.env)]:=by rfl):
  aJ X G E (.Call (.Name "isinstance" p') [a,.Tuple [.Name "tuple" q,.Name "list" r] kt p] [] pos) (m1 (bG qL) ma):=
 XM (cs:=[.ty "tuple",.ty "list"]) hg hm ha (iI (pG Ef Eb BL) (iI (pG hg'' hm'' xD) jM)) (by decide) ZN ZH (λc bb h=>by cases h) he
theorem lN {x:Str}{C:ah}{nn:Option Bool}{tbl:List (Nat×Bool)}(hg:Gl X "isinstance") (hm:X.mg "isinstance" = none) (Ef:Gl X x) (Eb:X.mg x=some (.ref C)) (ha:aJ X G E a ma)
  (hn:∀b,nn=some b->de G.K (.type "NoneType") (.ref C)=some b) (ht:∀c b,tbl.lookup c=some b->de G.K (.ref (G.cl c)) (.ref C)=some b/\Cy G.K (G.cl c)) (hd:(x==Gd)=false:=by decide)
  (he:ar [a,.Name x q] X.env=[(false,eval a X.env),(false,eval (.Name x q) X.env)]:=by rfl) (Ds:ar [.Name x q] X.env=[(false,eval (.Name x q) X.env)]:=by rfl):
  aJ X G E (.Call (.Name "isinstance" p) [a,.Name x q] [] pos) (m1 (bG (eS nn tbl)) ma):=
 qG hg hm ha (GY (v:=.ref C) Ef Eb rfl hd) (.inr ⟨_,rfl⟩) rfl (λty bb h=>by
  cases ty with
  |exc c=>exact(ht c bb h).1
  |non=>exact hn bb h
  |_=>cases h) (λc bb h=>(ht c bb h).2) he Ds
theorem ZP {nn:Option Bool}{tbl:List (Nat×Bool)}(hg:Gl X "isinstance") (hm:X.mg "isinstance" = none) (Ef:Gl X "ValueError") (Eb:X.mg "ValueError" = none) (ha:aJ X G E a ma)
  (hn:∀b,nn=some b->de G.K (.type "NoneType") (.type "ValueError")=some b) (ht:∀c b,tbl.lookup c=some b->de G.K (.ref (G.cl c)) (.type "ValueError")=some b/\Cy G.K (G.cl c))
  (he:ar [a,.Name "ValueError" q] X.env=[(false,eval a X.env),(false,eval (.Name "ValueError" q) X.env)]:=by rfl):
  aJ X G E (.Call (.Name "isinstance" p) [a,.Name "ValueError" q] [] pos) (m1 (bG (eS nn tbl)) ma):=
 qG hg hm ha (pG Ef Eb ZL) (.inl ⟨_,rfl⟩) rfl (λty bb h=>by
  cases ty with
  |exc c=>exact(ht c bb h).1
  |non=>exact hn bb h
  |_=>cases h) (λc bb h=>(ht c bb h).2) he
end
section
variable{P:bh}{w:cm}{K:aq}{mg:Str->Option af}{base:cu}{f:ah}{G:Cfg}{k:Nat}{N:Aj}
theorem ZQ {x qual:Str}{st:gw}{fd:bo}{ps:Aj}{mb:MS}(Fn:Bx K x qual st f fd) (S:Ay N ps (aX st)) (hK:K=G.K)
  (Br:∀(cdv:af) (A:bu) (outer:List Env) (s:ag) (H:Hp) (E₀ E:XK),fd.code=cdv->Good (gJ (bR P w base) P w K mg base N qual (aX st) f cdv A outer s H E₀) G E k->jQ (gJ (bR P w base) P w K mg base N qual (aX st) f cdv A outer s H E₀) G E (jN st) mb):
  Bd P w K mg base (bR P w base) (k+1) f fd ps (cN G (aV ps.length N.length mb)):=by
 obtain⟨oc,od,kV,doc,pm,an,cdv,ct,osl,rfl,lk,hcd⟩:=Fn.ex;have hlen:∀vs H Q E,cN G (aV ps.length N.length mb) vs H Q E->vs.length=ps.length:=λvs H Q E ⟨μ,h,ds,r,sm,o⟩=>by
  rw[r.length];unfold aV at o
  by_cases hd:ds.length=ps.length
  ·exact hd
  ·rw[if_neg hd]at o;exact o.elim
 refine AY lk hcd S hlen λA outer s H vs Q E hr hsp=>?_;have hl:=hlen _ _ _ _ hsp;obtain⟨μ,h,ds,r,sm,o⟩:=hsp;have o':Out G E μ h.length H (bJ (mb (bX N.length ds) h)) (Ax G) Q:=by unfold aV at o;rw[if_pos (by rw[<-r.length];exact hl)]at o;exact o
 refine⟨_,Br cdv A outer s H E (EB G μ h.length H (mb (bX N.length ds) h)) rfl (BW hr hK (λu H' ⟨c,h',μ',er,x,s',fl⟩=>?_) BX) hK, ?_⟩
 ·rw[er]at o';exact o' μ' H' u x s' fl
 ·refine⟨μ,bX N.length ds,h,J2 r N,sm, ?_⟩
  cases q:mb (bX N.length ds) h with
  |bad=>rw[q]at o';exact o'.elim
  |bk ρ h'=>rw[q]at o';exact o'.elim
  |ct ρ h'=>rw[q]at o';exact o'.elim
  |rt d h'=>rw[q]at o';exact o'
  |nx ρ h'=>rw[q]at o';exact λμ' H' σ' x' s' rs'=>o' μ' H' .non x' s' rfl
  |ex c h'=>exact λμ' H' u x' s' fl=>⟨c,h',μ',rfl,x',s',fl⟩
theorem CJ {fd:bo}{ps:Aj}:Bd P w K mg base (bR P w base) k f fd ps (cN G (λ_ _=>.bad)):=⟨λvs H Q E ⟨_,_,_,_,_,o⟩=>o.elim,λ_ _ _ _ _ _ _ _ _ _ _ _ _ ⟨_,_,_,_,_,o⟩=>o.elim⟩
end
section
variable{k:Nat}{q x:Str}{p pos lpos:Pos}{params:mm}{body:bj}{scope os:gu}{c P fr:ah}{fdr:bo}{Nl oN:Aj}{me:M Dv}{n ncl j:Nat}{mb:MS}{caps:Ai}
theorem LQ (g:Good X G E k) (hj:j<=k) (hfn:∀y,X.fn y=true)
  (F:∀base,X.K.In base->base.Ns dg X.mg->Bd X.prog X.w X.K X.mg base (bR X.prog X.w base) j fr fdr [x] (xR G base Nl params body scope me n ncl mb))
  (hg:Gl X q) (hm:X.mg q=some (.ref fr)) (hk:lj X.K (.ref fr)=true) (hb:Binds X.K fdr [x] [])
  (Et:defaultsOf params X.env=([],[])) (hq:X.env.qual ++ "<lambda>" = G.lq) (hP:G.tab=some P) (Dp:X.env.code=.ref c) (hC:lx X.base c P) (hB:mM X.mg X.base)
  (LS:Bu Nl scope) (hs:X.env.scope.names=os.names) (hN:X.N=oN) (Dn:∀y∈Nl,os.names.lookup y=some .cell) (El:caps.length=Nl.length) (hcap:∀z∈caps.zip Nl,oN[z.1]?=some z.2)
  (Du:(q==Gd)=false:=by decide) (he:ar [.Lambda params body scope lpos] X.env=[(false,eval (.Lambda params body scope lpos) X.env)]:=by rfl):
  aJ X G E (.Call (.Name q p) [.Lambda params body scope lpos] [] pos) (mO caps n ncl mb me):=
 YJ g hj hfn F hg hm hk hb Et hq hP Dp hC hB LS (λy hy=>by rw[hs];exact Dn y hy) El (λi j y e1 e2=>by rw[hN];exact hcap (j,y) (cn (i:=i) (jw.mpr ⟨e1,e2⟩))) Du he
end
def gD:Dv->Bool
 | .scr=>false
 |_=>true
def aN (x y:Dv) (h:Hs):Rs Dv:=if gD x=true then gR [] x y h else .bad
def cF (x:Dv) (h:Hs):Rs Dv:=if gD x=true then iL [] x h else .bad
def lO (x:Dv) (h:Hs):Rs Dv:=if gD x=true then rK [] x h else .bad
def bP (neg:Bool) (x y:Dv) (h:Hs):Rs Dv:=if gD y=true then kK [] neg x y h else .bad
theorem CK {scr:Ah}{x:Dv}{h:Hs}(e:gD x=true):fV [] x h=fV scr x h:=by cases x <;> first|rfl|cases e
section
variable{k:Nat}{a b e:bj}{es:List bj}{ma mb:M Dv}{aR:M Al }{p pos:Pos}
theorem ZR:fO G (A3 G.K) aN:=by
 intro E μ h H x y vx vy Q s rx ry o;unfold aN at o
 split at o
 ·rename_i hx;refine JH E μ h H x y vx vy Q s rx ry ?_;have e:gR G.scr x y h=gR [] x y h:=by cases x <;> cases y <;> first|rfl|exact absurd hx (by decide)
  rw[e];exact o
 ·exact o.elim
theorem ZS:mE G (JM G.K) cF:=by
 intro E μ h H x vx Q s rx o;unfold cF at o
 split at o
 ·rename_i hx;refine JN E μ h H x vx Q s rx ?_;unfold iL at o ⊢;rw[<-CK hx];exact o
 ·exact o.elim
theorem ZT:mE G (λx H Q=>∃p ys,x=.ref p/\(Bs G.K H p ys∨Bk G.K H p ys)/\∀l,H l=none->Q (.ref l) (aU H l (.lst ys))) lO:=by
 intro E μ h H x vx Q s rx o;unfold lO at o
 split at o
 ·rename_i hx;refine WS E μ h H x vx Q s rx ?_;unfold rK at o ⊢;rw[<-CK hx];exact o
 ·exact o.elim
theorem xY (neg:Bool):fO G (xS G.K neg) (bP neg):=by
 intro E μ h H x y vx vy Q s rx ry o;unfold bP at o
 split at o
 ·rename_i hx;refine YK neg E μ h H x y vx vy Q s rx ry ?_;unfold kK at o ⊢;rw[<-CK hx];exact o
 ·exact o.elim
theorem cR (ha:aJ X G E a ma) (hb:aJ X G E b mb) (hs:A1 b:=by intro _ _;rfl):aJ X G E (.Subscript a b pos) (m2 aN ma mb):=λhK=>Fo (HY (by have:=IC (X:=X);rw[hK]at this;exact this) (ha hK) (hb hK) hs) λ_ _ _ t=>tM ZR t
theorem jW (hg:Gl X "len") (hm:X.mg "len" = none) (ha:eF X G E (e::es) aR)
  (he:ar (e::es) X.env=(false,eval e X.env)::ar es X.env:=by rfl) (Ce:(backTo pos (ar es X.env)).any (·.1)=false:=by rfl):aJ X G E (.Call (.Name "len" p) (e::es) [] pos) (aF (f1 cF) aR):=λhK=>
 qD (Bc.imp (ID (X:=X)) λxs H Q ⟨v,h1,a,ys,h2,h3,h4⟩=>⟨a,ys,by rw[h1,h2],by rw[hK];exact h3,h4⟩) (qE ZS) hg hm PySem.boot_len ha (by decide) (by decide) he Ce hK
theorem LR (hg:Gl X "list") (hm:X.mg "list" = none) (ha:eF X G E (e::es) aR)
  (he:ar (e::es) X.env=(false,eval e X.env)::ar es X.env:=by rfl) (Ce:(backTo pos (ar es X.env)).any (·.1)=false:=by rfl):aJ X G E (.Call (.Name "list" p) (e::es) [] pos) (aF (f1 lO) aR):=λhK=>
 JL (Bc.imp (VE (X:=X)) λxs H Q ⟨v,h1,a,ys,h2,h3,h4⟩=>⟨a,ys,by rw[h1,h2],by rw[hK];exact h3,h4⟩) (qE ZT) hg hm xD ha (by decide) (by decide) he Ce hK
end
theorem ZU (h l:Hs) (k:Nat):getL (h++l) (h.length+k)=getL l k:=by unfold getL;rw[gq (by omega),show h.length+k - h.length=k by omega]
theorem ZV (h l:Hs):getL (h++l) h.length=getL l 0:=ZU h l 0
theorem ZW (h l:Hs) (k:Nat) (o:Ob):(h++l).set (h.length+k) o=h++l.set k o:=by rw[List.set_append_right _ _ (by omega),show h.length+k - h.length=k by omega]
theorem ZX (h l:Hs) (o:Ob):(h++l).set h.length o=h++l.set 0 o:=ZW h l 0 o
section
variable{n:Nat}
end
section
variable{ma mb mc:M Dv}{aR:M Al }{t u:M Bool}{f f':Dv->Dv->Hs->Rs Dv}{g:Dv->Hs->Rs Dv}{F:Ak}
end
section
variable{mi mi':M Src}{st Dw:dP}{test test':M Bool}{inner:MC}{me:M Dv}{cap:List (Option Nat)}
end
section
variable{mo me mi:M Dv}{ml:M Al }{m u:MS}{t:M Bool}
end
def iN:Dv->Option Int
 | .int i=>some i
 |_=>none
theorem rR {G:Cfg}{μ:Nat->ah}{n:Nat}{H:Hp}:∀{xs:Al}{vs:Ge}{ns:Ah},RelDL G μ n H xs vs->bF iN xs=some ns->vs=ns.map Fm
 | [],_,ns,r,e=>by cases e;rw[RelDL]at r;subst r;rfl
 |x::xs,_,ns,r,e=>by
  rw[RelDL]at r;obtain⟨v,rr,rfl,r1,r2⟩:=r;unfold bF at e
  cases x with
  |int i=>
   dsimp only[iN]at e
   cases q:bF iN xs with
   |none=>rw[q]at e;cases e
   |some zs=>rw[q]at e;cases e;rw[Ax]at r1;subst r1;rw[rR r2 q];rfl
  |_=>cases e
section
variable{e a b:bj}{es:List bj}{ma mb:M Dv}{aR:M Al }{p pos:Pos}
theorem xZ {ns:Ah}{its:List af}(rv:Az (ns.map Fm) its) {i:Nat}{v:af}(e:its.toArray[i]?=some v):∃t,v=.int (ns.getD i 0) t:=by
 have hl:=rv.length;rw[bc]at hl;have e':its[i]?=some v:=by simpa using e
 have hi:i<its.length:=(az.mp e').1;have hb:i<ns.length:=by omega
 obtain⟨u,e2,r⟩:=rv.get (i:=i) (x:=Fm ns[i]) (by simp[hb]);rw[e']at e2;cases e2;have hg:ns.getD i 0=ns[i]:=by simp[qf,hb]
 rw[hg];exact r
end
section
variable{a:bj}{elts:List bj}{kk:Nat}{tp p pos:Pos}{ma:M Dv}{ms:M Al }
end
def gY (g:Int->Int->Bool) (val:Nat->Int):Nat->Int
 |0=>val 0
 |k+1=>if g (val (k+1)) (gY g val k)then val (k+1)else gY g val k
theorem CL (g:Int->Int->Bool) (val:Nat->Int):∀k,val (argBest (λi j=>g (val i) (val j)) k)=gY g val k
 |0=>rfl
 |k+1=>by
  rw[argBest,gY,<-CL g val k]
  split <;> rfl
def gM (ns:Ah):Int:=gY (λa b=>decide (a>b)) (λi=>ns.getD i 0) (ns.length - 1)
def oE (ns:Ah):Int:=gY (λa b=>decide (a<b)) (λi=>ns.getD i 0) (ns.length - 1)
section
variable{e a b:bj}{es:List bj}{ma mb:M Dv}{aR:M Al }{p pos:Pos}
abbrev CM (f:Ah->Int):Ge->Hp->VK->Prop:=λxs H Q=>∃(p:ah) (ns:Ah),xs=[.ref p]/\H p=some (.lst (ns.map Fm))/\0<ns.length/\Q (.int (f ns)) H
theorem ZY (hc:X.calm=true):Bc X (.builtin "max") (CM gM):=by
 intro pins s σ H xs us Q I rv ⟨p,ns,e,hp,h0,q⟩;subst e;obtain⟨u,rfl,ru⟩:=jD rv;cases ru;obtain⟨its,rits,pl,hz⟩:=I.list (Fv hp);have hn:its.toArray.size=ns.length:=by have:=rits.length;simp at this ⊢;omega
 have lp:=I.hok.lt hp;have ne:p≠s.heap.objs.size:=bg lp;refine call_max_walk (ka pl.isList ⟨_,_,_,_,_,_,_,rfl,ve (A:=X.A.in1) (show X.A.in1.handled=none from I.ok.hd hc) _ p ne its.toArray,⟨⟨_,bf _ rfl,rfl,rfl⟩,pl.isList.push _⟩,λb hb=>?_,by rw[hn];exact h0,CmpOf.ints_gt (λi=>ns.getD i 0) (λi v ev=>xZ rits ev),λv h' tk ev k=>?_⟩)
 ·simp only[cw];simp at hb
  rcases hb with rfl|rfl
  ·exact jt _
  ·exact jk lp
 ·obtain⟨t',rfl⟩:=xZ rits ev;refine⟨.int (gM ns),H,(xM (tk:=tk) I k:Inv X pins σ H { s with heap:=h',toks:=tk }),⟨t', ?_⟩,q⟩;rw[hn];rw[CL (λa b=>decide (a>b)) (λi=>ns.getD i 0)];rfl
theorem ZZ (hc:X.calm=true):Bc X (.builtin "min") (CM oE):=by
 intro pins s σ H xs us Q I rv ⟨p,ns,e,hp,h0,q⟩;subst e;obtain⟨u,rfl,ru⟩:=jD rv;cases ru;obtain⟨its,rits,pl,hz⟩:=I.list (Fv hp);have hn:its.toArray.size=ns.length:=by have:=rits.length;simp at this ⊢;omega
 have lp:=I.hok.lt hp;have ne:p≠s.heap.objs.size:=bg lp;refine call_min_walk (ka pl.isList ⟨_,_,_,_,_,_,_,rfl,ve (A:=X.A.in1) (show X.A.in1.handled=none from I.ok.hd hc) _ p ne its.toArray,⟨⟨_,bf _ rfl,rfl,rfl⟩,pl.isList.push _⟩,λb hb=>?_,by rw[hn];exact h0,CmpOf.ints_lt (λi=>ns.getD i 0) (λi v ev=>xZ rits ev),λv h' tk ev k=>?_⟩)
 ·simp only[cw];simp at hb
  rcases hb with rfl|rfl
  ·exact jt _
  ·exact jk lp
 ·obtain⟨t',rfl⟩:=xZ rits ev;refine⟨.int (oE ns),H,(xM (tk:=tk) I k:Inv X pins σ H { s with heap:=h',toks:=tk }),⟨t', ?_⟩,q⟩;rw[hn];rw[CL (λa b=>decide (a<b)) (λi=>ns.getD i 0)];rfl
theorem LU:∀{vs:List af}{ns:Ah},Az (ns.map Fm) vs->ll vs ns
 | [],[],_=>.nil
 | [],n::ns,h=>by cases h
 |v::vs,[],h=>by cases h
 |v::vs,n::ns,h=>by
  cases h with
  |cons h1 h2=>obtain⟨t,rfl⟩:=h1;exact .cons _ _ (LU h2)
def jX (f:Ah->Int) (x:Dv) (h:Hs):Rs Dv:=match x with
 | .ref i=>match getL h i with
  |some xs=>match bF iN xs with
   |some ns=>if 0<ns.length then .ok (.int (f ns)) h else .bad
   |none=>.bad
  |none=>.bad
 |_=>.bad
theorem LV {f:Ah->Int}:mE G (λx H Q=>CM f [x] H Q) (jX f):=by
 intro E μ h H x vx Q s r o
 cases x with
 |ref i=>
  dsimp only[jX]at o
  cases q:getL h i with
  |none=>rw[q]at o;exact o.elim
  |some xs=>
   rw[q]at o;dsimp only at o
   cases q2:bF iN xs with
   |none=>rw[q2]at o;exact o.elim
   |some ns=>
    rw[q2]at o;dsimp only at o
    split at o
    ·rename_i h0;obtain⟨vs,e1,r1⟩:=s.ob i _ (dO q);obtain⟨_,rfl⟩:=r;exact⟨_,ns,rfl,by rw[e1,rR r1 q2],h0,o.val s rfl⟩
    ·exact o.elim
 |_=>exact o.elim
theorem Z0:di "sorted" = some (.builtin "sorted"):=by decide +kernel
theorem Z1 (hc:X.calm=true) (hg:Gl X "max") (hm:X.mg "max" = none) (ha:eF X G E [e] aR)
  (he:ar [e] X.env=[(false,eval e X.env)]:=by rfl):aJ X G E (.Call (.Name "max" p) [e] [] pos) (aF (f1 (jX gM)) aR):=
 qD (Bc.imp (ZY hc) λxs H Q ⟨v,h1,a,ns,h2,h3⟩=>⟨a,ns,by rw[h1,h2],h3⟩) (qE LV) hg hm JI ha (by decide) (by decide) he rfl
theorem Z2 (hc:X.calm=true) (hg:Gl X "min") (hm:X.mg "min" = none) (ha:eF X G E [e] aR)
  (he:ar [e] X.env=[(false,eval e X.env)]:=by rfl):aJ X G E (.Call (.Name "min" p) [e] [] pos) (aF (f1 (jX oE)) aR):=
 qD (Bc.imp (ZZ hc) λxs H Q ⟨v,h1,a,ns,h2,h3⟩=>⟨a,ns,by rw[h1,h2],h3⟩) (qE LV) hg hm JJ ha (by decide) (by decide) he rfl
end
section
variable{e o a b:bj}{es:List bj}{ma mb mo me:M Dv}{aR:M Al }{p pos np apos cpos:Pos}{y:Str}
def CN (_ j:Int):Prop:=0<j/\j<18446744073709551616
theorem Z3:Bp X (binaryOp .FloorDiv) (rI CN λi j=>.int (i / j)):=wL λi j _ _ _ _ _ hc q=>by
 have h1:(0:Int)<j:=hc.1;have h2:j<18446744073709551616:=hc.2;refine floordiv_int (by omega) (by rw[Int.fdiv_eq_ediv_of_nonneg i (by omega)];exact q) (.inl (PyProof.noPylong_of_log2 ?_));have h3:j.natAbs≠0:=by omega
 have h4:j.natAbs<2 ^ 64:=by omega
 have:=(Nat.log2_lt h3).mpr h4;omega
def uL (_ j:Int):Bool:=decide (0<j)&&decide (j<18446744073709551616)
theorem Z4 (i j:Int) (h:uL i j=true):CN i j:=by unfold uL at h;unfold CN;simpa only[da,decide_eq_true_eq]using h
def uM:Dv->Dv->Hs->Rs Dv:=mG uL λi j=>.int (i / j)
theorem LW (ha:aJ X G E a ma) (hb:aJ X G E b mb):aJ X G E (.BinOp a .FloorDiv b pos) (m2 uM ma mb):=rG Z3 (xB Z4) ha hb
def LX (K:aq):R2:=λx y H Q=>∃a b ys,x=.ref a/\y=.ref b/\Bk K H a []/\Bk K H b ys/\Q (.ref b) H
theorem op_catT0:Bp X (binaryOp .Add) (LX X.K):=by
 intro pins s σ H x y v u Q I rx ry ⟨a,b,ys,e1,e2,ha,hb,q⟩;subst e1;subst e2;cases rx;cases ry;obtain⟨its,r1,p1,_⟩:=I.tuple ha;obtain⟨Ci,r2,p2,_⟩:=I.tuple hb;have hn:its=[]:=r1.nil_iff.mpr rfl;subst hn;obtain⟨⟨cls,dd,data,sl⟩,ho,hc,n,hd⟩:=p1;obtain⟨⟨cls2,dd2,data2,sl2⟩,ho2,hc2,n2,hd2⟩:=p2;simp only at hc hd hc2 hd2;subst hc hd hc2 hd2;exact concat_meets ⟨_,ho,rfl⟩ ⟨_,ho2,rfl⟩ yd zx sd qv (ql _ _)
  (tuple_addW0 a b _ _ n n2 dd dd2 sl sl2 rfl) ⟨ho,ho2,⟨.ref b,H,I,rfl,q⟩⟩
def bO (x y:Dv) (h:Hs):Rs Dv:=match x,y with
 | .tup [],.tup ys=>.ok (.tup ys) h
 |x,y=>lC x y h
theorem Z5:fO G (λx y H Q=>LX G.K x y H Q∨BJ G.K x y H Q) bO:=by
 intro E μ h H x y vx vy Q s rx ry o;unfold bO at o
 split at o
 ·rename_i ys;obtain⟨a,vs,rfl,ea,ra⟩:=rx;obtain⟨b,ws,rfl,eb,rb⟩:=id ry;have:vs=[]:=by rw[RelDL]at ra;exact ra
  subst this;exact .inl ⟨a,b,ws,rfl,rfl,Fi ea,Fi eb,o.val s ry⟩
 ·exact .inr (WI E μ h H _ _ vx vy Q s rx ry o)
theorem iE (ha:aJ X G E a ma) (hb:aJ X G E b mb):aJ X G E (.BinOp a .Add b pos) (m2 bO ma mb):=λhK=>rG (op_catT0.or WH) (by rw[hK];exact Z5) ha hb hK
def fK (k:Int):Ah->Option Nat
 | []=>none
 |n::ns=>if n=k then some 0 else(fK k ns).map (·+1)
theorem uN {k:Int}:∀{ns:Ah}{j:Nat},fK k ns=some j->ns[j]?=some k/\∀m,m<j->ns[m]?≠some k
 | [],j,h=>by cases h
 |n::ns,j,h=>by
  unfold fK at h
  split at h
  ·rename_i e;cases h;exact⟨by simp[e],λm hm=>by omega⟩
  ·rename_i e
   cases q:fK k ns with
   |none=>rw[q]at h;cases h
   |some i=>
    rw[q]at h;cases h;obtain⟨h1,h2⟩:=uN q;refine⟨by simpa using h1,λm hm=>?_⟩
    cases m with
    |zero=>simpa using e
    |succ m=>
     have Eb:m<i:=by simpa using hm
     simpa using h2 m Eb
theorem LY:∀{vs:List af}{ns:Ah}{i:Nat}{n:Int},ll vs ns->ns[i]?=some n->∃t,vs[i]?=some (.int n t)
 |_,_,0,n,.cons m t h,e=>by simp at e;subst e;exact⟨t,rfl⟩
 |_,_,i+1,n,.cons m t h,e=>by simpa using LY h (by simpa using e)
 |_,_,i,n,.nil,e=>by simp at e
theorem Z6 (a b:af):argsOk "tuple.index" ⟨[a,b],[]⟩:=by unfold argsOk;kernel_rfl
theorem Z7 {prog:bh}{w:cm}{A:bu}{E:af->ag->Prop}{s:ag}{t:ah}{items:Array af}{ns:Ah}{k:Int}{u:Tok}{j:Nat}{P:Fin->ag->Prop}(ht:yz s.heap t items) (hi:ll items.toList ns)
  (hj:ns[j]?=some k) (hno:∀m,m<j->ns[m]?≠some k) (h:P (.done (.ret (.int j s.toks))) { s with toks:=s.toks+1 }):wpAny (model prog w) A (mw.«tuple.index» ⟨[.ref t,.int k u],[]⟩) P E s:=by
 show wpAny _ _ (vc (.ref t) >>= _) _ _ s;refine aa (zy ht ?_);refine aa (ai ?_);refine aa (ai ?_);show wpAny _ _ (forIn [:min items.size items.size] (none,()) _ >>= _) _ _ s;rw[zh,Std.Legacy.Range.forIn_eq_forIn_range'];have Cd:items.size=ns.length:=by have:=hi.length;simpa using this
 have hjn:j<ns.length:=(az.mp hj).1;refine aa (pw _ (λrest b s'=>b=(none,())/\s'=s/\∃i,i<=j/\rest=zu i (items.size - i) 1) _ ?_ ?_ _ _ ⟨rfl,rfl,0,jg _, ?_⟩)
 ·rintro x rest b s' ⟨rfl,rfl,i,Cr,hr⟩
  have hlt:i<items.size:=by omega
  obtain⟨z,hz⟩:∃z,items.size - i=z+1:=⟨items.size - i - 1,by omega⟩
  rw[hz,List.range'_succ]at hr;injection hr with hx Ea;subst hx;obtain⟨n,hn⟩:∃n,ns[x]?=some n:=⟨ns[x]'(by omega),by simp[show x<ns.length by omega]⟩
  obtain⟨tt,ht2⟩:=LY hi hn;have ht3:items[x]?=some (.int n tt):=by simpa using ht2
  rw[ht3];dsimp only;refine aa (xw ?_)
  by_cases hxj:x=j
  ·subst hxj;have hnk:n=k:=by rw[hj]at hn;cases hn;rfl
   subst hnk;rw[if_pos (by simp)];refine aa (aa (wpAny_mkInt ?_));exact ai (ai (ai h))
  ·have hne:n≠k:=λe=>hno x (by omega) (by rw[hn,e]);rw[if_neg (by simpa using hne)];exact ai ⟨rfl,rfl,x+1,by omega,by rw[Ea];congr 1;omega⟩
 ·rintro b s' ⟨rfl,rfl,i,Cr,hr⟩
  exfalso
  have hlt:i<items.size:=by omega
  have:=congrArg qu hr;simp at this;omega
 ·simp[Std.Legacy.Range.size]
theorem Z8:A2 X "tuple.index" (λx xs H Q=>∃(a:ah) (ns:Ah) (k:Int) (j:Nat),x=.ref a/\xs=[.int k]/\H a=some (.tup (ns.map Fm))/\fK k ns=some j/\Q (.int j) H):=by intro pins s σ H x xs v us Q I rx rv ⟨a,ns,k,j,e1,e2,ha,hj,q⟩;subst e1;subst e2;cases rx;obtain⟨u,rfl,ru⟩:=jD rv;obtain⟨t,rfl⟩:=ru;obtain⟨its,rits,p1,_⟩:=I.tuple (Fi ha);obtain⟨h1,h2⟩:=uN hj;refine ff xi p1.typeIs PySem.F.entry_tuple_index (Z7 p1 (LU rits) h1 h2 ⟨_,rfl, ?_⟩) (Z6 _ _);exact⟨.int j,H,I.tok _,⟨_,rfl⟩,q⟩
theorem Z9 {id:String}{name:Str}{r:V->Ge->Hp->VK->Prop}{to:TE}{t:TA}(slot:Slot "tuple" name id) (hty:typeOf (.builtin id)=pure (.type "method_descriptor")) (hm:A2 X id r) (ho:PE X o to) (ha:PA X [e] t)
  (hbase:attributeBase o name X.env (eval o X.env)=eval o X.env)
  (hfew:((backTo cpos (ar [e] X.env)).all (λx=>!x.1)&&(backToKw cpos (keywordEach [] X.env)).all (λx=>x.1.isSome)
   && decide ([e].length+([]:List Keyword).length+(if([]:List Keyword).isEmpty then 0 else 1)<30))=true)
  (hline:(apos.endLine==cpos.line)=true) (hs:ar [e] X.env=[(false,eval e X.env)]):
  PE X (.Call (.Attribute o name apos) [e] [] cpos) (λσ H Q=>to σ H λx H1=>(∃a xs,x=.ref a/\H1 a=some (.tup xs))/\t σ H1 λxs H2=>r x xs H2 Q):=by
 intro pins s σ H Q I h;refine wpAny_Call_method_late hbase hfew hline rfl (aZ (ho pins s σ H _ I h) λv s1 ⟨x,H1,I1,r1,⟨a,ys,ex,ea⟩,q1⟩=>?_);subst ex;cases r1;obtain⟨_,its,rits,ob,g1,g2,g3,n,g4⟩:=(show Bb X.prog X.w H1 s1.heap a (.tup ys) from I1.hok a _ ea)
 refine⟨"tuple",id,PySem.F.plainAttrs_tuple,slot,hty,⟨ob,g1,g2⟩,λb eb=>?_, ?_⟩
 ·cases eb;exact⟨ob,g1,g3⟩
 ·have hA:=ha cpos pins s1 σ H1 _ I1 q1;rw[hs]at hA ⊢;exact yq (by rfl) (uh (aZ hA λus s2 ⟨vs,H2,I2,r2,q2⟩=>hm pins s2 σ H2 (.ref a) vs (.ref a) us Q I2 rfl r2 q2))
def CO (x i:Dv) (h:Hs):Rs Dv:=match x,i with
 | .tup xs,.int k=>match bF iN xs with
  |some ns=>match fK k ns with
   |some j=>.ok (.int j) h
   |none=>.bad
  |none=>.bad
 |_,_=>.bad
def LZ (x:Dv):Bool:=match x with
 | .tup _=>true
 |_=>false
def eY (mo me:M Dv):M Dv:=λρ h=>(mo ρ h).bind λx h1=>if LZ x=true then(me ρ h1).bind λd h2=>CO x d h2 else .bad
theorem uO (ho:aJ X G E (.Name y np) mo) (he:aJ X G E e me) (hs:ar [e] X.env=[(false,eval e X.env)]:=by rfl) (hl:(apos.endLine==cpos.line)=true:=by rfl):aJ X G E (.Call (.Attribute (.Name y np) "index" apos) [e] [] cpos) (eY mo me):=λhK=>
 Fo (Z9 xi PySem.F.type_tuple_index Z8 (ho hK) (iI (he hK) jM hs) rfl (by rw[hs];rfl) hl hs) λσ H Q ⟨μ,ρ,h,rs,s,oo⟩=>fG rs s oo λμ1 x h1 vx H1 x1 Bm s1 r1 o1=>by
  split at o1
  ·rename_i hl
   cases x with
   |tup xs=>
    obtain⟨a,vs,rfl,ea,ra⟩:=id r1;refine⟨⟨a,vs,rfl,ea⟩,fG Bm s1 o1 λμ2 d h2 vd H2 x2 Dj s2 r2 o2=>?_⟩
    cases d with
    |int k=>
     dsimp only[CO]at o2
     cases q:bF iN xs with
     |none=>rw[q]at o2;exact o2.elim
     |some ns=>
      rw[q]at o2;dsimp only at o2
      cases q2:fK k ns with
      |none=>rw[q2]at o2;exact o2.elim
      |some j=>rw[q2]at o2;obtain⟨a',Cf,e',ea',ra'⟩:=Fp x2 _ _ r1;cases e';rw[Ax]at r2;subst r2;exact⟨_,ns,k,j,rfl,rfl,by rw[ea',rR ra' q],q2,o2.val s2 rfl⟩
    |_=>exact o2.elim
   |_=>cases hl
  ·exact o1.elim
end
section
variable{k:Nat}{a b:bj}{ma mb mo:M Dv}{pos:Pos}
theorem L0 (g:Good X G E k) (ha:aJ X G E a ma) (hb:aJ X G E b mb) (hm:lastMarks [.In] [b]=false:=by with_unfolding_all rfl):aJ X G E (.Compare a [.In] [b] pos) (m2 (bP false) ma mb):=λhK=>nW (LB g.room.units) (by rw[hK];exact xY false) ha hb hm hK
theorem L6 (g:Good X G E k) (ha:aJ X G E a ma) (hb:aJ X G E b mb) (hm:lastMarks [.NotIn] [b]=false:=by with_unfolding_all rfl):aJ X G E (.Compare a [.NotIn] [b] pos) (m2 (bP true) ma mb):=λhK=>nW (LC g.room.units) (by rw[hK];exact xY true) ha hb hm hK
theorem a9 (g:Good X G E k) (ha:aJ X G E a ma) (hb:aJ X G E b mb) (hm:lastMarks [.In] [b]=false:=by with_unfolding_all rfl):fF X G E (.Compare a [.In] [b] pos) (mB (m2 (bP false) ma mb)):=λhK=>mD (LB g.room.units) (by rw[hK];exact xY false) ha hb hm hK
theorem mQ (g:Good X G E k) (ha:aJ X G E a ma) (hb:aJ X G E b mb) (hm:lastMarks [.NotIn] [b]=false:=by with_unfolding_all rfl):fF X G E (.Compare a [.NotIn] [b] pos) (mB (m2 (bP true) ma mb)):=λhK=>mD (LC g.room.units) (by rw[hK];exact xY true) ha hb hm hK
theorem b9 (ha:aJ X G E a ma) (hb:aJ X G E b mb):aJ X G E (.Compare a [.Is] [b] pos) (m2 (fW false) ma mb):=nW LG (CG false) ha hb (iQ _)
theorem c7 (ha:aJ X G E a ma) (hb:aJ X G E b mb):fF X G E (.Compare a [.Is] [b] pos) (mB (m2 (fW false) ma mb)):=mD LG (CG false) ha hb (iQ _)
theorem L7 (ha:aJ X G E a ma) (hb:aJ X G E b mb):fF X G E (.Compare a [.IsNot] [b] pos) (mB (m2 (fW true) ma mb)):=mD YN (CG true) ha hb (iQ _)
end
theorem oF {H:Hs}{n:Nat}{xs ys:Al}(e:getL H n=some xs):getL (H.set n (.lst ys)) n=some ys:=by have h:=(az.mp (dO e)).1;unfold getL;rw[df h]
theorem uP {H:Hs}{n j:Nat}{o:Ob}(h:n≠j):getL (H.set n o) j=getL H j:=by unfold getL;rw[du h]
theorem oG {H:Hs}{n:Nat}{xs:Al}(e:getL H n=some xs):n<H.length:=(az.mp (dO e)).1
theorem iX {H l:Hs}{n:Nat}{xs:Al}(e:getL H n=some xs):getL (H++l) n=some xs:=by unfold getL;rw[dz (oG e),dO e]
structure Fr (S:Ai) (H H':Hs):Prop where
 le:H.length<=H'.length
 at_:∀j,j<H.length->j∉S->H'[j]?=H[j]?
theorem Fr.refl {S:Ai}{H:Hs}:Fr S H H:=⟨aj _,λ_ _ _=>rfl⟩
theorem Fr.trans {S T:Ai}{H H1 H2:Hs}(a:Fr S H H1) (b:Fr T H1 H2) (h:∀j∈T,j∈S∨H.length<=j):Fr S H H2:=⟨dh a.le b.le,λj hj hS=>(b.at_ j (av hj a.le) λz=>(h j z).elim hS λw=>absurd (av hj w) (gv _)).trans (a.at_ j hj hS)⟩
theorem Fr.app {S:Ai}{H l:Hs}:Fr S H (H++l):=⟨by simp,λj hj _=>dz hj⟩
theorem Fr.set {H:Hs}{n:Nat}{o:Ob}:Fr [n] H (H.set n o):=⟨by simp,λj hj hS=>du (by simpa using cx (by simpa using hS))⟩
theorem Fr.getL {S:Ai}{H H':Hs}{j:Nat}{xs:Al}(a:Fr S H H') (e:getL H j=some xs) (h:j∉S):getL H' j=some xs:=by unfold L2.Mr.getL at e ⊢;rw[a.at_ j (oG e) h];exact e
theorem Fr.mono {S T:Ai}{H H':Hs}(a:Fr S H H') (h:∀j∈S,j∈T):Fr T H H':=⟨a.le,λj hj hT=>a.at_ j hj λz=>hT (h j z)⟩
theorem bH {m u:MS}{ρ ρ1:Ev}{h h1:Hs}(e:m ρ h=.nx ρ1 h1):aH m u ρ h=u ρ1 h1:=by unfold aH;rw[e]
theorem pN {mi:M Src}{st:dP}{b:MS}{ρ:Ev}{h h1:Hs}{src:Src}(e:mi ρ h=.ok src h1):cU mi st b ρ h=eJ src st b src.n 0 ρ h1:=by unfold cU;rw[e];rfl
theorem pO {c:M Bool}{t u:MS}{ρ:Ev}{h h1:Hs}(e:c ρ h=.ok true h1):aW c t u ρ h=t ρ h1:=by unfold aW;rw[e];rfl
theorem iO {c:M Bool}{t u:MS}{ρ:Ev}{h h1:Hs}(e:c ρ h=.ok false h1):aW c t u ρ h=u ρ h1:=by unfold aW;rw[e];rfl
theorem rS {src:Src}{sg:dP}{b:MS}{f k:Nat}{ρ ρ1 ρ2:Ev}{H H2:Hs}{d:Dv}(hg:src.get k H=some d) (hs:sg d ρ=some ρ1) (hb:b ρ1 H=.nx ρ2 H2):eJ src sg b (f+1) k ρ H=eJ src sg b f (k+1) ρ2 H2:=by simp[eJ,hg,hs,hb]
theorem L8 {src:Src}{sg:dP}{b:MS}(P:Nat->Ev->Hs->Prop)
  (step:∀k ρ H,k<src.n->P k ρ H->∃d ρ1 ρ2 H2,src.get k H=some d/\sg d ρ=some ρ1/\b ρ1 H=.nx ρ2 H2/\P (k+1) ρ2 H2)
  (fin:∀ρ H,P src.n ρ H->src.fin H=true):∀(f k:Nat) (ρ:Ev) (H:Hs),f+k=src.n->P k ρ H->∃ρ' H',eJ src sg b f k ρ H=.nx ρ' H'/\P src.n ρ' H'
 |0,k,ρ,H,h,p=>by
  have hk:k=src.n:=by omega
  subst hk;exact⟨ρ,H,by simp[eJ,fin ρ H p],p⟩
 |f+1,k,ρ,H,h,p=>by obtain⟨d,ρ1,ρ2,H2,e1,e2,e3,p2⟩:=step k ρ H (by omega) p;rw[rS e1 e2 e3];exact L8 P step fin f (k+1) ρ2 H2 (by omega) p2
theorem pP {mi:M Src}{src:Src}{sg:dP}{b:MS}{ρ:Ev}{H H1:Hs}(hi:mi ρ H=.ok src H1) (P:Nat->Ev->Hs->Prop)
  (step:∀k ρ H,k<src.n->P k ρ H->∃d ρ1 ρ2 H2,src.get k H=some d/\sg d ρ=some ρ1/\b ρ1 H=.nx ρ2 H2/\P (k+1) ρ2 H2)
  (fin:∀ρ H,P src.n ρ H->src.fin H=true) (p:P 0 ρ H1):∃ρ' H',cU mi sg b ρ H=.nx ρ' H'/\P src.n ρ' H':=by
 rw[pN hi];exact L8 P step fin src.n 0 ρ H1 (by omega) p
theorem CP {src:Src}{sg:dP}{t:M Bool}{m:MC}(P:Nat->Ev->Hs->Al->Prop)
  (step:∀k ρ H acc,k<src.n->P k ρ H acc->∃d ρ1,src.get k H=some d/\sg d ρ=some ρ1 /\
   ((∃H2,t ρ1 H=.ok false H2/\P (k+1) ρ1 H2 acc)∨∃H2 ρ3 acc3 H3,t ρ1 H=.ok true H2/\m ρ1 H2 acc=.ok (ρ3,acc3) H3/\P (k+1) ρ3 H3 acc3))
  (fin:∀ρ H acc,P src.n ρ H acc->src.fin H=true):∀(f k:Nat) (ρ:Ev) (H:Hs) (acc:Al),f+k=src.n->P k ρ H acc->∃ρ' H' Ex,gS src sg t m f k ρ H acc=.ok (ρ',Ex) H'/\P src.n ρ' H' Ex
 |0,k,ρ,H,acc,h,p=>by
  have hk:k=src.n:=by omega
  subst hk;exact⟨ρ,H,acc,by simp[gS,fin ρ H acc p],p⟩
 |f+1,k,ρ,H,acc,h,p=>by
  obtain⟨d,ρ1,e1,e2,e3⟩:=step k ρ H acc (by omega) p
  rcases e3 with⟨H2,e3,p2⟩|⟨H2,ρ3,acc3,H3,e3,e4,p2⟩
  ·obtain⟨ρ',H',Ex,e5,p5⟩:=CP P step fin f (k+1) ρ1 H2 acc (by omega) p2;exact⟨ρ',H',Ex,by simp[gS,e1,e2,e3,e5],p5⟩
  ·obtain⟨ρ',H',Ex,e5,p5⟩:=CP P step fin f (k+1) ρ3 H3 acc3 (by omega) p2;exact⟨ρ',H',Ex,by simp[gS,e1,e2,e3,e4,e5],p5⟩
theorem uQ (k:Nat) (H:Hs):∀ns:Ah,bF (bQ (k+1) H) (ns.map Fc)=some (ns.map Fx)
 | []=>rfl
 |n::ns=>by rw[dk,bF,uQ k H ns];rfl
def aI (p:Int×Int):Dv:=.tup [.int p.1,.int p.2]
def iP (p:Int×Int):Dt:=.tup [.int p.1,.int p.2]
theorem CQ (k:Nat) (H:Hs) (p:Int×Int):bQ (k+2) H (aI p)=some (iP p):=rfl
theorem yA (k:Nat) (H:Hs):∀ps:wo,bF (bQ (k+2) H) (ps.map aI)=some (ps.map iP)
 | []=>rfl
 |p::ps=>by rw[dk,bF,yA k H ps,CQ];rfl
theorem CS (p q:Int×Int):bI (iP p) (iP q)=decide (p=q):=by obtain⟨a,b⟩:=p;obtain⟨c,d⟩:=q;simp only[iP,bI,fS,Bool.and_true];rw[cz];simp
theorem oH (neg:Bool) (H:Hs) (p:Int×Int) (ps:wo):bP neg (aI p) (.tup (ps.map aI)) H=.ok (.bl (if neg then !decide (p∈ps)else decide (p∈ps))) H:=by
 have e:(ps.map iP).any (λt=>bI t (iP p))=decide (p∈ps):=by
  rw[cz];simp only[tu,my,uk,CS,decide_eq_true_eq];constructor
  ·rintro ⟨q,hq,rfl⟩;exact hq
  ·intro h;exact⟨p,h,rfl⟩
 have h1:bF (bQ bY H) (ps.map aI)=some (ps.map iP):=yA 28 H ps;have h2:bQ bY H (aI p)=some (iP p):=CQ 28 H p;show kK [] neg (aI p) (.tup (ps.map aI)) H=_;simp only[kK,fV,h1,h2,e]
theorem pQ (neg:Bool) (H:Hs) (x:Int) (ns:Ah):bP neg (.int x) (.tup (ns.map Fc)) H=.ok (.bl (if neg then !decide (x∈ns)else decide (x∈ns))) H:=by
 have e:(ns.map Fx).any (λt=>bI t (.int x))=decide (x∈ns):=by
  rw[cz];simp only[tu,my,uk,bI,decide_eq_true_eq,beq_iff_eq];constructor
  ·rintro ⟨q,hq,rfl⟩;exact hq
  ·intro h;exact⟨x,h,rfl⟩
 have h1:bF (bQ bY H) (ns.map Fc)=some (ns.map Fx):=uQ 29 H ns;have h2:bQ bY H (.int x)=some (.int x):=rfl;show kK [] neg (.int x) (.tup (ns.map Fc)) H=_;simp only[kK,fV,h1,h2,e]
section
variable{elt tg iter Ej Bn:bj}{ifs Cq:List bj}{sc:gu}{ps px pos:Pos}{N:Aj}{cap:List (Option Nat)}{mi mi':M Src}{st Dw:dP}{test test':M Bool}{me:M Dv}{i:Nat}{x:Str}
theorem c8 (hN:X.N.Nodup) (hi':X.N[i]?=some x) (hc:X.calm=true) (C:Ca X sc N cap) (hi:lD X G E tg iter mi) (hg:∀s H ex,mI (dM X sc N s H ex) G tg st) (Er:∀s H ex,rL (dM X sc N s H ex) G ifs test) (hel:∀s H ex,aJ (dM X sc N s H ex) G E0 elt me)
  (hx:X.env.scope.names.lookup x=some .local:=by rfl) (hsw:swapsWith (.ListComp elt [⟨tg,iter,ifs,0⟩] sc ps) (some (.Name x px)) pos.line X.env=pure true:=by rfl)
  (hs:∀x,foldedSetIterable iter X.env x=pure x:=by intro _;rfl):iU X G E (.Assign [.Name x px] (.ListComp elt [⟨tg,iter,ifs,0⟩] sc ps) pos) (aL (bU (bT mi cap st test (bM me))) (aE i)):=λhK=>
 PS.imp (V3 hsw hN hi' hx hc C rfl (λit D env=>IS elt tg iter ifs sc ps (.ref it) D env) (hi hK) (λs H ex=>hg s H ex hK) (λs H ex=>Er s H ex hK) (λs H ex D=>PCl.imp (A9 (hel s H ex hK)) λ_ _ _ _ t=>BP t) hs) λD σ H ⟨μ,ρ,h,rs,s,o⟩=>BQ (JW (oZ rs s o λμ1 d h1 v H1 x1 Bm s1 r1 o1=>o1 μ1 H1 _ Fq s1 (Bm.set i r1)))
end
end L2.Mr
open L2.Mr.Fr renaming app->Fe,refl->Fh,set->Fz,trans->Ga
namespace SoM
open PySem PySem.W PyProof.Rows
variable{n:Nat}{f:Nat->Nat}{s:ag}
def oI (n:Nat) (f:Nat->Nat) (i j:Nat) (C:Bool->ag->Prop) (s:ag):Prop:=i<n/\j<n/\C (decide (f i<f j)) s
def F (f:Nat->Nat) (p:Array Nat) (k:Nat):Nat:=f (p.getD k 0)
def Ent (n:Nat) (p:Array Nat):Prop:=p.size=n/\p.toList.Perm (bp n)
theorem Ent.lt {p:Array Nat}(e:Ent n p) (hn:0<n) (k:Nat):p.getD k 0<n:=by
 by_cases h:k<p.size
 ·have:p.getD k 0=p[k]:=by simp[kn,h]
  rw[this];have hm:p[k]∈p.toList:=by simp
  exact br.mp (e.2.mem_iff.mp hm)
 ·have:p.getD k 0=0:=by simp[kn,h]
  omega
theorem uR {p q:Array Nat}{i j:Nat}(h:p[i]?=q[j]?):F f p i=F f q j:=by unfold F;simp only[Array.getD_eq_getD_getElem?,h]
theorem Ent.mirror {p:Array Nat}(e:Ent n p) (i j d:Nat):Ent n (mirror p i j d):=⟨(mirror_size ..).trans e.1,((xj.mp (mirror_perm p i j d))).trans e.2⟩
theorem Ent.bubble {p:Array Nat}(e:Ent n p) (k d:Nat):Ent n (bubble p k d):=⟨(bubble_size ..).trans e.1,((xj.mp (bubble_perm p k d))).trans e.2⟩
theorem Ent.rev {p:Array Nat}(e:Ent n p) (i j:Nat):Ent n (kas_rev p i j):=e.mirror _ _ _
theorem uS {p:Array Nat}{i j:Nat}(hj:j<=p.size) (k:Nat):F f (kas_rev p i j) k=if i<=k/\k<j then F f p (i+j - 1 - k)else F f p k:=by
 have e:=getElem?_mirror_all (i:=i) hj k
 by_cases h:i<=k/\k<j
 ·rw[if_pos h]at e ⊢;exact uR e
 ·rw[if_neg h]at e ⊢;exact uR e
theorem L9 {p:Array Nat}{k d:Nat}(hs:k<p.size) (hd:d<=k) (i:Nat):F f (bubble p k d) i=if i=k - d then F f p k else if k - d<i/\i<=k then F f p (i - 1)else F f p i:=by
 have e:=getElem?_bubble hs d hd i
 by_cases h1:i=k - d
 ·rw[if_pos h1]at e ⊢;exact uR e
 ·rw[if_neg h1]at e ⊢
  by_cases h2:k - d<i/\i<=k
  ·rw[if_pos h2]at e ⊢;exact uR e
  ·rw[if_neg h2]at e ⊢;exact uR e
def Inc (f:Nat->Nat) (p:Array Nat) (m:Nat):Prop:=∀i j,i<=j->j<m->F f p i<=F f p j
def Dec (f:Nat->Nat) (p:Array Nat) (m:Nat):Prop:=∀i j,i<=j->j<m->F f p j<=F f p i
theorem Inc.succ {p:Array Nat}{m:Nat}(h:Inc f p m) (hm:1<=m) (h1:F f p (m - 1)<=F f p m):Inc f p (m+1):=by
 intro i j Cr hj
 by_cases q:j=m
 ·subst q
  by_cases r:i=j
  ·subst r;exact aj _
  ·exact dh (h i (j - 1) (by omega) (by omega)) h1
 ·exact h i j Cr (by omega)
theorem Dec.succ {p:Array Nat}{m:Nat}(h:Dec f p m) (hm:1<=m) (h1:F f p m<=F f p (m - 1)):Dec f p (m+1):=by
 intro i j Cr hj
 by_cases q:j=m
 ·subst q
  by_cases r:i=j
  ·subst r;exact aj _
  ·exact dh h1 (h i (j - 1) (by omega) (by omega))
 ·exact h i j Cr (by omega)
theorem CT {p:Array Nat}(e:Ent n p) (hn:0<n) {Q:Nat->ag->Prop}:∀(fu m:Nat) (s:ag),1<=m->Inc f p m->
  (∀m',m<=m'->m'<=m+fu->Inc f p m'->(m'=m+fu∨F f p m'<F f p (m' - 1))->Q m' s)->(kas_asc p fu m).kasWp (oI n f) Q s
 |0,m,s,h1,hi,h=>h m (aj _) (aj _) hi (.inl rfl)
 |fu+1,m,s,h1,hi,h=>by
  refine⟨e.lt hn _,e.lt hn _, ?_⟩
  by_cases c:f (p.getD m 0)<f (p.getD (m - 1) 0)
  ·rw[decide_eq_true c];exact h m (aj _) (by omega) hi (.inr c)
  ·rw[decide_eq_false c];refine CT e hn fu (m+1) s (by omega) (hi.succ h1 (wq c)) λm' a b c d=>h m' (by omega) (by omega) c ?_
   rcases d with d|d
   ·exact .inl (by omega)
   ·exact .inr d
theorem yB (hn:0<n) {Q:Array Nat×Nat×Nat->ag->Prop}:∀(fu m q:Nat) (p:Array Nat) (s:ag),Ent n p->q+1<=m->m+fu<=n->Dec f p m->(∀k,m - 1 - q<=k->k<m->F f p k=F f p (m - 1))->
  (∀p' m' q',Ent n p'->q'+1<=m'->m<=m'->m'<=m+fu->Dec f p' m'->(∀k,m' - 1 - q'<=k->k<m'->F f p' k=F f p' (m' - 1))->Q (p',m',q') s)->(kas_desc fu p m q).kasWp (oI n f) Q s
 |0,m,q,p,s,e,h1,h2,hd,he,h=>h p m q e h1 (aj _) (aj _) hd he
 |fu+1,m,q,p,s,e,h1,h2,hd,he,h=>by
  refine⟨e.lt hn _,e.lt hn _, ?_⟩
  by_cases c:f (p.getD m 0)<f (p.getD (m - 1) 0)
  ·have c':F f p m<F f p (m - 1):=c;rw[decide_eq_true c];show KasT.kasWp _ (if true=true then(if q>0 then _ else _)else _) _ _;rw[if_pos rfl]
   by_cases hq:q>0
   ·rw[if_pos hq];have Cd:m<=p.size:=by rw[e.1];omega
    have hF:∀k,F f (kas_rev p (m - (q+1)) m) k=F f p k:=by
     intro k;rw[uS Cd]
     split
     ·rw[he _ (by omega) (by omega),he k (by omega) (by omega)]
     ·rfl
    have Cs:Dec f (kas_rev p (m - (q+1)) m) (m+1):=by intro i j Cr hj;rw[hF,hF];exact hd.succ (by omega) (gy c') i j Cr hj
    refine yB hn fu (m+1) 0 _ s (e.rev _ _) (by omega) (by omega) Cs ?_ λp' m' q' a b c d=>h p' m' q' a b (by omega) (by omega);intro k k1 k2;have:k=m:=by omega
    subst this;rfl
   ·rw[if_neg hq];refine yB hn fu (m+1) 0 _ s e (by omega) (by omega) (hd.succ (by omega) (gy c')) ?_ λp' m' q' a b c d=>h p' m' q' a b (by omega) (by omega);intro k k1 k2;have:k=m:=by omega
    subst this;rfl
  ·have c':¬ F f p m<F f p (m - 1):=c;rw[decide_eq_false c];show KasT.kasWp _ (if false=true then _ else KasT.ask _ _ _) _ _;rw[if_neg (by simp)];refine⟨e.lt hn _,e.lt hn _, ?_⟩
   by_cases c2:f (p.getD (m - 1) 0)<f (p.getD m 0)
   ·rw[decide_eq_true c2];exact h p m q e h1 (aj _) (by omega) hd he
   ·have c2':¬ F f p (m - 1)<F f p m:=c2;rw[decide_eq_false c2];have eq:F f p m=F f p (m - 1):=by omega
    refine yB hn fu (m+1) (q+1) _ s e (by omega) (by omega) (hd.succ (by omega) (by omega)) ?_ λp' m' q' a b c d=>h p' m' q' a b (by omega) (by omega);intro k k1 k2;show F f p k=F f p m
    by_cases r:k=m
    ·subst r;rfl
    ·rw[eq];exact he k (by omega) (by omega)
theorem Dec.rev {p:Array Nat}{m:Nat}(hm:m<=p.size) (h:Dec f p m):Inc f (kas_rev p 0 m) m:=by intro i j Cr hj;rw[uS hm,uS hm,if_pos ⟨jg _,by omega⟩,if_pos ⟨jg _,hj⟩];exact h _ _ (by omega) (by omega)
theorem MA (hn:0<n) {p:Array Nat}{m:Nat}{Q:Nat×Array Nat->ag->Prop}(e:Ent n p) (h1:1<=m) (h2:m<=n) (hd:Dec f p m)
  (h:∀m' p',Ent n p'->1<=m'->m'<=n->Inc f p' m'->Q (m',p') s):(kas_tail3 m n p).kasWp (oI n f) Q s:=by
 unfold kas_tail3;rw[KasT.kasWp_bind];refine CT (e.rev 0 m) hn (n - m) m s h1 (hd.rev (by rw[e.1];exact h2)) λm' a b c _=>?_;exact h m' _ (e.rev 0 m) (by omega) (by omega) c
theorem MB (hn:0<n) {p:Array Nat}{m:Nat}{Q:Nat×Array Nat->ag->Prop}(e:Ent n p) (h2:m+1<=n) (hd:Dec f p (m+1))
  (h:∀m' p',Ent n p'->1<=m'->m'<=n->Inc f p' m'->Q (m',p') s):(kas_descPart m n p).kasWp (oI n f) Q s:=by
 unfold kas_descPart;rw[KasT.kasWp_bind];refine yB hn (n - (m+1)) (m+1) 0 p s e (by omega) (by omega) hd (λk k1 k2=>by (have:k=m:=by omega);subst this;rfl) λp' m' q' e' a b c d eq=>?_;show KasT.kasWp _ (if q'>0 then _ else _) _ _
 by_cases hq:q'>0
 ·rw[if_pos hq];have Cd:m'<=p'.size:=by rw[e'.1];omega
  have hF:∀k,F f (kas_rev p' (m' - (q'+1)) m') k=F f p' k:=by
   intro k;rw[uS Cd]
   split
   ·rw[eq _ (by omega) (by omega),eq k (by omega) (by omega)]
   ·rfl
  refine MA hn (e'.rev _ _) (show 1<=m' by omega) (show m'<=n by omega) ?_ h;intro i j Cr hj;rw[hF,hF];exact d i j Cr hj
 ·rw[if_neg hq];exact MA hn e' (show 1<=m' by omega) (show m'<=n by omega) d h
theorem c9 (hn:1<=n) {p:Array Nat}{Q:Nat×Array Nat->ag->Prop}(e:Ent n p)
  (h:∀m' p',Ent n p'->1<=m'->m'<=n->Inc f p' m'->Q (m',p') s):(kas_count n p).kasWp (oI n f) Q s:=by
 unfold kas_count;rw[KasT.kasWp_bind];refine CT e (by omega) (n - 1) 1 s (aj _) (λi j Cr hj=>by (have:i=j:=by omega);subst this;exact aj _) λm a b c d=>?_;show KasT.kasWp _ (if(m==n)=true then _ else if m>1 then _ else _) _ _
 by_cases q:m=n
 ·rw[if_pos (beq_iff_eq.mpr q)];exact h m p e (by omega) (by omega) c
 ·rw[if_neg (by intro z;exact q (beq_iff_eq.mp z))];have hlt:F f p m<F f p (m - 1):=by
   rcases d with d|d
   ·omega
   ·exact d
  by_cases q1:m>1
  ·rw[if_pos q1];refine⟨e.lt (by omega) _,e.lt (by omega) _, ?_⟩
   by_cases c2:f (p.getD 0 0)<f (p.getD (m - 1) 0)
   ·rw[decide_eq_true c2];exact h m p e (by omega) (by omega) c
   ·have c2':¬ F f p 0<F f p (m - 1):=c2;rw[decide_eq_false c2];have Cd:m<=p.size:=by rw[e.1];omega
    have eq:∀k,k<m->F f p k=F f p 0:=by intro k hk;have:=c 0 k (by omega) hk;have:=c k (m - 1) (by omega) (by omega);omega
    have hF:∀k,F f (kas_rev p 0 m) k=F f p k:=by
     intro k;rw[uS Cd]
     split
     ·rw[eq _ (by omega),eq k (by omega)]
     ·rfl
    refine MB (by omega) (e.rev _ _) (by omega) ?_ h;intro i j Cr hj;rw[hF,hF]
    by_cases r:j=m
    ·subst r
     by_cases r2:i=j
     ·subst r2;exact aj _
     ·have:=eq i (by omega);have:=eq (j - 1) (by omega);omega
    ·rw[eq i (by omega),eq j (by omega)];exact aj _
  ·rw[if_neg q1];have:m=1:=by omega
   subst this;refine MB (by omega) e (by omega) ?_ h;intro i j Cr hj
   by_cases r:i=j
   ·subst r;exact aj _
   ·have h1:i=0:=by omega
    have h2:j=1:=by omega
    subst h1;subst h2;exact gy hlt
theorem CU {p:Array Nat}(e:Ent n p) (hn:0<n) {k:Nat}(hi:Inc f p k) {Q:Nat->ag->Prop}:∀(fu l r:Nat) (s:ag),r - l<=fu->l<=r->r<=k->
  (∀i,i<l->F f p i<=F f p k)->(∀i,r<=i->i<k->F f p k<F f p i)->
  (∀l',l'<=k->(∀i,i<l'->F f p i<=F f p k)->(∀i,l'<=i->i<k->F f p k<F f p i)->Q l' s)->(kas_place p k fu l r).kasWp (oI n f) Q s
 |0,l,r,s,h1,h2,h3,ha,hb,h=>by
  have:l=r:=by omega
  subst this;exact h l h3 ha hb
 |fu+1,l,r,s,h1,h2,h3,ha,hb,h=>by
  unfold kas_place
  by_cases q:l>=r
  ·rw[if_pos q];have:l=r:=by omega
   subst this;exact h l h3 ha hb
  ·rw[if_neg q];refine⟨e.lt hn _,e.lt hn _, ?_⟩
   by_cases c:f (p.getD k 0)<f (p.getD ((l+r) / 2) 0)
   ·have c':F f p k<F f p ((l+r) / 2):=c;rw[decide_eq_true c];refine CU e hn hi fu l ((l+r) / 2) s (by omega) (by omega) (by omega) ha ?_ h;intro i i1 i2;have:=hi ((l+r) / 2) i i1 i2;omega
   ·have c':¬ F f p k<F f p ((l+r) / 2):=c;rw[decide_eq_false c];refine CU e hn hi fu ((l+r) / 2+1) r s (by omega) (by omega) (by omega) ?_ hb h;intro i i1;have:=hi i ((l+r) / 2) (by omega) (by omega);omega
theorem MD (hn:0<n) {Q:Array Nat->ag->Prop}:∀(fu k:Nat) (p:Array Nat) (s:ag),Ent n p->k+fu<=n->Inc f p k->(∀p',Ent n p'->Inc f p' (k+fu)->Q p' s)->(kas_bin fu p k).kasWp (oI n f) Q s
 |0,k,p,s,e,h1,hi,h=>h p e hi
 |fu+1,k,p,s,e,h1,hi,h=>by
  unfold kas_bin;rw[KasT.kasWp_bind];refine CU e hn hi k 0 k s (by omega) (by omega) (aj _) (λi hi=>absurd hi (by omega)) (λi a b=>absurd b (by omega)) λl hl ha hb=>?_;have Cd:k<p.size:=by rw[e.1];omega
  refine MD hn fu (k+1) _ s (e.bubble _ _) (by omega) ?_ λp' e' i'=>h p' e' (by rw[show k+(fu+1)=k+1+fu by omega];exact i');intro i j Cr hj;rw[L9 Cd (by omega),L9 Cd (by omega)];have hkl:k - (k - l)=l:=by omega
  rw[hkl]
  by_cases i1:i=l
  ·rw[if_pos i1]
   by_cases j1:j=l
   ·rw[if_pos j1];exact aj _
   ·rw[if_neg j1,if_pos (by omega)];exact gy (hb (j - 1) (by omega) (by omega))
  ·rw[if_neg i1]
   by_cases i2:l<i/\i<=k
   ·rw[if_pos i2,if_neg (by omega),if_pos (by omega)];exact hi (i - 1) (j - 1) (by omega) (by omega)
   ·rw[if_neg i2]
    by_cases j1:j=l
    ·rw[if_pos j1];exact ha i (by omega)
    ·rw[if_neg j1]
     by_cases j2:l<j/\j<=k
     ·rw[if_pos j2];exact hi i (j - 1) (by omega) (by omega)
     ·rw[if_neg j2];exact hi i j Cr (by omega)
theorem d3 (hn:1<=n) {Q:Array Nat->ag->Prop}(h:∀p,Ent n p->Inc f p n->Q p s):(kas_sort n).kasWp (oI n f) Q s:=by
 unfold kas_sort;rw[KasT.kasWp_bind];refine c9 hn ⟨by simp,by simp⟩ λm p e h1 h2 hi=>?_;show KasT.kasWp _ (if m<n then _ else _) _ _
 by_cases q:m<n
 ·rw[if_pos q];have:max m 1=m:=by omega
  rw[this];refine MD (by omega) (n - m) m p s e (by omega) hi λp' e' i'=>h p' e' ?_;rw[show m+(n - m)=n by omega]at i';exact i'
 ·rw[if_neg q];have:m=n:=by omega
  subst this;exact h p e hi
theorem ME {α:Type}{cmp:Nat->Nat->(Bool->ag->Prop)->ag->Prop}{I:ag->Prop}(hc:∀i j C s,I s->i<n->j<n->(∀s',I s'->C (decide (f i<f j)) s')->cmp i j C s):
  ∀(t:KasT α) (Q:α->Prop) (Q':α->ag->Prop) (s₀ s:ag),t.kasWp (oI n f) (λa _=>Q a) s₀->I s->(∀a s',Q a->I s'->Q' a s')->t.kasWp cmp Q' s
 | .ret a,Q,Q',s₀,s,h,hi,k=>k a s h hi
 | .ask i j c,Q,Q',s₀,s,h,hi,k=>hc i j _ s hi h.1 h.2.1 λs' hi'=>ME hc (c _) Q Q' s₀ s' h.2.2 hi' k
end SoM
namespace L2
structure Eg {α:Type}(lt:α->α->Bool):Prop where
 irr:∀x,lt x x=false
 tr:∀x y z,lt x y=true->lt y z=true->lt x z=true
 tot:∀x y,lt x y=false->lt y x=false->x=y
section
variable{α:Type}{lt:α->α->Bool}
theorem Eg.asy (o:Eg lt) {x y:α}(h:lt x y=true):lt y x=false:=by
 cases q:lt y x with
 |false=>rfl
 |true=>have:=o.tr x y x h q;rw[o.irr]at this;cases this
theorem Eg.lt_le (o:Eg lt) {x y z:α}(h:lt x y=true) (h2:lt z y=false):lt x z=true:=by
 cases q:lt y z with
 |true=>exact o.tr x y z h q
 |false=>rw[<-o.tot y z q h2];exact h
abbrev gZ (lt:α->α->Bool) (l:List α):Prop:=l.Pairwise λa b=>lt b a=false
abbrev fX (lt:α->α->Bool) (l:List α):Prop:=l.Pairwise λa b=>lt a b=true
theorem MF (o:Eg lt):∀{l l':List α},gZ lt l->gZ lt l'->l.Perm l'->l=l'
 | [],l',_,_,p=>(List.nil_perm.mp p).symm
 |x::r,[],_,_,p=>by simp at p
 |x::r,y::r',h,h',p=>by
  have h1:=fw.mp h;have h2:=fw.mp h';have e:x=y:=by
   refine o.tot x y ?_ ?_
   ·rcases ba.mp (p.mem_iff.mp (ay ..))with e|e
    ·rw[e];exact o.irr y
    ·exact h2.1 x e
   ·rcases ba.mp (p.mem_iff.mpr (ay ..))with e|e
    ·rw[e];exact o.irr x
    ·exact h1.1 y e
  subst e;rw[MF o h1.2 h2.2 (List.Perm.cons_inv p)]
def lQ (lt:α->α->Bool) (x:α):List α->List α
 | []=>[x]
 |y::r=>if lt y x then y::lQ lt x r else if lt x y then x::y::r else y::r
def eO (lt:α->α->Bool):List α->List α
 | []=>[]
 |x::r=>lQ lt x (eO lt r)
theorem CV (o:Eg lt) (x z:α):∀l,z∈lQ lt x l↔z=x∨z∈l
 | []=>by simp[lQ]
 |y::r=>by
  unfold lQ
  split
  ·rw[ba,CV o x z r,ba];constructor
   ·rintro (h|h|h)
    ·exact .inr (.inl h)
    ·exact .inl h
    ·exact .inr (.inr h)
   ·rintro (h|h|h)
    ·exact .inr (.inl h)
    ·exact .inl h
    ·exact .inr (.inr h)
  ·rename_i q1
   split
   ·simp
   ·rename_i q2;have e:=o.tot x y (by simpa using q2) (by simpa using q1);subst e;simp
theorem oJ (o:Eg lt) (z:α):∀l,z∈eO lt l↔z∈l
 | []=>.rfl
 |x::r=>by rw[eO,CV o,oJ o z r,ba]
theorem MG (o:Eg lt) (x:α):∀l,fX lt l->fX lt (lQ lt x l)
 | [],_=>by simp[lQ,fX]
 |y::r,h=>by
  have h1:=fw.mp h;unfold lQ
  split
  ·rename_i q;refine fw.mpr ⟨λz hz=>?_,MG o x r h1.2⟩
   rcases(CV o x z r).mp hz with rfl|hz
   ·exact q
   ·exact h1.1 z hz
  ·split
   ·rename_i q;refine fw.mpr ⟨λz hz=>?_,h⟩
    rcases ba.mp hz with rfl|hz
    ·exact q
    ·exact o.tr _ _ _ q (h1.1 z hz)
   ·exact h
theorem uT (o:Eg lt):∀l,fX lt (eO lt l)
 | []=>xq
 |x::r=>MG o x _ (uT o r)
theorem MH (o:Eg lt) {l:List α}(h:fX lt l):gZ lt l:=h.imp λh=>o.asy h
theorem uU (o:Eg lt) {l:List α}(h:fX lt l):l.Nodup:=h.imp λ{a b} h e=>by rw[e,o.irr]at h;cases h
theorem CW (o:Eg lt) {l l':List α}(h:fX lt l) (h':fX lt l') (m:∀z,z∈l↔z∈l'):l=l':=by refine MF o (MH o h) (MH o h') ?_;exact(qi (uU o h) (uU o h')).mpr m
theorem d4 (o:Eg lt) {l l':List α}(h:fX lt l') (m:∀z,z∈l'↔z∈l):l'=eO lt l:=CW o h (uT o l) λz=>(m z).trans (oJ o z l).symm
def rk (lt:α->α->Bool) (ks:List α) (x:α):Nat:=ks.countP λy=>lt y x
theorem CY {p q:α->Bool}:∀(l:List α),(∀y,p y=true->q y=true)->l.countP p<=l.countP q
 | [],_=>aj _
 |y::r,h=>by
  have:=CY r h;rw[sk,sk]
  cases hp:p y with
  |true=>rw[h y hp];simp;omega
  |false=>cases q y <;> simp <;> omega
theorem MI {p q:α->Bool}:∀(l:List α),(∀y,p y=true->q y=true)->∀x,x∈l->q x=true->p x=false->l.countP p<l.countP q
 | [],_,x,hx,_,_=>by simp at hx
 |y::r,h,x,hx,h1,h2=>by
  rw[sk,sk]
  rcases ba.mp hx with rfl|hx
  ·have:=CY r h;rw[h1,h2];simp;omega
  ·have:=MI r h x hx h1 h2
   cases hp:p y with
   |true=>rw[h y hp];simp;omega
   |false=>cases q y <;> simp <;> omega
theorem MJ (o:Eg lt) {ks:List α}{x z:α}(hx:x∈ks):decide (rk lt ks x<rk lt ks z)=lt x z:=by
 cases q:lt x z with
 |true=>exact decide_eq_true (MI ks (λy h=>o.tr y x z h q) x hx q (o.irr x))
 |false=>exact decide_eq_false (Nat.not_lt.mpr (CY ks λy h=>o.lt_le h q))
theorem d6 (o:Eg lt) {ks:List α}{x z:α}(hz:z∈ks) (h:rk lt ks x<=rk lt ks z):lt z x=false:=by rw[<-MJ o hz];exact decide_eq_false (Nat.not_lt.mpr h)
end
def dG:Ah->Ah->Bool
 | [],[]=>false
 | [],_::_=>true
 |_::_,[]=>false
 |a::x,b::y=>if a==b then dG x y else decide (a<b)
theorem Cu:Eg dG:=by
 refine⟨λx=>?_,λx=>?_,λx=>?_⟩
 ·induction x with
  |nil=>rfl
  |cons a x ih=>simp[dG,ih]
 ·induction x with
  |nil=>
   intro y z h1 h2
   cases z with
   |nil=>cases y with
    |nil=>exact h1
    |cons b y=>cases h2
   |cons c z=>rfl
  |cons a x ih=>
   intro y z h1 h2
   cases y with
   |nil=>cases h1
   |cons b y=>
    cases z with
    |nil=>cases h2
    |cons c z=>
     simp only[dG,beq_iff_eq]at h1 h2 ⊢
     by_cases e1:a=b <;> by_cases e2:b=c
     ·rw[if_pos e1]at h1;rw[if_pos e2]at h2;rw[if_pos (e1.trans e2)];exact ih y z h1 h2
     ·rw[if_neg e2]at h2;rw[if_neg (by rw[e1];exact e2)];rw[e1];exact h2
     ·rw[if_neg e1]at h1;rw[if_neg (by rw[<-e2];exact e1)];rw[<-e2];exact h1
     ·rw[if_neg e1]at h1;rw[if_neg e2]at h2;simp only[decide_eq_true_eq]at h1 h2;rw[if_neg (by omega)];simp;omega
 ·induction x with
  |nil=>
   intro y h1 h2
   cases y with
   |nil=>rfl
   |cons b y=>cases h1
  |cons a x ih=>
   intro y h1 h2
   cases y with
   |nil=>cases h2
   |cons b y=>
    simp only[dG,beq_iff_eq]at h1 h2
    by_cases e:a=b
    ·subst e;rw[if_pos rfl]at h1 h2;rw[ih y h1 h2]
    ·rw[if_neg e]at h1;rw[if_neg (cx e)]at h2;simp at h1 h2;omega
def eU (p q:Int×Int):Bool:=if p.1==q.1 then decide (p.2<q.2)else decide (p.1<q.1)
def jY (p:Int×Int):Ah:=[p.1,p.2]
theorem uV (p q:Int×Int):dG (jY p) (jY q)=eU p q:=by
 unfold eU jY dG
 split
 ·unfold dG
  split
  ·rename_i h;simp at h;simp[dG,h]
  ·rfl
 ·rfl
theorem d7 {p q:Int×Int}(h:jY p=jY q):p=q:=by obtain⟨a,b⟩:=p;obtain⟨c,d⟩:=q;simp[jY]at h;rw[h.1,h.2]
theorem Cz:Eg eU:=⟨λx=>by rw[<-uV];exact Cu.irr _,λx y z h1 h2=>by rw[<-uV]at *;exact Cu.tr _ _ _ h1 h2,λx y h1 h2=>by rw[<-uV]at *;exact d7 (Cu.tot _ _ h1 h2)⟩
section
variable{α β:Type}{lt:α->α->Bool}{lt':β->β->Bool}{f:α->β}
theorem MK (h:∀x y,lt' (f x) (f y)=lt x y) (x:α):∀l,lQ lt' (f x) (l.map f)=(lQ lt x l).map f
 | []=>rfl
 |y::r=>by
  simp only[dk,lQ,h]
  split
  ·rw[MK h x r];rfl
  ·split <;> rfl
theorem ML (h:∀x y,lt' (f x) (f y)=lt x y):∀l,eO lt' (l.map f)=(eO lt l).map f
 | []=>rfl
 |x::r=>by rw[dk,eO,ML h r,MK h];rfl
end
end L2
namespace SM
open PySem PySem.SetTable
def gZ (l:Ai):Prop:=l.Pairwise (·<·)
theorem CZ {l:Ai}(hr:gZ l) {i k x:Nat}(a:l[i]?=some x) (b:l[k]?=some x):i=k:=by
 obtain⟨p1,p2⟩:=az.mp a;obtain⟨q1,q2⟩:=az.mp b
 rcases Nat.lt_trichotomy i k with h|h|h
 ·have:=fv.mp hr i k p1 q1 h;omega
 ·exact h
 ·have:=fv.mp hr k i q1 p1 h;omega
theorem d8 (xs:Array Nat) (j:Nat) (hr:gZ xs.toList):∀(fuel lo hi:Nat),lo<=hi->hi<=xs.size->hi - lo<=fuel->
  (∀i (h:i<xs.size),i<lo->xs[i]<j)->(∀i (h:i<xs.size),hi<=i->j<=xs[i])->
  (∀i (h:i<xs.size),i<below.go xs j fuel lo hi->xs[i]<j)/\(∀i (h:i<xs.size),below.go xs j fuel lo hi<=i->j<=xs[i])/\below.go xs j fuel lo hi<=xs.size:=by
 intro fuel
 induction fuel with
 |zero=>
  intro lo hi h1 h2 h3 ha hb;have:lo=hi:=by omega
  subst this;exact⟨ha,hb,h2⟩
 |succ n ih=>
  intro lo hi h1 h2 h3 ha hb;unfold below.go
  by_cases hlt:lo<hi
  ·rw[if_pos hlt];dsimp only;have hm:(lo+hi) / 2<xs.size:=by omega
   have e:xs.getD ((lo+hi) / 2) j=xs[(lo+hi) / 2]:=by simp[kn,hm]
   have mono:∀a b (ha:a<xs.size) (hb:b<xs.size),a<b->xs[a]<xs[b]:=by intro a b ha hb Dk;have:=fv.mp hr a b (by simpa using ha) (by simpa using hb) Dk;simpa using this
   by_cases hc:xs.getD ((lo+hi) / 2) j<j
   ·rw[if_pos hc];refine ih _ _ (by omega) h2 (by omega) ?_ hb;intro i h hi';rw[e]at hc
    by_cases q:i=(lo+hi) / 2
    ·subst q;exact hc
    ·have:=mono i _ h hm (by omega);omega
   ·rw[if_neg hc];refine ih _ _ (by omega) (by omega) (by omega) ha ?_;intro i h hi';rw[e]at hc
    by_cases q:i=(lo+hi) / 2
    ·subst q;omega
    ·have:=mono _ i hm h (by omega);omega
  ·rw[if_neg hlt];have:lo=hi:=by omega
   subst this;exact⟨ha,hb,h2⟩
theorem uW {xs:Array Nat}{j:Nat}(hr:gZ xs.toList):
  (∀i (h:i<xs.size),i<below xs j->xs[i]<j)/\(∀i (h:i<xs.size),below xs j<=i->j<=xs[i])/\below xs j<=xs.size:=
 d8 xs j hr xs.size 0 xs.size (jg _) (aj _) (by omega) (λi h hi=>absurd hi (by omega)) (λi h hi=>absurd h (by omega))
theorem MM {xs:Array Nat}{j:Nat}(hr:gZ xs.toList) (hm:j∈xs.toList):xs[below xs j]?=some j:=by
 obtain⟨h1,h2,h3⟩:=uW (j:=j) hr;obtain⟨i,hi,e⟩:=kg hm;have hi':i<xs.size:=by simpa using hi
 have e':xs[i]=j:=by simpa using e
 have hle:below xs j<=i:=by
  rcases jc i (below xs j)with q|q
  ·have:=h1 i hi' q;omega
  ·exact q
 have hb:below xs j<xs.size:=by omega
 have:=h2 (below xs j) hb (aj _);have mono:∀a b (ha:a<xs.size) (hb:b<xs.size),a<b->xs[a]<xs[b]:=by intro a b ha hb Dk;have:=fv.mp hr a b (by simpa using ha) (by simpa using hb) Dk;simpa using this
 have hE:below xs j=i:=by
  rcases jc (below xs j) i with q|q
  ·have:=mono _ _ hb hi' q;omega
  ·omega
 rw[fq hb]
 congr 1
 have:∀k (hk:k<xs.size),k=i->xs[k]=xs[i]:=by intro k hk e;subst e;rfl
 rw[this _ hb hE,e']
theorem d9 {xs:Array Nat}{j:Nat}(hm:j∉xs.toList):(xs[below xs j]?==some j)=false:=by rw[beq_eq_false_iff_ne];intro e;obtain⟨h,e⟩:=dm.mp e;exact hm (by rw[<-e];simp)
theorem uX {α:Type}(xs:Array α) (p:Nat) (x:α) (hp:p<=xs.size):(insertAt xs p x).toList=xs.toList.take p++x::xs.toList.drop p:=by unfold insertAt;rw[Array.toList_append,Array.toList_push];simp[Array.toList_extract,kq]
theorem h8 {xs:Array Nat}{j:Nat}(hr:gZ xs.toList) (hm:j∉xs.toList):gZ (insertAt xs (below xs j) j).toList:=by
 obtain⟨h1,h2,h3⟩:=uW (j:=j) hr;rw[uX _ _ _ h3];unfold gZ at hr ⊢;have hlt:∀a∈xs.toList.take (below xs j),a<j:=by intro a ha;obtain⟨i,hi,e⟩:=kg ha;rw[iz]at hi;rw[vq]at e;have:=h1 i (by simp at hi;omega) (by omega);simp at e;omega
 have hgt:∀a∈xs.toList.drop (below xs j),j<a:=by
  intro a ha;obtain⟨i,hi,e⟩:=kg ha;rw[ou]at hi;rw[List.getElem_drop]at e;have q:=h2 (below xs j+i) (by simp at hi;omega) (by omega);have ne:a≠j:=by rintro rfl;exact hm (List.mem_of_mem_drop ha)
  simp at e;omega
 rw[List.pairwise_append];refine⟨hr.sublist (List.take_sublist _ _), ?_, ?_⟩
 ·rw[fw];exact⟨hgt,hr.sublist (List.drop_sublist _ _)⟩
 ·intro a ha b hb
  rcases ba.mp hb with rfl|hb
  ·exact hlt a ha
  ·have:=hlt a ha;have:=hgt b hb;omega
def oK (mask:Nat) (p:Probe):Probe:=
 if p.more>0 then{ p with j:=p.j+1,more:=p.more - 1 } else
 { p with j:=(leap mask p.i p.perturb).1,more:=runEnd mask (leap mask p.i p.perturb).1 - (leap mask p.i p.perturb).1,i:=(leap mask p.i p.perturb).1,perturb:=(leap mask p.i p.perturb).2 }
theorem MN (t:ic) (p:Probe):t.advance p=oK t.mask p:=by
 unfold SetTable.advance oK
 split <;> rfl
def h9 (mask:Nat) (h:Int):Probe:={ j:=bits h % (mask+1),more:=runEnd mask (bits h % (mask+1)) - bits h % (mask+1),i:=bits h % (mask+1),perturb:=bits h,dummy:=none }
def dQ (mask:Nat) (h:Int):Nat->Probe
 |0=>h9 mask h
 |n+1=>oK mask (dQ mask h n)
def pr (mask:Nat) (h:Int) (n:Nat):Nat:=(dQ mask h n).j
theorem i5 (mask:Nat) (p:Probe):(oK mask p).dummy=p.dummy:=by unfold oK;split <;> rfl
theorem MP (mask:Nat) (h:Int):∀n,(dQ mask h n).dummy=none
 |0=>rfl
 |n+1=>by rw[dQ,i5,MP mask h n]
def qN (mask i pt:Nat):Probe:={ j:=i,more:=runEnd mask i - i,i:=i,perturb:=pt,dummy:=none }
def bs (mask:Nat) (h:Int):Nat->Nat×Nat
 |0=>(bits h % (mask+1),bits h)
 |L+1=>leap mask (bs mask h L).1 (bs mask h L).2
theorem i6 (mask i:Nat):runEnd mask i - i<=9:=by unfold runEnd;split <;> omega
theorem yC (mask:Nat) (h:Int) (i pt:Nat) (n:Nat) (e:dQ mask h n=qN mask i pt):∀k,k<=runEnd mask i - i->dQ mask h (n+k)={ qN mask i pt with j:=i+k,more:=runEnd mask i - i - k }
 |0,_=>by rw[Nat.add_zero,e];rfl
 |k+1,hk=>by have ih:=yC mask h i pt n e k (by omega);rw[show n+(k+1)=(n+k)+1 from rfl,dQ,ih];unfold oK;rw[if_pos (show runEnd mask i - i - k>0 by omega)];simp[qN];omega
theorem MQ (mask:Nat) (h:Int):∀L,∃n,n<=10*L/\dQ mask h n=qN mask (bs mask h L).1 (bs mask h L).2
 |0=>⟨0,by omega,rfl⟩
 |L+1=>by obtain⟨n,hn,e⟩:=MQ mask h L;have r:=yC mask h _ _ n e (runEnd mask (bs mask h L).1 - (bs mask h L).1) (aj _);have:=i6 mask (bs mask h L).1;refine⟨n+(runEnd mask (bs mask h L).1 - (bs mask h L).1)+1,by omega, ?_⟩;rw[dQ,r];unfold oK;rw[if_neg (by simp)];rfl
theorem MR (mask:Nat) (h:Int):∀L,(bs mask h L).2=bits h / 32 ^ L
 |0=>by simp[bs]
 |L+1=>by rw[bs];show(bs mask h L).2 / 32=_;rw[MR mask h L,Nat.div_div_eq_div_mul,Nat.pow_succ]
theorem i7 (h:Int):bits h<2 ^ 64:=by unfold bits;omega
theorem i8 (mask:Nat) (h:Int) {L:Nat}(hL:13<=L):(bs mask h L).2=0:=by
 rw[MR];have h1:=i7 h;have h2:(32:Nat) ^ 13<=32 ^ L:=Ac (by decide) hL;have h3:(2:Nat) ^ 64<32 ^ 13:=by decide
 exact Nat.div_eq_of_lt (by omega)
def fx (mask x:Nat):Nat:=(x*5+1) % (mask+1)
def pR (mask:Nat):Nat->Nat->Nat
 |0,x=>x
 |n+1,x=>pR mask n (fx mask x)
theorem MT (mask:Nat):∀n x,pR mask (n+1) x=fx mask (pR mask n x)
 |0,x=>rfl
 |n+1,x=>by rw[pR,MT mask n,pR]
theorem MU (mask:Nat) (h:Int):∀n,(bs mask h (13+n)).1=pR mask n (bs mask h 13).1
 |0=>rfl
 |n+1=>by rw[MT,<-MU mask h n,show 13+(n+1)=(13+n)+1 from rfl,bs];show((bs mask h (13+n)).1*5+1+(bs mask h (13+n)).2 / 32) % (mask+1)=_;rw[i8 mask h (by omega)];rfl
def rT (mask:Nat):Nat->Nat->Nat
 |0,_=>0
 |n+1,x=>2 ^ x ||| rT mask n (fx mask x)
theorem MV (mask j:Nat):∀n x,(rT mask n x).testBit j=true->∃k,k<n/\pR mask k x=j
 |0,x,h=>by simp[rT]at h
 |n+1,x,h=>by
  rw[rT,Nat.testBit_or,Bool.or_eq_true]at h
  rcases h with h|h
  ·rw[Nat.testBit_two_pow,decide_eq_true_eq]at h;exact⟨0,by omega,h⟩
  ·obtain⟨k,hk,e⟩:=MV mask j n _ h;exact⟨k+1,by omega,e⟩
def mR (mask:Nat):Prop:=mask=7∨mask=31∨mask=127
def MW (mask:Nat):Bool:=(bp (mask+1)).all λx=>rT mask (mask+1) x==2 ^ (mask+1) - 1
theorem i9 {mask:Nat}(g:mR mask):MW mask=true:=by rcases g with rfl|rfl|rfl <;> decide +kernel
theorem j3 {mask x j:Nat}(g:mR mask) (hx:x<=mask) (hj:j<=mask):∃k,k<=mask/\pR mask k x=j:=by
 have h1:=i9 g;unfold MW at h1;rw[fi]at h1;have h2:=h1 x (br.mpr (by omega));rw[beq_iff_eq]at h2;have h3:(rT mask (mask+1) x).testBit j=true:=by rw[h2,Nat.testBit_two_pow_sub_one,decide_eq_true_eq];omega
 obtain⟨k,hk,e⟩:=MV mask j _ _ h3;exact⟨k,by omega,e⟩
theorem yD (a m:Nat):a % (m+1)<=m:=by have:=Nat.mod_lt a (show 0<m+1 by omega);omega
theorem j5 (mask:Nat) (h:Int):∀L,(bs mask h L).1<=mask
 |0=>yD _ _
 |L+1=>yD _ _
theorem MX {mask j:Nat}(g:mR mask) (h:Int) (hj:j<=mask):∃L,L<=13+mask/\(bs mask h L).1=j:=by obtain⟨k,hk,e⟩:=j3 g (j5 mask h 13) hj;exact⟨13+k,by omega,by rw[MU];exact e⟩
theorem j6 {mask j:Nat}(g:mR mask) (h:Int) (hj:j<=mask):∃n,n<10*turns mask/\pr mask h n=j:=by obtain⟨L,hL,e⟩:=MX g h hj;obtain⟨n,hn,e2⟩:=MQ mask h L;refine⟨n,by unfold turns;omega, ?_⟩;unfold pr;rw[e2];exact e
theorem MY {mask i:Nat}(hi:i<=mask):runEnd mask i<=mask:=by unfold runEnd;split <;> omega
theorem MZ {mask:Nat}(h:Int):∀n,(dQ mask h n).i<=mask/\(dQ mask h n).j+(dQ mask h n).more<=mask
 |0=>by
  have e:bits h % (mask+1)<=mask:=yD _ _;have:=MY e;have:bits h % (mask+1)<=runEnd mask (bits h % (mask+1)):=by unfold runEnd;split <;> omega
  exact⟨e,by show bits h % (mask+1)+(runEnd mask (bits h % (mask+1)) - bits h % (mask+1))<=mask;omega⟩
 |n+1=>by
  obtain⟨h1,h2⟩:=MZ (mask:=mask) h n;rw[dQ];unfold oK
  split
  ·exact⟨h1,by dsimp only;omega⟩
  ·dsimp only;have e:(leap mask (dQ mask h n).i (dQ mask h n).perturb).1<=mask:=yD _ _;have:=MY e;have:(leap mask (dQ mask h n).i (dQ mask h n).perturb).1<=runEnd mask (leap mask (dQ mask h n).i (dQ mask h n).perturb).1:=by unfold runEnd;split <;> omega
   exact⟨e,by omega⟩
theorem DC {mask:Nat}(h:Int) (n:Nat):pr mask h n<=mask:=by have:=(MZ (mask:=mask) h n).2;unfold pr;omega
def Way (mask:Nat) (occ:Nat->Prop) (h:Int) (j:Nat):Prop:=∃n,pr mask h n=j/\∀m,m<n->occ (pr mask h m)
theorem Way.mono {mask:Nat}{occ occ':Nat->Prop}{h:Int}{j:Nat}(w:Way mask occ h j) (k:∀x,occ x->occ' x):Way mask occ' h j:=let ⟨n,e,a⟩:=w;⟨n,e,λm hm=>k _ (a m hm)⟩
structure Dh (t:ic) (hs:Ah):Prop where
 size:t.place.size=hs.length
 rise:gZ t.place.toList
 nod:t.dummies=#[]
 bnd:∀j∈t.place.toList,j<=t.mask
 room:hs.length<=t.mask
 msk:mR t.mask
 way:∀(i:Nat) (h:Int) (j:Nat),hs[i]?=some h->t.place.toList[i]?=some j->Way t.mask (·∈t.place.toList) h j
 plain:t.plain=true
theorem Dh.fits {t:ic}{hs:Ah}(T:Dh t hs):t.fits hs.length=true:=by unfold SetTable.fits SetTable.fill;rw[T.nod,T.size];simpa using T.room
theorem Dh.gave {t:ic}{hs:Ah}(T:Dh t hs):t.gaveWay=false:=by
 unfold SetTable.gaveWay
 rcases T.msk with e|e|e <;> rw[e] <;> rfl
theorem M3 (j:Nat):SetTable.has #[] j=false:=by unfold SetTable.has;simp
theorem Dh.slot_live {t:ic}{hs:Ah}(T:Dh t hs) {j:Nat}(h:j∈t.place.toList):∃i,t.slot j=.live i/\t.place.toList[i]?=some j:=by refine⟨below t.place j, ?_,by simpa using MM T.rise h⟩;unfold SetTable.slot;dsimp only;rw[MM T.rise h];simp
theorem Dh.slot_empty {t:ic}{hs:Ah}(T:Dh t hs) {j:Nat}(h:j∉t.place.toList):t.slot j=.empty:=by unfold SetTable.slot;dsimp only;rw[d9 h,T.nod,M3];rfl
theorem Dh.empty_there {t:ic}{hs:Ah}(T:Dh t hs):∃j,j<=t.mask/\j∉t.place.toList:=by
 rcases rh (∃j,j<=t.mask/\j∉t.place.toList)with h|h
 ·exact h
 ·exfalso
  have h1:∀j,j∈bp (t.mask+1)->j∈t.place.toList:=by
   intro j hj
   rcases rh (j∈t.place.toList)with q|q
   ·exact q
   ·exact absurd ⟨j,by have:=br.mp hj;omega,q⟩ h
  have h2:=(sr (n:=t.mask+1)).length_le_of_subset h1;rw[ly]at h2;have h3:t.place.toList.length=hs.length:=by rw[<-T.size];simp
  have:=T.room;omega
theorem j7 {t:ic}{hs:Ah}(T:Dh t hs) (hashAt:Nat->Int) (h:Int):∀(fuel n N:Nat),n<=N->N - n<fuel->pr t.mask h N∉t.place.toList->
  ∃m,n<=m/\m<=N/\(∀l,n<=l->l<m->pr t.mask h l∈t.place.toList/\∀i,t.place.toList[i]?=some (pr t.mask h l)->hashAt i≠h) /\
   ((pr t.mask h m∉t.place.toList/\probe.go t hashAt h fuel (dQ t.mask h n)=some (.empty (pr t.mask h m) none)) ∨
    (∃i,t.place.toList[i]?=some (pr t.mask h m)/\hashAt i=h/\probe.go t hashAt h fuel (dQ t.mask h n)=some (.candidate (pr t.mask h m) i (dQ t.mask h (m+1))))):=by
 intro fuel
 induction fuel with
 |zero=>intro n N _ h2 _;omega
 |succ f ih=>
  intro n N h1 h2 h3;have hj:(dQ t.mask h n).j=pr t.mask h n:=rfl
  rcases rh (pr t.mask h n∈t.place.toList)with hm|hm
  ·obtain⟨i,e1,e2⟩:=T.slot_live hm
   by_cases hh:hashAt i=h
   ·refine⟨n,aj _,h1,λl a b=>absurd a (by omega),.inr ⟨i,e2,hh, ?_⟩⟩;rw[probe.go,hj,e1];dsimp only;rw[if_pos (beq_iff_eq.mpr hh),MN];rfl
   ·have hne:n≠N:=by rintro rfl;exact h3 hm
    obtain⟨m,a1,a2,a3,a4⟩:=ih (n+1) N (by omega) (by omega) h3;have e3:probe.go t hashAt h (f+1) (dQ t.mask h n)=probe.go t hashAt h f (dQ t.mask h (n+1)):=by rw[probe.go,hj,e1];dsimp only;rw[if_neg (by intro q;exact hh (beq_iff_eq.mp q)),MN];rfl
    refine⟨m,by omega,a2,λl b1 b2=>?_,by rw[e3];exact a4⟩
    rcases jc n l with q|q
    ·exact a3 l (by omega) b2
    ·have:l=n:=by omega
     subst this;refine⟨hm,λi' e'=>?_⟩;have:i'=i:=CZ T.rise e' e2;subst this;exact hh
  ·refine⟨n,aj _,h1,λl a b=>absurd a (by omega),.inl ⟨hm, ?_⟩⟩;rw[probe.go,hj,T.slot_empty hm];dsimp only;rw[MP]
theorem Dh.stops {t:ic}{hs:Ah}(T:Dh t hs) (h:Int):∃N,N<10*turns t.mask/\pr t.mask h N∉t.place.toList:=by obtain⟨j,hj,hn⟩:=T.empty_there;obtain⟨N,hN,e⟩:=j6 T.msk h hj;exact⟨N,hN,by rw[e];exact hn⟩
theorem Dh.before {t:ic}{hs:Ah}(T:Dh t hs) {h:Int}{i j m:Nat}(e1:hs[i]?=some h) (e2:t.place.toList[i]?=some j) (hm:pr t.mask h m∉t.place.toList):∃n,n<m/\pr t.mask h n=j:=by
 obtain⟨n,e,a⟩:=T.way i h j e1 e2;refine⟨n, ?_,e⟩
 rcases jc n m with q|q
 ·exact q
 ·exfalso
  rcases jc m n with r|r
  ·exact hm (a m r)
  ·have:m=n:=by omega
   subst this;exact hm (by rw[e];exact cn e2)
theorem M4 {xs:Array Nat}{p j x:Nat}(hp:p<=xs.size):x∈(insertAt xs p j).toList↔x=j∨x∈xs.toList:=by
 rw[uX _ _ _ hp,cy,ba];have e:x∈xs.toList↔x∈xs.toList.take p∨x∈xs.toList.drop p:=by rw[<-cy,iu]
 rw[e];constructor
 ·rintro (a|a|a)
  ·exact .inr (.inl a)
  ·exact .inl a
  ·exact .inr (.inr a)
 ·rintro (a|a|a)
  ·exact .inr (.inl a)
  ·exact .inl a
  ·exact .inr (.inr a)
theorem j8 {t:ic}(hn:t.dummies=#[]) (j:Nat):t.put j=({ t with place:=insertAt t.place (below t.place j) j },below t.place j):=by unfold SetTable.put;dsimp only;rw[hn,M3];cases t;subst hn;rfl
theorem M5 {α:Type}(l:List α) (x:α) (p i:Nat) (hp:p<=l.length):(l.take p++x::l.drop p)[i]?=if i<p then l[i]? else if i=p then some x else l[i - 1]?:=by
 have hl:(l.take p).length=p:=by rw[iz];omega
 by_cases h1:i<p
 ·rw[if_pos h1,dz (by omega),yk h1]
 ·rw[if_neg h1,gq (by omega),hl]
  by_cases h2:i=p
  ·subst h2;rw[if_pos rfl,Nat.sub_self];rfl
  ·rw[if_neg h2];obtain⟨k,rfl⟩:∃k,i=p+(k+1):=⟨i - p - 1,by omega⟩
   rw[show p+(k+1) - p=k+1 by omega,sj,List.getElem?_drop,show p+(k+1) - 1=p+k by omega]
theorem Dh.put {t:ic}{hs:Ah}(T:Dh t hs) {h:Int}{n:Nat}(hn:pr t.mask h n∉t.place.toList) (hw:∀m,m<n->pr t.mask h m∈t.place.toList) (hr:hs.length+1<=t.mask):
  Dh { t with place:=insertAt t.place (below t.place (pr t.mask h n)) (pr t.mask h n) } (hs.take (below t.place (pr t.mask h n))++h::hs.drop (below t.place (pr t.mask h n))):=by
 have hb:=(uW (j:=pr t.mask h n) T.rise).2.2;have hs':t.place.toList.length=hs.length:=by rw[<-T.size];simp
 have hlen:(hs.take (below t.place (pr t.mask h n))++h::hs.drop (below t.place (pr t.mask h n))).length=hs.length+1:=by rw[bq,cg,iz,ou];have:=T.size;omega
 refine⟨?_,h8 T.rise hn,T.nod, ?_, ?_,T.msk, ?_,T.plain⟩
 ·show(insertAt t.place (below t.place (pr t.mask h n)) (pr t.mask h n)).size=_;rw[hlen];have:(insertAt t.place (below t.place (pr t.mask h n)) (pr t.mask h n)).toList.length=hs.length+1:=by rw[uX _ _ _ hb,bq,cg,iz,ou,hs'];have:=T.size;omega
  simpa using this
 ·intro j hj
  rcases(M4 hb).mp hj with rfl|hj
  ·exact DC h n
  ·exact T.bnd j hj
 ·rw[hlen];exact hr
 ·intro i h' j e1 e2;have Ew:(t.place.toList.take (below t.place (pr t.mask h n))++pr t.mask h n::t.place.toList.drop (below t.place (pr t.mask h n)))[i]?=some j:=by rw[<-uX _ _ _ hb];exact e2
  have Em:below t.place (pr t.mask h n)<=hs.length:=by rw[<-T.size];exact hb
  rw[M5 _ _ _ _ Em]at e1;rw[M5 _ _ _ _ (by rw[hs'];exact Em)]at Ew;have mono:∀x,x∈t.place.toList->x∈(insertAt t.place (below t.place (pr t.mask h n)) (pr t.mask h n)).toList:=λx hx=>(M4 hb).mpr (.inr hx)
  by_cases q1:i<below t.place (pr t.mask h n)
  ·rw[if_pos q1]at e1 Ew;exact(T.way _ _ _ e1 Ew).mono mono
  ·rw[if_neg q1]at e1 Ew
   by_cases q2:i=below t.place (pr t.mask h n)
   ·rw[if_pos q2]at e1 Ew
    cases e1;cases Ew
    exact⟨n,rfl,λm hm=>mono _ (hw m hm)⟩
   ·rw[if_neg q2]at e1 Ew;exact(T.way _ _ _ e1 Ew).mono mono
def iF (owner:Array (Option Nat)) (j:Nat):Prop:=(owner.getD j (some 0)).isSome=true
theorem M6 {P:Nat->Bool}{n:Nat}(h:(bp n).find? P=none):∀k,k<n->P k=false:=by intro k hk;have:=List.find?_eq_none.mp h k (br.mpr hk);simpa using this
theorem j9 {P:Nat->Bool}:∀{n k:Nat},(bp n).find? P=some k->k<n/\P k=true/\∀l,l<k->P l=false:=by
 intro n
 induction n with
 |zero=>intro k h;simp at h
 |succ n ih=>
  intro k h;rw[List.range_succ,List.find?_append]at h
  cases q:(bp n).find? P with
  |some k'=>rw[q]at h;simp at h;subst h;obtain⟨a,b,c⟩:=ih q;exact⟨by omega,b,c⟩
  |none=>
   rw[q]at h
   by_cases hp:P n=true
   ·simp[hp]at h;subst h;exact⟨by omega,hp,λl hl=>M6 q l hl⟩
   ·simp[hp]at h
theorem k6 {mask:Nat}{h:Int}{L n:Nat}(e:dQ mask h n=qN mask (bs mask h L).1 (bs mask h L).2):dQ mask h (n+(runEnd mask (bs mask h L).1 - (bs mask h L).1)+1)=qN mask (bs mask h (L+1)).1 (bs mask h (L+1)).2:=by have r:=yC mask h _ _ n e (runEnd mask (bs mask h L).1 - (bs mask h L).1) (aj _);rw[dQ,r];unfold oK;rw[if_neg (by simp)];rfl
theorem k7 {mask:Nat}{h:Int}{owner:Array (Option Nat)}:∀(fuel L n:Nat),dQ mask h n=qN mask (bs mask h L).1 (bs mask h L).2->(∀k,k<n->iF owner (pr mask h k))->
  (∃L',L<=L'/\L'<L+fuel/\¬ iF owner (bs mask h L').1)->
  ∃n,layClean.free mask owner fuel (bs mask h L).1 (bs mask h L).2=some (pr mask h n)/\¬ iF owner (pr mask h n)/\∀m,m<n->iF owner (pr mask h m):=by
 intro fuel
 induction fuel with
 |zero=>rintro L n _ _ ⟨L',a,b,_⟩;omega
 |succ f ih=>
  rintro L n e hb ⟨L',a1,a2,a3⟩
  have r:=yC mask h _ _ n e;have hle:(bs mask h L).1<=runEnd mask (bs mask h L).1:=by unfold runEnd;split <;> omega
  rw[layClean.free]
  cases q:(bp (runEnd mask (bs mask h L).1+1 - (bs mask h L).1)).find? λk=>(owner.getD ((bs mask h L).1+k) (some 0)).isNone with
  |some k=>
   obtain⟨b1,b2,b3⟩:=j9 q;dsimp only;have ek:pr mask h (n+k)=(bs mask h L).1+k:=by unfold pr;rw[r k (by omega)]
   refine⟨n+k,by rw[ek], ?_,λm hm=>?_⟩
   ·rw[ek];unfold iF;simp at b2;simp[b2]
   ·rcases jc m n with z|z
    ·exact hb m z
    ·obtain⟨l,rfl⟩:∃l,m=n+l:=⟨m - n,by omega⟩
     have el:pr mask h (n+l)=(bs mask h L).1+l:=by unfold pr;rw[r l (by omega)]
     rw[el];have:=b3 l (by omega);unfold iF
     cases w:owner.getD ((bs mask h L).1+l) (some 0)with
     |none=>rw[w]at this;simp at this
     |some _=>rfl
  |none=>
   dsimp only;have b:=M6 q;have hocc:∀l,l<=runEnd mask (bs mask h L).1 - (bs mask h L).1->iF owner ((bs mask h L).1+l):=by
    intro l hl;have:=b l (by omega);unfold iF
    cases w:owner.getD ((bs mask h L).1+l) (some 0)with
    |none=>rw[w]at this;simp at this
    |some _=>rfl
   have hne:L≠L':=by
    rintro rfl
    exact a3 (by simpa using hocc 0 (by omega))
   refine ih (L+1) _ (k6 e) (λk hk=>?_) ⟨L',by omega,by omega,a3⟩
   rcases jc k n with z|z
   ·exact hb k z
   ·obtain⟨l,rfl⟩:∃l,k=n+l:=⟨k - n,by omega⟩
    have el:pr mask h (n+l)=(bs mask h L).1+l:=by unfold pr;rw[r l (by omega)]
    rw[el];exact hocc l (by omega)
structure LOk (mask:Nat) (hs:Ah) (owner:Array (Option Nat)) (k:Nat):Prop where
 size:owner.size=mask+1
 own:∀(j i:Nat),owner[j]?=some (some i)->i<k/\∃h,hs[i]?=some h/\Way mask (iF owner) h j
 all:∀(i:Nat),i<k->∃j:Nat,owner[j]?=some (some i)
 inj:∀(j j' i:Nat),owner[j]?=some (some i)->owner[j']?=some (some i)->j=j'
theorem uY {owner:Array (Option Nat)}{j:Nat}(hj:j<owner.size):iF owner j↔∃i,owner[j]?=some (some i):=by
 unfold iF;rw[fq hj];simp only[kn,hj,dif_pos,Array.getInternal_eq_getElem,yj]
 cases owner[j] <;> simp
theorem LOk.free {mask k:Nat}{hs:Ah}{owner:Array (Option Nat)}(O:LOk mask hs owner k) (hk:k<=mask):∃j,j<=mask/\¬ iF owner j:=by
 rcases rh (∃j,j<=mask/\¬ iF owner j)with h|h
 ·exact h
 ·exfalso
  have h1:∀j,j<=mask->∃i,owner[j]?=some (some i):=λj hj=>by
   rcases rh (iF owner j)with q|q
   ·exact(uY (by rw[O.size];omega)).mp q
   ·exact absurd ⟨j,hj,q⟩ h
  let f:Nat->Nat:=λj=>match owner[j]? with|some (some i)=>i|_=>0
  have hf:∀j,j<=mask->owner[j]?=some (some (f j)):=λj hj=>by obtain⟨i,e⟩:=h1 j hj;show owner[j]?=some (some (match owner[j]? with|some (some i)=>i|_=>0));rw[e]
  have nd:((bp (mask+1)).map f).Nodup:=by rw[xr];rw[rj];refine vn ?_ (sr (n:=mask+1));intro a b ha hb Dk e;have ea:=hf a (by have:=br.mp ha;omega);have eb:=hf b (by have:=br.mp hb;omega);rw[e]at ea;exact Dk (O.inj _ _ _ ea eb)
  have sub:∀x,x∈(bp (mask+1)).map f->x∈bp k:=by intro x hx;obtain⟨j,hj,rfl⟩:=cf.mp hx;exact br.mpr (O.own j _ (hf j (by have:=br.mp hj;omega))).1
  have:=nd.length_le_of_subset sub;simp at this;omega
theorem LOk.step {mask k:Nat}{hs:Ah}{owner:Array (Option Nat)}{h:Int}(g:mR mask) (O:LOk mask hs owner k) (hk:k<=mask) (hh:hs[k]?=some h):
  ∃j,layClean.free mask owner (turns mask) (bits h % (mask+1)) (bits h)=some j/\LOk mask hs (owner.setIfInBounds j (some k)) (k+1):=by
 obtain⟨j0,hj0,hn0⟩:=O.free hk;obtain⟨L,hL,eL⟩:=MX g h hj0;obtain⟨n,e,hn,hw⟩:=k7 (mask:=mask) (h:=h) (owner:=owner) (turns mask) 0 0 rfl (λk hk=>absurd hk (by omega)) ⟨L,by omega,by unfold turns;omega,by rw[eL];exact hn0⟩;refine⟨pr mask h n,e, ?_⟩;have hjl:pr mask h n<owner.size:=by rw[O.size];have:=DC (mask:=mask) h n;omega
 have hjn:owner[pr mask h n]?=some none:=by
  rw[fq hjl];have:¬ ∃i,owner[pr mask h n]?=some (some i):=λq=>hn ((uY hjl).mpr q)
  cases w:owner[pr mask h n]with
  |none=>rfl
  |some i=>exact absurd ⟨i,by rw[fq hjl,w]⟩ this
 have get:∀j,(owner.setIfInBounds (pr mask h n) (some k))[j]?=if pr mask h n=j then some (some k)else owner[j]?:=by
  intro j;rw[Array.getElem?_setIfInBounds]
  by_cases q:pr mask h n=j
  ·rw[if_pos q,if_pos q,if_pos hjl]
  ·rw[if_neg q,if_neg q]
 have Cd:(owner.setIfInBounds (pr mask h n) (some k)).size=mask+1:=by rw[Array.size_setIfInBounds];exact O.size
 have occm:∀x,iF owner x->iF (owner.setIfInBounds (pr mask h n) (some k)) x:=by
  intro x hx
  by_cases hl:x<owner.size
  ·obtain⟨i,e⟩:=(uY hl).mp hx;refine(uY (by rw[Cd,<-O.size];exact hl)).mpr ?_;rw[get]
   by_cases q:pr mask h n=x
   ·exact⟨k,if_pos q⟩
   ·exact⟨i,by rw[if_neg q];exact e⟩
  ·unfold iF;simp[kn,hl]
 refine⟨Cd, ?_, ?_, ?_⟩
 ·intro j i e;rw[get]at e
  by_cases q:pr mask h n=j
  ·rw[if_pos q]at e;cases e;exact⟨by omega,h,hh,n,q,λm hm=>occm _ (hw m hm)⟩
  ·rw[if_neg q]at e;obtain⟨a,h',b,c⟩:=O.own j i e;exact⟨by omega,h',b,c.mono occm⟩
 ·intro i hi
  by_cases q:i=k
  ·subst q;exact⟨pr mask h n,by rw[get,if_pos rfl]⟩
  ·obtain⟨j,e⟩:=O.all i (by omega);refine⟨j, ?_⟩;rw[get]
   by_cases z:pr mask h n=j
   ·rw[<-z,hjn]at e;cases e
   ·rw[if_neg z];exact e
 ·intro j j' i e e';rw[get]at e e'
  by_cases z:pr mask h n=j
  ·rw[if_pos z]at e;cases e
   by_cases z':pr mask h n=j'
   ·exact z.symm.trans z'
   ·rw[if_neg z']at e';have:=(O.own j' _ e').1;omega
  ·rw[if_neg z]at e
   by_cases z':pr mask h n=j'
   ·rw[if_pos z']at e';cases e';have:=(O.own j _ e).1;omega
   ·rw[if_neg z']at e';exact O.inj _ _ _ e e'
theorem M7 {mask:Nat}{hs:Ah}(g:mR mask) (hl:hs.length<=mask):∀(l pre:Ah) (owner:Array (Option Nat)),hs=pre++l->LOk mask hs owner pre.length->
  ∃owner',l.foldl (λ(acc:Option (Array (Option Nat)×Nat)) h=>do
    let (owner,k) <-acc
    let j <-layClean.free mask owner (turns mask) (bits h % (mask+1)) (bits h)
    pure (owner.setIfInBounds j (some k),k+1)) (some (owner,pre.length))=some (owner',hs.length)/\LOk mask hs owner' hs.length
 | [],pre,owner,e,O=>by rw[ku]at e;subst e;exact⟨owner,rfl,O⟩
 |h::l,pre,owner,e,O=>by
  have hh:hs[pre.length]?=some h:=by rw[e];simp
  obtain⟨j,e1,O1⟩:=O.step g (by rw[e]at hl;simp at hl;omega) hh;have e2:hs=(pre++[h])++l:=by rw[e];simp
  have hlen:(pre++[h]).length=pre.length+1:=by simp
  obtain⟨o',a,b⟩:=M7 g hl l (pre++[h]) _ e2 (by rw[hlen];exact O1);refine⟨o', ?_,b⟩;rw[List.foldl_cons];rw[<-a,hlen]
  congr 1
  show(do let j <-layClean.free mask owner (turns mask) (bits h % (mask+1)) (bits h);pure (owner.setIfInBounds j (some pre.length),pre.length+1))=_;rw[e1];rfl
theorem k8 {mask:Nat}{hs:Array Int}(g:mR mask) (hl:hs.size<=mask):∃owner,layClean mask hs=some owner/\LOk mask hs.toList owner hs.size:=by
 have O0:LOk mask hs.toList (Array.replicate (mask+1) none) 0:=by
  refine⟨by simp, ?_,λi hi=>absurd hi (by omega), ?_⟩
  ·intro j i e;rw[yf]at e
   split at e <;> simp at e
  ·intro j j' i e;rw[yf]at e
   split at e <;> simp at e
 obtain⟨o',a,b⟩:=M7 g (by simpa using hl) hs.toList [] _ rfl O0;refine⟨o', ?_,by simpa using b⟩;unfold layClean;rw[<-Array.foldl_toList];simp only[ni]at a;rw[a];rfl
theorem Way.mono' {mask:Nat}{occ occ':Nat->Prop}{h:Int}{j:Nat}(w:Way mask occ h j) (k:∀x,x<=mask->occ x->occ' x):Way mask occ' h j:=let ⟨n,e,a⟩:=w;⟨n,e,λm hm=>k _ (DC h m) (a m hm)⟩
theorem M8 (g:Nat->Option Nat):∀(l:Ai),l.Pairwise (·<·)->((l.filterMap λj=>(g j).map ((j,·):Nat->Nat×Nat)).map dy).Pairwise (·<·)
 | [],_=>by simp
 |j::l,h=>by
  rw[fw]at h;have ih:=M8 g l h.2
  cases e:g j with
  |none=>simpa[bw,e]using ih
  |some i=>
   simp only[bw,e,Option.map_some,dk,fw];refine⟨?_,ih⟩;intro a ha;obtain⟨⟨x,y⟩,hp,rfl⟩:=cf.mp ha;obtain⟨z,hz,ez⟩:=jv.mp hp
   cases q:g z with
   |none=>rw[q]at ez;simp at ez
   |some i'=>rw[q]at ez;simp at ez;have:=h.1 z hz;omega
theorem k9 {mask finger moves:Nat}{led:Bool}{hs:Array Int}(g:mR mask) (hl:hs.size<=mask):
  ∃t order,laid mask finger moves led true hs=some (t,order)/\t.mask=mask/\t.led=led/\order.toList.Perm (bp hs.size)/\Dh t (order.toList.filterMap (hs.toList[·]?)):=by
 obtain⟨owner,e,O⟩:=k8 g hl;generalize hlive:(bp (mask+1)).filterMap (λj=>(owner.getD j none).map ((j,·):Nat->Nat×Nat))=live;have Df:∀j i,(j,i)∈live↔owner[j]?=some (some i):=by
  intro j i;rw[<-hlive,jv];constructor
  ·rintro ⟨x,hx,ex⟩
   have hx':x<owner.size:=by rw[O.size];exact br.mp hx
   have eg:owner.getD x none=owner[x]:=by simp[kn,hx']
   rw[eg]at ex
   cases q:owner[x]with
   |none=>rw[q]at ex;simp at ex
   |some i'=>rw[q]at ex;simp at ex;obtain⟨rfl,rfl⟩:=ex;rw[fq hx',q]
  ·intro h;obtain⟨hx',q⟩:=dm.mp h;refine⟨j,br.mpr (by rw[<-O.size];exact hx'), ?_⟩;have eg:owner.getD j none=owner[j]:=by simp[kn,hx']
   rw[eg,q];rfl
 have hrise:(live.map dy).Pairwise (·<·):=by rw[<-hlive];exact M8 _ _ (yx)
 have Dd:(live.map qj).Perm (bp hs.size):=by
  refine(qi ?_ sr).mpr ?_
  ·rw[xr,rj];rw[rj]at hrise;refine vn ?_ hrise
   rintro ⟨a,i⟩ ⟨b,i'⟩ ha hb Dk e
   have e':i=i':=e;subst e';have:=O.inj a b i ((Df _ _).mp ha) ((Df _ _).mp hb);have hab':a<b:=Dk;omega
  ·intro i;rw[br];constructor
   ·intro h;obtain⟨⟨j,i'⟩,hp,rfl⟩:=cf.mp h;exact(O.own j i' ((Df _ _).mp hp)).1
   ·intro h;obtain⟨j,ej⟩:=O.all i h;exact cf.mpr ⟨(j,i),(Df _ _).mpr ej,rfl⟩
 have hlen:live.length=hs.size:=by simpa using Dd.length_eq
 have hget:∀(i:Nat),((live.map qj).filterMap (hs.toList[·]?))[i]?=(live[i]?).bind λp=>hs.toList[p.2]?:=by
  have gen:∀(l:List (Nat×Nat)),(∀p∈l,p.2<hs.toList.length)->∀(i:Nat),((l.map qj).filterMap (hs.toList[·]?))[i]?=(l[i]?).bind λp=>hs.toList[p.2]?:=by
   intro l
   induction l with
   |nil=>intro _ i;simp
   |cons p l ih=>
    intro hp i;have h1:=hp p (ay ..);have e1:hs.toList[p.2]?=some hs.toList[p.2]:=aw h1;rw[dk,bw,e1]
    cases i with
    |zero=>simp[e1]
    |succ i=>simp only[sj];exact ih (λq hq=>hp q (ao _ hq)) i
  intro i;refine gen live ?_ i
  rintro ⟨j,k⟩ hp
  have:=(O.own j k ((Df _ _).mp hp)).1;simpa using this
 have hlen':((live.map qj).filterMap (hs.toList[·]?)).length=hs.size:=by
  have gen:∀(l:List (Nat×Nat)),(∀p∈l,p.2<hs.toList.length)->((l.map qj).filterMap (hs.toList[·]?)).length=l.length:=by
   intro l
   induction l with
   |nil=>intro _;rfl
   |cons p l ih=>intro hp;have h1:=hp p (ay ..);have e1:hs.toList[p.2]?=some hs.toList[p.2]:=aw h1;rw[dk,bw,e1];show(_::_).length=_;rw[cg,cg,ih (λq hq=>hp q (ao _ hq))]
  rw[gen live ?_,hlen]
  rintro ⟨j,k⟩ hp
  have:=(O.own j k ((Df _ _).mp hp)).1;simpa using this
 refine⟨{ mask,place:=(live.map dy).toArray,dummies:=#[],finger,led,moves,plain:=true },(live.map qj).toArray, ?_,rfl,rfl,Dd, ?_⟩
 ·unfold laid;rw[e];show some _=some _;rw[hlive]
 ·refine⟨(by show(live.map dy).toArray.size=((live.map qj).filterMap (hs.toList[·]?)).length;rw[hlen',ax,bc,hlen]),hrise,rfl, ?_,by rw[hlen'];exact hl,g, ?_,rfl⟩
  ·intro j hj;obtain⟨⟨x,y⟩,hp,rfl⟩:=cf.mp (show j∈live.map dy from hj);have:=(Df _ _).mp hp;obtain⟨hx',_⟩:=dm.mp this;have:=O.size;show x<=mask;omega
  ·intro i h j e1 e2;have e1':((live.map qj).filterMap (hs.toList[·]?))[i]?=some h:=e1;rw[hget]at e1';have Ew:(live.map dy)[i]?=some j:=e2;rw[dw]at Ew
   cases q:live[i]? with
   |none=>rw[q]at Ew;cases Ew
   |some p=>
    obtain⟨x,k⟩:=p;rw[q]at e1' Ew;simp at e1' Ew;subst Ew;have hp:=cn q;obtain⟨a,h',b,c⟩:=O.own x k ((Df _ _).mp hp);have hh:h'=h:=by
     have:hs.toList[k]?=some h:=by simpa using e1'
     rw[b]at this;exact cq this
    subst hh;refine c.mono' λy hy ho=>?_;obtain⟨i',ei⟩:=(uY (by rw[O.size];omega)).mp ho;exact cf.mpr ⟨(y,i'),(Df _ _).mpr ei,rfl⟩
end SM
namespace SR
variable{prog:bh}{w:cm}{A:bu}{E:af->ag->Prop}{s:ag}
open SM
section
variable{prog:bh}{w:cm}
def hk (prog:bh) (w:cm) (k:Ah):Int:=tupleKeyHash (intKind prog w) k
abbrev KB:=List (Ah×ah)
def hJ (prog:bh) (w:cm) (kb:KB):List (Int×af):=kb.map λp=>(hk prog w p.1,ib p.2)
structure Bg (prog:bh) (w:cm) (h:cu) (a:ah) (kb:KB) (o:Obj) (es:Array (Int×af)) (ep:Nat) (t:ic):Prop where
 obj:h.get? a=some o
 ex:o.ExactSet
 data:o.data=.set es ep t
 es:es.toList=hJ prog w kb
 tab:Dh t (kb.map λp=>hk prog w p.1)
 nd:(kb.map dy).Nodup
 nf:kb.length*5<t.mask*3
 led:t.led=!w.params.followText "set-order"
def lR (prog:bh) (w:cm) (h:cu) (a:ah) (kb:KB):Prop:=∃o es ep t,Bg prog w h a kb o es ep t
def yE (prog:bh) (w:cm) (h:cu) (kb:KB):Prop:=∀p∈kb,gm (intKind prog w) h p.1 p.2
variable{h:cu}{a:ah}{kb:KB}{o:Obj}{es:Array (Int×af)}{ep:Nat}{t:ic}
theorem Bg.size (P:Bg prog w h a kb o es ep t):es.size=kb.length:=by have:=congrArg qu P.es;simpa[hJ]using this
theorem Bg.fits (P:Bg prog w h a kb o es ep t):t.fits es.size=true:=by have:=P.tab.fits;rw[bc]at this;rw[P.size];exact this
theorem Bg.at_ (P:Bg prog w h a kb o es ep t) {i:Nat}{p:Ah×ah}(e:kb[i]?=some p):es[i]?=some (hk prog w p.1,.ref p.2):=by
 have:es.toList[i]?=some (hk prog w p.1,ib p.2):=by rw[P.es];simp[hJ,e]
 simpa using this
theorem Bg.hash_at (P:Bg prog w h a kb o es ep t) {i:Nat}{p:Ah×ah}(e:kb[i]?=some p):(es[i]?.map (·.1)).getD 0=hk prog w p.1:=by rw[P.at_ e];rfl
end
section
variable{a:ah}{kb:KB}{o:Obj}{es:Array (Int×af)}{ep:Nat}{t:ic}
theorem M9 {ks:Ah}{b:ah}{Q:Bool->ag->Prop}(hb:gm (intKind prog w) s.heap ks b) (h:Q false s):wpAny (model prog w) A (ofAClassStatement 8 (.ref b)) Q E s:=by
 obtain⟨o,items,n,ho,hc,hd,hi⟩:=hb;unfold ofAClassStatement;refine aa (qw (T := "tuple") ⟨o,ho,hc⟩ ?_);show wpAny _ _ ((if(("tuple" : String) == "tuple")=true then(pure true:Sem Bool)else isSubtype (.type "tuple") (.type "tuple")) >>= _) _ _ s;rw[if_pos (by decide)];refine aa (ai ?_);simp only[pf,cp,if_false];refine aa (jl ho hd ?_);refine aa ?_;show wpAny _ _ (forIn items _ _) _ _ s;rw[<-Ae];refine pw _ (λrest r s'=>r.1=none/\s'=s/\∀v∈rest,carriedByValue v=true) _ ?_ ?_ _ _ ⟨rfl,rfl,hi.byValue⟩
 ·rintro v rest r s' ⟨hr,rfl,Bz⟩
  have hv:=Bz v ay;have e:ofAClassStatement 7 v=pure false:=by
   cases v with
   |ref a=>simp[carriedByValue]at hv
   |_=>rfl
  rw[e];refine aa (ai ?_);simp only[cp,if_false];exact ai ⟨rfl,rfl,λu Bl=>Bz u (ao _ Bl)⟩
 ·rintro ⟨r1,r2⟩ s' ⟨hr,rfl,_⟩
  simp only at hr;subst hr;exact ai h
theorem l6 {k:Ah}{b:ah}{Q:Bool->ag->Prop}(hb:gm (intKind prog w) s.heap k b):∀(l:List af),(∀y∈l,∃k' b',y=.ref b'/\gm (intKind prog w) s.heap k' b')->Q false s->
  wpAny (model prog w) A (searchCouldBeSeen (.ref b) l) Q E s:=by
 intro l hl h;unfold searchCouldBeSeen;refine aa ?_;refine pw _ (λrest r s'=>r.1=none/\s'=s/\∀y∈rest,∃k' b',y=.ref b'/\gm (intKind prog w) s.heap k' b') _ ?_ ?_ _ _ ⟨rfl,rfl,hl⟩
 ·rintro y rest r s' ⟨hr,rfl,Bz⟩
  obtain⟨k',b',rfl,hb'⟩:=Bz y ay;have fin:r.1=none/\s'=s'/\∀y∈rest,∃k' b',y=.ref b'/\gm (intKind prog w) s'.heap k' b':=⟨hr,rfl,λu hu=>Bz u (ao _ hu)⟩
  dsimp only
  split
  ·exact ai ⟨rfl,rfl,fin.2.2⟩
  ·refine aa (wpAny_eqIsQuiet_tuple hb ?_);simp only[pf,cp,if_false];refine aa (wpAny_eqIsQuiet_tuple hb' ?_);simp only[pf,cp,if_false];refine aa (M9 hb ?_);simp only[cp,if_false];refine aa (M9 hb' ?_);simp only[cp,if_false];exact ai ⟨rfl,rfl,fin.2.2⟩
 ·rintro ⟨r1,r2⟩ s' ⟨hr,rfl,_⟩
  simp only at hr;subst hr;exact ai h
end
section
variable{a:ah}{kb:KB}{o:Obj}{es:Array (Int×af)}{ep:Nat}{t:ic}{k:Ah}{b:ah}
theorem mem_keys {kb:KB}{k:Ah}:k∈kb.map dy↔∃(i:Nat) (b:ah),kb[i]?=some (k,b):=by
 constructor
 ·intro h;obtain⟨⟨k',b⟩,hp,rfl⟩:=cf.mp h;obtain⟨i,hi,e⟩:=kg hp;exact⟨i,b,by rw[aw hi,e]⟩
 ·rintro ⟨i,b,e⟩
  exact cf.mpr ⟨(k,b),cn e,rfl⟩
theorem l8 (P:Bg prog w s.heap a kb o es ep t) (T:yE prog w s.heap kb) (hb:gm (intKind prog w) s.heap k b) (hu:A.units<cLine) {Q:SetFound->ag->Prop}
  (Cw:k∈kb.map dy->Q (.there none) s)
  (Cn:k∉kb.map dy->∀n,pr t.mask (hk prog w k) n∉t.place.toList->(∀m,m<n->pr t.mask (hk prog w k) m∈t.place.toList)->Q (.free (pr t.mask (hk prog w k) n) false) s)
  (N:Nat) (hN:N<10*tw t.mask) (hNe:pr t.mask (hk prog w k) N∉t.place.toList):
  ∀(fuel n:Nat) (stand:Option SetTable.Probe),stand.getD (t.probeStart (hk prog w k))=dQ t.mask (hk prog w k) n->n<=N->N - n<fuel->
   (∀l,l<n->pr t.mask (hk prog w k) l∈t.place.toList/\∀(i:Nat) p,t.place.toList[i]?=some (pr t.mask (hk prog w k) l)->kb[i]?=some p->p.1≠k)->
   wpAny (model prog w) A (setSearchFrom a (.ref b) (hk prog w k) true fuel stand) Q E s:=by
 intro fuel
 induction fuel with
 |zero=>intro n stand _ _ h2;omega
 |succ f ih=>
  intro n stand Es h1 h2 hseen;have hlen:t.place.toList.length=kb.length:=by have:=P.tab.size;simpa using this
  have kbat:∀{i j:Nat},t.place.toList[i]?=some j->∃p,kb[i]?=some p:=λ{i j} e=>by obtain⟨hi,_⟩:=az.mp e;exact⟨kb[i]'(by omega),aw (by omega)⟩
  unfold setSearchFrom;refine aa (jn P.obj P.data P.fits ?_);dsimp only;rw[P.tab.gave];simp only[cp,if_false];obtain⟨m,a1,a2,a3,a4⟩:=j7 P.tab (λi=>(es[i]?.map (·.1)).getD 0) (hk prog w k) (10*tw t.mask) n N h1 (by omega) hNe;have pass:∀l,l<m->pr t.mask (hk prog w k) l∈t.place.toList/\∀(i:Nat) p,t.place.toList[i]?=some (pr t.mask (hk prog w k) l)->kb[i]?=some p->p.1≠k:=by
   intro l hl
   rcases jc l n with q|q
   ·exact hseen l q
   ·obtain⟨b1,b2⟩:=a3 l q hl;refine⟨b1,λi p e1 e2 e3=>b2 i e1 ?_⟩;show(es[i]?.map (·.1)).getD 0=_;rw[P.hash_at e2,e3]
  rcases a4 with⟨b1,b2⟩|⟨i,b1,b2,b3⟩
  ·have e:∀g:Nat->Int,g=(λi=>(es[i]?.map (·.1)).getD 0)->t.probe g (hk prog w k) (stand.getD (t.probeStart (hk prog w k)))=some (.empty (pr t.mask (hk prog w k) m) none):=by rintro g rfl;rw[Es];exact b2
   rw[e]
   rotate_left
   ·rfl
   refine ai (Cn ?_ m b1 λl hl=>(pass l hl).1);intro Df;obtain⟨i,b',ei⟩:=mem_keys.mp Df;obtain⟨j,ej⟩:∃j,t.place.toList[i]?=some j:=by obtain⟨hi,_⟩:=az.mp ei;exact⟨_,aw (by omega)⟩
   obtain⟨n',hn',e'⟩:=P.tab.before (i:=i) (h:=hk prog w k) (by rw[dw,ei];rfl) ej b1;exact(pass n' hn').2 i (k,b') (by rw[e'];exact ej) ei rfl
  ·have e:∀g:Nat->Int,g=(λi=>(es[i]?.map (·.1)).getD 0)->t.probe g (hk prog w k) (stand.getD (t.probeStart (hk prog w k)))=some (.candidate (pr t.mask (hk prog w k) m) i (dQ t.mask (hk prog w k) (m+1))):=by rintro g rfl;rw[Es];exact b3
   rw[e]
   rotate_left
   ·rfl
   dsimp only;obtain⟨p,ep'⟩:=kbat b1;have hp:=T p (cn ep');have es1:t.sameMemory t.moves t.mask=some true:=by unfold SetTable.sameMemory;simp
   obtain⟨i2,e2,e3⟩:=P.tab.slot_live (cn b1);have hi2:i2=i:=CZ P.tab.rise e3 b1;subst hi2;have sP:¬ p.1=k->wpAny (model prog w) A (setSearchFrom a (.ref b) (hk prog w k) true f (some (dQ t.mask (hk prog w k) (m+1)))) Q E s:=by
    intro hpk;have hmN:m≠N:=by rintro rfl;exact hNe (cn b1)
    refine ih (m+1) _ rfl (by omega) (by omega) ?_
    ·intro l hl
     rcases jc l m with q|q
     ·exact pass l q
     ·have:l=m:=by omega
      subst this;refine⟨cn b1,λi' p' z1 z2=>?_⟩;have:i'=i2:=CZ P.tab.rise z1 b1;subst this;rw[ep']at z2;cases z2;exact hpk
   cases hl:t.led
   case' true=>simp only[pf,cp,if_false]
   case' false=>
    simp only[Bool.not_false,if_true];refine aa (l6 hb _ ?_ ?_)
    ·intro y hy;obtain⟨e1,he1,rfl⟩:=cf.mp hy;have Ds:=(Array.mem_filter.mp (zk.mp he1)).1;have he3:e1∈hJ prog w kb:=by rw[<-P.es];exact zk.mpr Ds
     obtain⟨q,hq,rfl⟩:=cf.mp he3;exact⟨q.1,q.2,rfl,T q hq⟩
    simp only[cp,if_false]
   all_goals
    rw[P.at_ ep'];dsimp only;refine aa (ig (wpAny_eqBool_tuple hu hp hb ?_));refine aa (jn P.obj P.data P.fits ?_);dsimp only
    by_cases hpk:p.1=k
    ·rw[decide_eq_true hpk];simp only[Bool.true_and,if_true];exact ai (Cw (mem_keys.mpr ⟨i2,p.2,by rw[ep',<-hpk]⟩))
    ·rw[decide_eq_false hpk];simp only[qh,cp,if_false];rw[es1];dsimp only;simp only[if_true];rw[e2];dsimp only;rw[P.at_ ep'];dsimp only;refine aa (wpAny_isSame_ref_self ?_);refine aa (ai ?_);simp only[if_true];exact sP hpk
theorem l9 (P:Bg prog w s.heap a kb o es ep t) (T:yE prog w s.heap kb) (hb:gm (intKind prog w) s.heap k b) (hu:A.units<cLine) {Q:SetFound->ag->Prop}
  (Cw:k∈kb.map dy->Q (.there none) s)
  (Cn:k∉kb.map dy->∀n,pr t.mask (hk prog w k) n∉t.place.toList->(∀m,m<n->pr t.mask (hk prog w k) m∈t.place.toList)->Q (.free (pr t.mask (hk prog w k) n) false) s):
  wpAny (model prog w) A (setSearch a (.ref b) (hk prog w k) true) Q E s:=by
 obtain⟨N,hN,hNe⟩:=P.tab.stops (hk prog w k);have hm:10*tw t.mask<=1420:=by
  unfold tw
  rcases P.tab.msk with e|e|e <;> rw[e] <;> decide
 exact l8 P T hb hu Cw Cn N hN hNe 100000 0 none rfl (jg _) (by omega) λl hl=>absurd hl (by omega)
theorem m6 {Q:Bool->ag->Prop}(hb:gm (intKind prog w) s.heap k b) (h:Q true s):wpAny (model prog w) A (hashByValue 8 (.ref b)) Q E s:=by
 have hT:=hb.typeIs;obtain⟨o,items,n,ho,hc,hd,hi⟩:=hb;unfold hashByValue;refine aa (wpAny_specialOf hT F.slot_tuple_hash.lookup ?_);dsimp only;refine aa (jl ho hd ?_);refine aa ?_;show wpAny _ _ (forIn items _ _) _ _ s;rw[<-Ae];have hv:∀v∈items.toList,∃i t,v=.int i t:=by
  clear hd ho
  generalize items.toList=l at hi
  induction hi with
  |nil=>intro v h;cases h
  |cons h1 _ ih=>
   intro v hv
   rcases ba.mp hv with rfl|hv
   ·obtain⟨t,e⟩:=nr h1;exact⟨_,t,e⟩
   ·exact ih v hv
 refine pw _ (λrest r s'=>r.1=none/\s'=s/\∀v∈rest,∃i t,v=.int i t) _ ?_ ?_ _ _ ⟨rfl,rfl,hv⟩
 ·rintro v rest r s' ⟨hr,rfl,Bz⟩
  obtain⟨i,t,rfl⟩:=Bz v ay;refine aa (ai ?_);simp only[pf,cp,if_false];exact ai ⟨rfl,rfl,λu Bl=>Bz u (ao _ Bl)⟩
 ·rintro ⟨r1,r2⟩ s' ⟨hr,rfl,_⟩
  simp only at hr;subst hr;exact ai h
end
section
variable{a:ah}{kb:KB}{o:Obj}{es:Array (Int×af)}{ep:Nat}{t:ic}{k:Ah}{b:ah}
theorem m7 (p:Nat):(hJ prog w kb).take p++(hk prog w k,ib b)::(hJ prog w kb).drop p=hJ prog w (kb.take p++(k,b)::kb.drop p):=by simp[hJ,yn,vf]
theorem m8 (p:Nat):(kb.map λq=>hk prog w q.1).take p++hk prog w k::(kb.map λq=>hk prog w q.1).drop p=(kb.take p++(k,b)::kb.drop p).map λq=>hk prog w q.1:=by simp[yn,vf]
theorem yF {α:Type}(l:List α) (x:α) (p:Nat):(l.take p++x::l.drop p).Perm (x::l):=by have h:(l.take p++x::l.drop p).Perm (x::(l.take p++l.drop p)):=List.perm_middle;rwa [iu]at h
theorem DD {p:Nat}(h:(kb.map dy).Nodup) (hk:k∉kb.map dy):((kb.take p++(k,b)::kb.drop p).map dy).Nodup:=by have q:=(yF kb (k,b) p).map dy;exact q.nodup_iff.mpr (ji.mpr ⟨hk,h⟩)
theorem NA {es':Array (Int×af)}{t':ic}(hd:o.data=.set es ep t) (ho:s.heap.get? a=some o):(s.heap.update a (Obj.putSet es' t')).get? a=some { o with data:=.set es' (ep+1) t' }:=by have:=oq (Obj.putSet es' t') ho (by rw[putSet_of es' t' hd];rfl);rw[putSet_of es' t' hd]at this;exact this
theorem NB {α:Type}:∀(l:List α),(bp l.length).filterMap (λi=>l[i]?)=l
 | []=>rfl
 |x::l=>by
  rw[cg,yv,bw];simp only[List.getElem?_cons_zero,List.filterMap_map]
  congr 1
  exact NB l
theorem NC {kb:KB}{mask' wanted:Nat}{Q:Unit->ag->Prop}(ho:s.heap.get? a=some o) (hex:o.ExactSet) (hd:o.data=.set es ep t) (hes:es.toList=hJ prog w kb) (hT:Dh t (kb.map λp=>hk prog w p.1)) (nd:(kb.map dy).Nodup) (hled:t.led=!w.params.followText "set-order")
  (hw:yy wanted - 1=mask') (hg:mR mask') (hl:kb.length*5<mask'*3) (hz:yy wanted<=ck)
  (h:∀h' Dx,ik a s.heap h'->lR prog w h' a Dx->Dx.Perm kb->Q () { s with heap:=h' }):
  wpAny (model prog w) A (setRelay a wanted) Q E s:=by
 have Cd:es.size=kb.length:=by have:=congrArg qu hes;simpa[hJ]using this
 have hfit:t.fits es.size=true:=by have:=hT.fits;rw[bc]at this;rw[Cd];exact this
 have eh:(es.map (·.1)).toList=kb.map λp=>hk prog w p.1:=by rw[Array.toList_map,hes];simp[hJ]
 have hs':(es.map (·.1)).size=kb.length:=by simp[Cd]
 unfold setRelay;refine aa (jn ho hd hfit ?_);dsimp only;rw[if_neg (by omega)];obtain⟨t',order,e1,e2,e3,e4,e5⟩:=k9 (mask:=mask') (finger:=t.finger) (moves:=t.movedTo mask') (led:=t.led) (hs:=es.map (·.1)) hg (by rw[hs'];omega);have er:t.relaid (es.map (·.1)) wanted=some (t',order):=by unfold SetTable.relaid;rw[hw,hT.plain];exact e1
 rw[er];have hlt:∀i∈order.toList,i<kb.length:=λi hi=>by have:=br.mp (e4.mem_iff.mp hi);omega
 have hfm:∀(l:Ai),(∀i∈l,i<kb.length)->l.filterMap (λi=>es[i]?)=hJ prog w (l.filterMap λi=>kb[i]?):=by
  intro l hl
  induction l with
  |nil=>rfl
  |cons i l ih=>
   have hi:=hl i ay;have q1:kb[i]?=some kb[i]:=aw hi;have q2:es[i]?=some (hk prog w kb[i].1,ib kb[i].2):=by
    have:es.toList[i]?=some (hk prog w kb[i].1,ib kb[i].2):=by rw[hes];simp[hJ,q1]
    simpa using this
   rw[bw,bw,q1,q2];simp only;rw[ih λj hj=>hl j (ao _ hj)];rfl
 have hkey:∀(l:Ai),(∀i∈l,i<kb.length)->l.filterMap (λi=>(es.map (·.1)).toList[i]?)=(l.filterMap λi=>kb[i]?).map λp=>hk prog w p.1:=by
  intro l hl
  induction l with
  |nil=>rfl
  |cons i l ih=>
   have hi:=hl i ay;have q1:kb[i]?=some kb[i]:=aw hi;have q2:(es.map (·.1)).toList[i]?=some (hk prog w kb[i].1):=by rw[eh];simp[q1]
   rw[bw,bw,q1,q2];simp only;rw[ih λj hj=>hl j (ao _ hj)];rfl
 have Dd:(order.toList.filterMap λi=>kb[i]?).Perm kb:=by have q:=e4.filterMap (λi=>kb[i]?);rw[hs']at q;exact q.trans (List.Perm.of_eq (NB kb))
 have hes2:(order.filterMap (es[·]?)).toList=hJ prog w (order.toList.filterMap λi=>kb[i]?):=by rw[Array.toList_filterMap];exact hfm _ hlt
 have hsz2:(order.filterMap (es[·]?)).size=es.size:=by have:=congrArg qu hes2;rw[mz]at this;rw[this,Cd];simp[hJ,Dd.length_eq]
 show wpAny _ _ ((if((order.filterMap (es[·]?)).size != es.size)=true then(unsupported "internal:set-table-lost-an-element" >>= λ_=>pure (order.filterMap (es[·]?),t'))else pure (order.filterMap (es[·]?),t')) >>= _) _ _ s;rw[if_neg (by rw[hsz2];simp)];refine aa (ai ?_);dsimp only;refine wpAny_storeSet_of ho hd ?_ (by rw[hsz2,Cd];rcases hg with q|q|q <;> (rw[q]at hl;rw[kd];omega));refine h _ (order.toList.filterMap λi=>kb[i]?) (oj ..) ⟨_,_,_,t',NA hd ho,hex,rfl,hes2, ?_, ?_, ?_,e3.trans hled⟩ Dd
 ·rw[<-hkey _ hlt];exact e5
 ·exact(Dd.map dy).nodup_iff.mpr nd
 ·rw[Dd.length_eq,e2];exact hl
theorem m9 (P:Bg prog w s.heap a kb o es ep t) (T:yE prog w s.heap kb) (hb:gm (intKind prog w) s.heap k b) (hu:A.units<cLine) (h76:k∉kb.map dy->kb.length+1<=76) {Q:Bool->ag->Prop}
  (h:∀h' Dx r,ik a s.heap h'->lR prog w h' a Dx->(k∈kb.map dy->Dx.Perm kb)->(k∉kb.map dy->Dx.Perm ((k,b)::kb))->Q r { s with heap:=h' }):
  wpAny (model prog w) A (setAddHashed a (.ref b) (hk prog w k)) Q E s:=by
 unfold setAddHashed;refine ig ?_;unfold setAddHashedIn;refine aa (jn P.obj P.data P.fits ?_);dsimp only;have hbs:byScan (.ref b) es=false:=by simp[byScan,Value.scannable]
 rw[hbs];simp only[cp,if_false];refine aa (l9 P T hb hu (λCw=>?_) λCn n hn hw=>?_)
 ·dsimp only;refine ai ?_;have:=h s.heap kb false (ug ..) ⟨o,es,ep,t,P⟩ (λ_=>.refl _) λq=>absurd Cw q;exact this
 ·dsimp only;refine aa (jn P.obj P.data P.fits ?_);dsimp only;rw[j8 P.tab.nod];dsimp only;rw[if_pos P.tab.plain];refine aa (m6 hb ?_);simp only[if_true];have hlen:=P.nf;have hmask:=P.tab.msk;have hroom:(kb.map λp=>hk prog w p.1).length+1<=t.mask:=by
   rw[bc]
   rcases hmask with q|q|q <;> (rw[q]at hlen ⊢;omega)
  have T2:=P.tab.put (h:=hk prog w k) (n:=n) hn hw hroom;have hbl:=(uW (j:=pr t.mask (hk prog w k) n) P.tab.rise).2.2;generalize hp:ua t.place (pr t.mask (hk prog w k) n)=p at T2 hbl ⊢;rw[m8 (b:=b)]at T2;have hesl:(jd es p (hk prog w k,ib b)).toList=hJ prog w (kb.take p++(k,b)::kb.drop p):=by rw[uX _ _ _ (by rw[P.size,<-show t.place.size=kb.length from by have:=P.tab.size;simpa using this];exact hbl),P.es,m7]
  have Cd:(jd es p (hk prog w k,ib b)).size=kb.length+1:=by have:=congrArg qu hesl;simp only[hJ,bc,mz]at this;rw[this,(yF kb (k,b) p).length_eq];rfl
  refine aa (wpAny_storeSet_of P.obj P.data ?_ (by rw[Cd,kd];have:=h76 Cn;omega));have Ec:(kb.take p++(k,b)::kb.drop p).length=kb.length+1:=(yF kb (k,b) p).length_eq;have ho2:=NA (s:=s) (es':=jd es p (hk prog w k,ib b)) (t':={ t with place:=jd t.place p (pr t.mask (hk prog w k) n) }) P.data P.obj;have fill:({ t with place:=jd t.place p (pr t.mask (hk prog w k) n) }:ic).tooFull=decide ((kb.length+1)*5>=t.mask*3):=by unfold SetTable.tooFull SetTable.fill;have e1:=T2.size;rw[bc,Ec]at e1;have e1':(jd t.place p (pr t.mask (hk prog w k) n)).size=kb.length+1:=e1;dsimp only;rw[P.tab.nod,e1'];rfl
  simp only[Bool.not_false,Bool.true_and];rw[fill];have fin:∀h' Dx,ik a (s.heap.update a (Obj.putSet (jd es p (hk prog w k,ib b)) { t with place:=jd t.place p (pr t.mask (hk prog w k) n) })) h'->lR prog w h' a Dx->
    Dx.Perm (kb.take p++(k,b)::kb.drop p)->Q true { s with heap:=h' }:=λh' Dx sb st pm=>
   h h' Dx true ((oj ..).trans sb) st (λq=>absurd q Cn) λ_=>pm.trans (yF kb (k,b) p)
  by_cases full:(kb.length+1)*5>=t.mask*3
  ·rw[decide_eq_true full,if_pos rfl];have h76':=h76 Cn;have hcase:(t.mask=7/\kb.length=4)∨(t.mask=31/\kb.length=18):=by
    rcases hmask with q|q|q
    ·left;rw[q]at hlen full;exact⟨q,by omega⟩
    ·right;rw[q]at hlen full;exact⟨q,by omega⟩
    ·rw[q]at full;omega
   have es0:es.size=kb.length:=P.size
   rcases hcase with⟨q1,q2⟩|⟨q1,q2⟩
   ·refine aa (NC (mask':=31) (kb:=kb.take p++(k,b)::kb.drop p) ho2 P.ex rfl hesl T2 (DD P.nd Cn) P.led (by rw[es0,q2];decide) (.inr (.inl rfl)) (by rw[Ec,q2];decide) (by rw[es0,q2,kd];decide) λh' Dx sb st pm=>ai (fin h' Dx sb st pm))
   ·refine aa (NC (mask':=127) (kb:=kb.take p++(k,b)::kb.drop p) ho2 P.ex rfl hesl T2 (DD P.nd Cn) P.led (by rw[es0,q2];decide) (.inr (.inr rfl)) (by rw[Ec,q2];decide) (by rw[es0,q2,kd];decide) λh' Dx sb st pm=>ai (fin h' Dx sb st pm))
  ·rw[decide_eq_false full,if_neg iw];refine ai (fin _ _ (ug ..) ⟨_,_,_,_,ho2,P.ex,rfl,hesl,T2,DD P.nd Cn, ?_,P.led⟩ (.refl _));rw[Ec];exact Nat.lt_of_not_le full
end
theorem Bg.keep {prog:bh}{w:cm}{h h':cu}{a:ah}{kb:KB}(S:lR prog w h a kb) (k:∀o,h.get? a=some o->h'.get? a=some o):lR prog w h' a kb:=by obtain⟨o,es,ep,t,P⟩:=S;exact⟨o,es,ep,t,k o P.obj,P.ex,P.data,P.es,P.tab,P.nd,P.nf,P.led⟩
theorem yG {prog:bh}{w:cm}{h h':cu}{ks:Ah}{a:ah}(x:gm (intKind prog w) h ks a) (k:∀o,h.get? a=some o->h'.get? a=some o):gm (intKind prog w) h' ks a:=by obtain⟨o,items,n,ho,r⟩:=x;exact⟨o,items,n,k o ho,r⟩
section
variable{prog:bh}{w:cm}{A:bu}{R:yb->ag->Prop}{I:ah}{fp wr:List ah}{n:Nat}{P:Nat->af->Prop}{St:Nat->cu->Prop}
structure Upto (ky:Nat->Ah) (ad:Nat->ah) (i:Nat) (kb:KB):Prop where
 from_:∀p∈kb,∃j,j<i/\p=(ky j,ad j)
 all:∀j,j<i->ky j∈kb.map dy
theorem n9 (W:Walks prog w A.in1 I fp wr n P St) (S:ah) (hSf:S∉fp) (ad:Nat->ah) (ky:Nat->Ah) (hval:∀i v,P i v->v=.ref (ad i)) (hu:A.units+2<cLine)
  (U:Ag) (hU:U.length<=76) (hky:∀i,i<n->ky i∈U) (hS:∀i,i<n->ad i≠S/\ad i∉wr):
  ∀(m i:Nat) (s:ag) (kb:KB),n - i=m->i<=n->St i s.heap->lR prog w s.heap S kb->Upto ky ad i kb->(∀j,j<n->gm (intKind prog w) s.heap (ky j) (ad j))->
   (∀h' tk Dx,(∀b o,b∉S::wr->s.heap.get? b=some o->h'.get? b=some o)->lR prog w h' S Dx->Upto ky ad n Dx->R (.ok (.ret .none)) { s with heap:=h',toks:=tk })->
   codeAny (model prog w) A (.builtin "set.update.loop" ⟨[.ref S,.ref I],[]⟩) R s:=by
 have hSw:S∉wr:=λh=>hSf (W.sub _ h);intro m
 induction m with
 |zero=>
  intro i s kb hk hi Es hT Ek Ed hR;have Cw:i=n:=by omega
  subst Cw;refine qt F.entry_set_update_loop ?_;rw[ow F.plain_set_update_loop _];show wpAny _ A.in1 (pyNext (.ref I) >>= _) _ _ s;refine aa (W.done s _ _ Es λh' tk hm=>?_);exact ai (hR h' tk kb (λb o hb e=>hm b o (λz=>hb (ao _ z)) e) (Bg.keep hT λo e=>hm S o hSw e) Ek)
 |succ m ih=>
  intro i s kb hk hi Es hT Ek Ed hR;have hlt:i<n:=by omega
  refine qt F.entry_set_update_loop ?_;rw[ow F.plain_set_update_loop _];show wpAny _ A.in1 (pyNext (.ref I) >>= _) _ _ s;refine aa (W.item i s _ _ hlt Es λv h' tk hP hst' hm=>?_);have ev:=hval i v hP;subst ev;have hT':lR prog w h' S kb:=Bg.keep hT λo e=>hm S o hSw e;have Dr:∀j,j<n->gm (intKind prog w) h' (ky j) (ad j):=λj hj=>yG (Ed j hj) λo e=>hm _ o (hS j hj).2 e;show wpAny _ A.in1 (holding [ib (ad i)] (setAdd S (.ref (ad i))) >>= _) _ _ _;refine aa (ig ?_);unfold setAdd;refine ig ?_;refine aa (wpAny_pyHash_tuple (s:={ s with heap:=h',toks:=tk }) (show A.in1.units<cLine by show A.units+1<cLine;omega) (Dr i hlt) ?_);obtain⟨o,es,ep,t,Pt⟩:=hT';have tups:yE prog w h' kb:=λp hp=>by obtain⟨j,hj,rfl⟩:=Ek.from_ p hp;exact Dr j (by omega)
  have hsub:∀x∈kb.map dy,x∈U:=λx hx=>by obtain⟨p,hp,rfl⟩:=cf.mp hx;obtain⟨j,hj,rfl⟩:=Ek.from_ p hp;exact hky j (by omega)
  refine m9 (s:={ s with heap:=h',toks:=tk+((ky i).length+1) }) (a:=S) (k:=ky i) (b:=ad i) Pt tups (Dr i hlt) (by show A.units+1<cLine;omega) (λCn=>?_) λh2 kb2 r sb hT2 q1 q2=>?_
  ·have nd:(ky i::kb.map dy).Nodup:=ji.mpr ⟨Cn,Pt.nd⟩;have:=nd.length_le_of_subset (l₂:=U) λx hx=>by
    rcases ba.mp hx with rfl|hx
    ·exact hky i hlt
    ·exact hsub x hx
   simp at this;omega
  ·have hup2:Upto ky ad (i+1) kb2:=by
    by_cases Cw:ky i∈kb.map dy
    ·have pm:=q1 Cw;refine⟨λp hp=>?_,λj hj=>?_⟩
     ·obtain⟨j,hj,e⟩:=Ek.from_ p (pm.mem_iff.mp hp);exact⟨j,by omega,e⟩
     ·rw[(pm.map dy).mem_iff]
      rcases jc j i with z|z
      ·exact Ek.all j z
      ·have:j=i:=by omega
       subst this;exact Cw
    ·have pm:=q2 Cw;refine⟨λp hp=>?_,λj hj=>?_⟩
     ·rcases ba.mp (pm.mem_iff.mp hp)with z|z
      ·exact⟨i,by omega,z⟩
      ·obtain⟨j,hj,e⟩:=Ek.from_ p z;exact⟨j,by omega,e⟩
     ·rw[(pm.map dy).mem_iff,dk,ba]
      rcases jc j i with z|z
      ·exact .inr (Ek.all j z)
      ·have:j=i:=by omega
       subst this;exact .inl rfl
   refine ai ⟨plainId_quiet F.plain_set_update_loop _,ih (i+1) _ kb2 (by omega) hlt (W.frame _ _ _ hst' λb hb o e=>?_) hT2 hup2 (λj hj=>?_) λh3 tk3 kb3 k3 hT3 hup3=>?_⟩
   ·rw[sb.2 b (λz:b=S=>hSf (by rw[<-z];exact hb))];exact e
   ·exact yG (Dr j hj) λo e=>(sb.2 _ (hS j hj).1).trans e
   ·refine hR h3 tk3 kb3 (λb o hb e=>k3 b o hb ?_) hT3 hup3;exact(sb.2 b λz=>hb (by rw[z];exact ay)).trans (hm b o (λz=>hb (ao _ z)) e)
end
theorem walk_slots:Slot "set" "__iter__" "set.__iter__"/\Slot "set_iterator" "__next__" "set_iterator.__next__"/\Slot "set_iterator" "__iter__" "set_iterator.__iter__"/\Slot "set" "__len__" "set.__len__":=by
 refine⟨Slot.of (owner := "set") (n := "__iter__") ?_ ?_ ?_ ?_ ?_ ?_,Slot.of (owner := "set_iterator") (n := "__next__") ?_ ?_ ?_ ?_ ?_ ?_,Slot.of (owner := "set_iterator") (n := "__iter__") ?_ ?_ ?_ ?_ ?_ ?_,Slot.of (owner := "set") (n := "__len__") ?_ ?_ ?_ ?_ ?_ ?_⟩
 all_goals first
  |decide +kernel
  |(rw[typeLookup_type,builtinLookup_eq_fast];kernel_rfl)
  |(rw[isSubtype_type];kernel_rfl)
  |(left;decide +kernel)
  |(right;decide +kernel)
theorem yH (a:af):argsOk "set.__iter__" ⟨[a],[]⟩/\argsOk "set_iterator.__next__" ⟨[a],[]⟩/\argsOk "set_iterator.__iter__" ⟨[a],[]⟩:=by refine⟨?_, ?_, ?_⟩ <;> unfold argsOk <;> kernel_rfl
theorem ND:entryFor table "set_iterator.__next__" = some mw.«set_iterator.__next__»:=entryFor_of_fast (by kernel_rfl)
theorem o7:entryFor table "set.__iter__" = some mw.«frozenset.__iter__»:=entryFor_alias (id' := "frozenset.__iter__") (by kernel_rfl) rfl (by decide +kernel) (by kernel_rfl)
theorem p0:entryFor table "set_iterator.__iter__" = some mw.«dict_keyiterator.__iter__»:=entryFor_alias (id' := "dict_keyiterator.__iter__") (by kernel_rfl) rfl (by decide +kernel) (by kernel_rfl)
theorem erase_perm {α:Type}:∀(l:List α) (i:Nat) (h:i<l.length),(l[i]::l.eraseIdx i).Perm l
 | [],_,h=>absurd h (by simp)
 |x::r,0,_=>.refl _
 |x::r,i+1,h=>by have ih:=erase_perm r i (by simpa using h);show((r[i]'(by simpa using h))::x::r.eraseIdx i).Perm (x::r);exact(List.Perm.swap _ _ _).trans (ih.cons x)
theorem NF {α:Type}(next:Nat->Nat):∀(fuel k:Nat) (l:List α) (out:Array α),l.length<=fuel->(xk next fuel k l out).toList.Perm (out.toList++l)
 |0,k,l,out,h=>by have:l=[]:=sv.mp (by omega);subst this;rw[xk];simp
 |fuel+1,k,l,out,h=>by
  rw[xk]
  cases l with
  |nil=>simp
  |cons x r=>have hlt:next k % (x::r).length<(x::r).length:=Nat.mod_lt _ (by simp);rw[aw hlt];dsimp only;refine(NF next fuel (k+1) _ _ (by rw[xu hlt];omega)).trans ?_;rw[Array.toList_push,rn];refine xv _ ?_;exact erase_perm _ _ hlt
theorem p6 {α:Type}(next:Nat->Nat) (xs:Array α):(pickOrder next xs).toList.Perm xs.toList:=by unfold pickOrder;have:=NF next xs.size 0 xs.toList #[] (by simp);simpa using this
section
variable{prog:bh}{w:cm}
def iY (w:cm) (a:ah) (ep:Nat) (es:Array (Int×af)):Array (Int×af):=if w.params.followText "set-order" then pickOrder (w.params.setOrder a ep) es else es
theorem NG (w:cm) (a:ah) (ep:Nat) (es:Array (Int×af)):(iY w a ep es).toList.Perm es.toList:=by
 unfold iY
 split
 ·exact p6 _ _
 ·exact .refl _
theorem yI (w:cm) (a:ah) (ep:Nat) (es:Array (Int×af)):(iY w a ep es).size=es.size:=by simpa using(NG w a ep es).length_eq
def hO (w:cm) (t:ic) (i:Nat):Nat:=if w.params.followText "set-order" then 0 else match i with|0=>0|j+1=>t.place.getD j 0+1
def kQ (a:ah) (slot i n ep:Nat):Obj:={ cls:=.type "set_iterator",data:=.fields #[rawInt slot,rawInt i,.ref a,rawInt n,rawInt ep] }
theorem p7 {t:ic}{hs:Ah}(T:Dh t hs) (hb:w.params.followText "set-order" = false) {i:Nat}(hi:i<=t.place.size):ua t.place (hO w t i)=i:=by
 obtain⟨h1,h2,h3⟩:=uW (j:=hO w t i) T.rise;have mono:∀a b (ha:a<t.place.size) (hb:b<t.place.size),a<b->t.place[a]<t.place[b]:=by intro a b ha hb Dk;have:=fv.mp T.rise a b (by simpa using ha) (by simpa using hb) Dk;simpa using this
 unfold hO at h1 h2 h3 ⊢;rw[hb]at h1 h2 h3 ⊢;simp only[cp,if_false]at h1 h2 h3 ⊢
 cases i with
 |zero=>
  dsimp only at h1 h2 h3 ⊢;generalize ua t.place 0=r at h1 h2 h3 ⊢
  cases r with
  |zero=>rfl
  |succ r=>have:=h1 r (by omega) (by omega);omega
 |succ j=>
  dsimp only at h1 h2 h3 ⊢;have hj:j<t.place.size:=by omega
  have ej:t.place.getD j 0=t.place[j]:=by simp[kn,hj]
  rw[ej]at h1 h2 h3 ⊢;generalize ua t.place (t.place[j]+1)=r at h1 h2 h3 ⊢
  rcases Nat.lt_trichotomy r (j+1)with q|q|q
  ·have:=h2 j hj (by omega);omega
  ·exact q
  ·have:=h1 (j+1) (by omega) q;have:=mono j (j+1) hj (by omega) (by omega);omega
end
section
variable{a it:ah}{kb:KB}{o:Obj}{es:Array (Int×af)}{ep:Nat}{t:ic}
theorem p8 {Q:Bool->ag->Prop}(P:Bg prog w s.heap a kb o es ep t) (h:Q false s):wpAny (model prog w) A (setDrawn a) Q E s:=by
 unfold setDrawn setsByText;refine aa (jn P.obj P.data P.fits ?_);dsimp only;refine aa (aa (nj (ai ?_)));have e:(!(w.params.followText "set-order")&&((!t.plain)&&decide (es.size>1)))=false:=by rw[P.tab.plain];simp
 show wpAny _ _ (pure (!(w.params.followText "set-order")&&((!t.plain)&&decide (es.size>1)))) _ _ s;rw[e];exact ai h
theorem p9 {Q:af->ag->Prop}(P:Bg prog w s.heap a kb o es ep t) (h:Q (.ref s.heap.objs.size) { s with heap:=s.heap.push (kQ a 0 0 es.size ep) }):
  wpAny (model prog w) A (pyIter (.ref a)) Q E s:=by
 have hT:s.TypeIs (.ref a) "set" := ⟨o,P.obj,P.ex.1⟩;refine wpAny_pyIter_slot hT walk_slots.1 (ff walk_slots.1 hT o7 ?_ (yH _).1);unfold mw.«frozenset.__iter__» Builtin.Frozenset.slot0;refine aa (m:=(do Builtin.Frozenset.addrOf (<-slotArgs "__iter__" 0 ⟨[.ref a],[]⟩).1:Sem ah)) (ai ?_);unfold Builtin.Frozenset.sizeOf;refine aa (aa (wa P.obj P.data P.fits (ai ?_)));refine aa (p8 P ?_);simp only[cp,if_false];refine aa (ai ?_);refine aa (wpAny_setEpoch_of P.obj P.data P.fits ?_);refine aa (gn ?_ (by size_fits));refine ai ⟨_,rfl,"set_iterator",_,⟨_,bf _ rfl,rfl⟩,walk_slots.2.1.lookup,h⟩
end
section
variable{a it:ah}{kb:KB}{o:Obj}{es:Array (Int×af)}{ep:Nat}{t:ic}
theorem NH {i:Nat}{Q:Option (af×Nat)->ag->Prop}(P:Bg prog w s.heap a kb o es ep t) (hi:i<=es.size)
  (h:Q (((iY w a ep es)[i]?).map λe=>(e.2,hO w t (i+1))) s):wpAny (model prog w) A (setNext a (hO w t i) i ep) Q E s:=by
 unfold setNext setsByText;refine aa (jn P.obj P.data P.fits ?_);dsimp only;refine aa (aa (nj (ai ?_)));have hps:t.place.size=es.size:=by have:=P.tab.size;rw[P.size];simpa using this
 show wpAny _ _ (if w.params.followText "set-order" = true then _ else _) _ _ s
 by_cases hb:w.params.followText "set-order" = true
 ·rw[if_pos hb,if_neg (by simp)];refine aa ?_;unfold setWalk setsByText;refine aa (jn P.obj P.data P.fits ?_);dsimp only;refine aa (aa (nj (ai ?_)));show wpAny _ _ (if w.params.followText "set-order" = true then _ else _) _ _ s;rw[if_pos hb];refine aa (nj (ai (ai ?_)));unfold iY hO at h;unfold hO;rw[if_pos hb]at h ⊢;rw[if_pos hb]at h;exact h
 ·have hb':w.params.followText "set-order" = false:=by simpa using hb
  rw[if_neg hb];have hl:t.led=true:=by rw[P.led,hb'];rfl
  have hd:((!t.plain)&&decide (es.size>1))=false:=by rw[P.tab.plain];rfl
  show wpAny _ _ (if((!t.plain)&&decide (es.size>1))=true then _ else _) _ _ s;rw[hd];simp only[cp,if_false];show wpAny _ _ ((if((!t.led)&&!es.isEmpty)=true then _ else _) >>= _) _ _ s;rw[hl];simp only[pf,Bool.false_and,cp,if_false];refine aa (ai ?_);have hbl:=p7 (w:=w) P.tab hb' (i:=i) (by omega);rw[hbl];unfold iY at h;rw[if_neg hb]at h;refine ai ?_
  by_cases hlt:i<es.size
  ·have e1:es[i]?=some es[i]:=fq hlt;have e2:t.place[i]?=some t.place[i]:=fq (by omega);rw[e1]at h;rw[e1,e2];have e3:hO w t (i+1)=t.place[i]+1:=by unfold hO;rw[if_neg hb];simp[kn,show i<t.place.size by omega]
   rw[e3]at h;exact h
  ·have e1:es[i]?=none:=tj (by omega);rw[e1]at h ⊢;exact h
theorem q9 {i:Nat}{x:Int×af}{Q:Option af->ag->Prop}(P:Bg prog w s.heap a kb o es ep t) (hit:s.heap.get? it=some (kQ a (hO w t i) i es.size ep)) (hx:(iY w a ep es)[i]?=some x)
  (hQ:∀h',h'.get? it=some (kQ a (hO w t (i+1)) (i+1) es.size ep)->ik it s.heap h'->Q (some x.2) { s with heap:=h' }):wpAny (model prog w) A (pyNext (.ref it)) Q E s:=by
 have hT:s.TypeIs (.ref it) "set_iterator" := ⟨_,hit,rfl⟩;have hlt:i<es.size:=by rw[<-yI w a ep es];exact(dm.mp hx).1
 unfold pyNext;refine aa (qe (fe (name:=jz "__next__") hT walk_slots.2.1 (ff walk_slots.2.1 hT ND ?_ (yH _).2.1)));unfold mw.«set_iterator.__next__»;refine aa (m:=slotArgs "__next__" 0 ⟨[.ref it],[]⟩) (ai ?_);refine aa (wpAny_fieldsOf hit rfl ?_);dsimp only;show wpAny _ _ (setEntries a >>= _) _ _ s;refine aa (wa P.obj P.data P.fits ?_);rw[if_neg (by simp)];show wpAny _ _ (setNext a ((hO w t i:Nat):Int).toNat ((i:Nat):Int).toNat ((ep:Nat):Int).toNat >>= _) _ _ s;rw[gh,gh,gh];refine aa (NH P (gy hlt) ?_);rw[hx];show wpAny _ _ (setField (.ref it) 0 (rawInt ((hO w t (i+1):Nat):Int)) >>= _) _ _ s;refine aa (jh hit (by simp) λh1 g1 b1=>?_);refine aa (jh g1 (by simp) λh2 g2 b2=>?_);refine ai ⟨_,rfl,ai (hQ h2 ?_ (b1.trans b2))⟩;rw[g2];rfl
theorem r8 {i:Nat}{Q:Option af->ag->Prop}(hh:A.handled=none) (P:Bg prog w s.heap a kb o es ep t) (hit:s.heap.get? it=some (kQ a (hO w t i) i es.size ep)) (hi:i=es.size)
  (hQ:∀h',zr it s.heap h'->Q none { s with heap:=h' }):wpAny (model prog w) A (pyNext (.ref it)) Q E s:=by
 have hT:s.TypeIs (.ref it) "set_iterator" := ⟨_,hit,rfl⟩;unfold pyNext;refine aa (qe (fe (name:=jz "__next__") hT walk_slots.2.1 (ff walk_slots.2.1 hT ND ?_ (yH _).2.1)));unfold mw.«set_iterator.__next__»;refine aa (m:=slotArgs "__next__" 0 ⟨[.ref it],[]⟩) (ai ?_);refine aa (wpAny_fieldsOf hit rfl ?_);dsimp only;show wpAny _ _ (setEntries a >>= _) _ _ s;refine aa (wa P.obj P.data P.fits ?_);rw[if_neg (by simp)];show wpAny _ _ (setNext a ((hO w t i:Nat):Int).toNat ((i:Nat):Int).toNat ((ep:Nat):Int).toNat >>= _) _ _ s;rw[gh,gh,gh];refine aa (NH P (qg hi) ?_);rw[tj (by rw[yI];omega)];show wpAny _ _ (setField (.ref it) 2 jr >>= _) _ _ s;refine aa (jh hit (by simp) λh1 g1 b1=>?_);show wpAny _ _ (newExc (.type "StopIteration") [] >>= _) _ _ _;refine aa ?_;simp only[newExc,newTuple];refine aa (gn ?_ (by size_fits));refine aa (m:=firstArgMember _ _) (ym (a:=jr) (by first|rfl|(simp only[firstArgMember];rfl)) ?_);refine gn ?_ (by size_fits);simp only[raiseNew];refine aa (wpAny_handled ?_);rw[show A.in1.handled=none from hh];refine aa (ai (wpAny_throw ?_));refine aa (ui (T := "StopIteration") (b:=true) ⟨_,bf _ rfl,rfl⟩ zj ?_);exact ai (hQ _ ((b1.extBut.push _).push _))
end
section
variable{a:ah}{kb:KB}{o:Obj}{es:Array (Int×af)}{ep:Nat}{t:ic}
theorem Bg.at' {h h':cu}(P:Bg prog w h a kb o es ep t) (k:h'.get? a=some o):Bg prog w h' a kb o es ep t:=⟨k,P.ex,P.data,P.es,P.tab,P.nd,P.nf,P.led⟩
theorem r9 (hh:A.handled=none) (I:ah) (hne:a≠I):
  Walks prog w A I [I,a] [I] es.size (λi v=>∃x,(iY w a ep es)[i]?=some x/\v=x.2) (λi h=>Bg prog w h a kb o es ep t/\h.get? I=some (kQ a (hO w t i) i es.size ep)) where
 sub:=λb hb=>by rw[dj.mp hb];exact ay ..
 frame:=λi h h' ⟨p,q⟩ k=>⟨p.at' (k a (by simp) _ p.obj),k I (by simp) _ q⟩
 item:=λi s Q E hi ⟨p,q⟩ hQ=>by
  have hi':i<(iY w a ep es).size:=by rw[yI];exact hi
  have hx:(iY w a ep es)[i]?=some (iY w a ep es)[i]:=fq hi';refine q9 p q hx λh' q' sb=>hQ _ h' s.toks ⟨_,hx,rfl⟩ ⟨p.at' ((sb.2 a hne).trans p.obj),q'⟩ λb o hb e=>?_;exact(sb.2 b λz=>hb (by rw[z];exact ay ..)).trans e
 done:=λs Q E ⟨p,q⟩ hQ=>r8 hh p q rfl λh' x=>hQ h' s.toks λb o hb e=>x b o (λz=>hb (by rw[z];exact ay ..)) e
 self:=λi s Q E ⟨_,q⟩ hQ=>by have hT:s.TypeIs (.ref I) "set_iterator" := ⟨_,q,rfl⟩;refine wpAny_pyIter_slot hT walk_slots.2.2.1 (ff walk_slots.2.2.1 hT p0 ?_ (yH _).2.2);exact ai ⟨_,rfl,"set_iterator",_,⟨_,q,rfl⟩,walk_slots.2.1.lookup,hQ⟩
theorem t9 {S:ah}{n:Nat}{Q:Unit->ag->Prop}(h:s.heap.get? S=some (seqObj "list" #[] n)) (q:∀h' c,h'.get? S=some (seqObj "list" #[] c)->(∀b o,b≠S->s.heap.get? b=some o->h'.get? b=some o)->Q () { s with heap:=h' }):
  wpAny (model prog w) A (wg (.ref S)) Q E s:=by
 unfold wg;refine aa (wj h rfl ?_);have h1:=uv h (λx=>x.push jr);refine wj h1 rfl ?_;have h2:=uv h1 (λx=>x.pop);refine q _ _ h2 λb o hb e=>?_;rw[qc _ _ _ _ hb,qc _ _ _ _ hb];exact e
theorem u0 {Q:List af->ag->Prop}(hh:A.handled=none) (P:Bg prog w s.heap a kb o es ep t) (hn:es.size<=ck)
  (q:∀(h':cu) (tk:Nat),(∀b o,s.heap.get? b=some o->h'.get? b=some o)->s.heap.objs.size<=h'.objs.size->Q ((iY w a ep es).toList.map (·.2)) { s with heap:=h',toks:=tk }):wpAny (model prog w) A (collect (.ref a)) Q E s:=by
 have la:a<s.heap.objs.size:=au P.obj;have up1:∀b o,s.heap.get? b=some o->(s.heap.push (seqObj "list" #[] 0)).get? b=some o:=λb o e=>ak _ e;have hS1:(s.heap.push (seqObj "list" #[] 0)).get? s.heap.objs.size=some (seqObj "list" #[] 0):=bf _ rfl;have P1:Bg prog w (s.heap.push (seqObj "list" #[] 0)) a kb o es ep t:=P.at' (up1 a o P.obj);have hT1:uq { s with heap:=s.heap.push (seqObj "list" #[] 0) } (.ref a) "set" := ⟨o,P1.obj,P1.ex.1⟩;unfold collect;refine aa (wpAny_runValue (qt entry_proto_collect' ?_));rw[ow F.plain_proto_collect _];refine aa (m:=newList []) (Af (ai ⟨Code.quiet_builtin _ (by decide +kernel),qt entry_list_iadd' ?_⟩));rw[ow F.plain_list_iadd _];show wpAny _ A.in1 (vg (.ref s.heap.objs.size) (.ref a) (.ref s.heap.objs.size)) _ _ { s with heap:=s.heap.push (seqObj "list" #[] 0) };unfold vg;refine aa (qw hT1 ?_);have ne:vt (.ref s.heap.objs.size) (.ref a)=false:=by simp[vt,jq la]
 rw[if_neg (by rw[ne];decide)];refine aa (p9 P1 ?_);have sz:(s.heap.push (seqObj "list" #[] 0)).objs.size=s.heap.objs.size+1:=size_push' _ _;rw[sz];have up2:∀b o,(s.heap.push (seqObj "list" #[] 0)).get? b=some o->((s.heap.push (seqObj "list" #[] 0)).push (kQ a 0 0 es.size ep)).get? b=some o:=λb o e=>ak _ e;have P2:Bg prog w ((s.heap.push (seqObj "list" #[] 0)).push (kQ a 0 0 es.size ep)) a kb o es ep t:=P1.at' (up2 a o P1.obj);have hT2:uq { s with heap:=(s.heap.push (seqObj "list" #[] 0)).push (kQ a 0 0 es.size ep) } (.ref a) "set" := ⟨o,P2.obj,P2.ex.1⟩;have hI2:((s.heap.push (seqObj "list" #[] 0)).push (kQ a 0 0 es.size ep)).get? (s.heap.objs.size+1)=some (kQ a 0 0 es.size ep):=by rw[<-sz];exact bf _ rfl
 refine aa (ig ?_);unfold Builtin.List.listLengthHint;refine aa (wpAny_specialOf hT2 walk_slots.2.2.2.lookup ?_);have spl:splitId "set.__len__" = some ("set","__len__"):=by decide +kernel
 dsimp only;rw[spl];dsimp only;refine aa (ui (b:=true) hT2 sub_set_self ?_);rw[if_neg (by decide),if_pos (by decide +kernel)];refine aa (qw hT2 (ai ?_));rw[if_pos (by decide +kernel)];refine aa (um ?_);refine aa (t9 (s:={ s with heap:=(s.heap.push (seqObj "list" #[] 0)).push (kQ a 0 0 es.size ep) }) (up2 _ _ hS1) λh3 c hS3 up3=>?_);have neS:∀b o,s.heap.get? b=some o->b≠s.heap.objs.size:=λb o e=>bg (au e);have P3:Bg prog w h3 a kb o es ep t:=P2.at' (up3 a o (bg la) P2.obj);have hI3:h3.get? (s.heap.objs.size+1)=some (kQ a 0 0 es.size ep):=up3 _ _ (tm _) hI2;have hz:hO w t 0=0:=by unfold hO;split <;> rfl
 have hh2:A.in1.handled=none:=by simp[hh]
 have nin:s.heap.objs.size∉[s.heap.objs.size+1,a]:=λm=>by
  rcases ba.mp m with e|m
  ·exact tm _ e.symm
  ·exact jq la (dj.mp m)
 refine ai ⟨plainId_quiet F.plain_extend_loop _,codeAny_extend_loopS (A:=A) ((r9 (kb:=kb) (o:=o) (t:=t) (ep:=ep) (es:=es) hh2 (s.heap.objs.size+1) (a:=a) (bg (jk la))).toS) hn s.heap.objs.size nin _ es.size 0 { s with heap:=h3 } #[] c rfl (jg _)
  ⟨P3,by rw[hz];exact hI3⟩ hS3 (ItemsOf.nil _) λs' acc c' mv hS' ia=>?_⟩
 have eacc:acc.toList=(iY w a ep es).toList.map (·.2):=by
  apply nv
  intro i;rw[om,dw,om]
  cases q:acc[i]? with
  |some v=>obtain⟨x,h1,h2⟩:=ia.2 i v q;rw[h1,h2];rfl
  |none=>have h1:acc.size<=i:=Array.getElem?_eq_none_iff.mp q;rw[tj (by rw[yI,<-ia.1];exact h1)];rfl
 obtain⟨hp,gs,dr,tk,os⟩:=s';have e1:gs=s.gens:=mv.gens;have e2:dr=s.drawn:=mv.drawn;have e3:os=s.os:=mv.os;subst e1;subst e2;subst e3;show wpAny _ A (load s.heap.objs.size >>= _) _ _ _;refine aa (wpAny_load hS' (ai ?_));rw[eacc];refine q hp tk (λb o e=>mv.heap b o (λm=>?_) (up3 b o (neS b o e) (up2 b o (up1 b o e)))) (gy (au hS'))
 rcases ba.mp m with z|m
 ·exact neS b o e z
 ·exact bg (jk (au e)) (dj.mp m)
end
open PySem.W SoM L2
section
theorem NI {fin:Bool}{Q:Bool->ag->Prop}:∀{kx ky:Ah}{vx vy:List af}(i:Nat),ItemsAre (intKind prog w) kx vx->ItemsAre (intKind prog w) ky vy->fin=decide (vx.length<vy.length)->Q (dG kx ky) s->KatLex prog w A true fin Q (vx.zip vy) i s
 |_,_,_,_,i,.nil,.nil,hf,h=>by subst hf;exact kat_nil h
 |_,_,_,_,i,.nil,.cons _ _,hf,h=>by subst hf;refine kat_nil ?_;rw[decide_eq_true (by simp)];exact h
 |_,_,_,_,i,.cons _ _,.nil,hf,h=>by subst hf;refine kat_nil ?_;rw[decide_eq_false (by simp)];exact h
 |_,_,_,_,i,.cons (k:=a) hu hx,.cons (k:=b) hv hy,hf,h=>by
  obtain⟨t,rfl⟩:=nr hu;obtain⟨t',rfl⟩:=nr hv;refine kat_cons (xw (kat_go (λe=>?_) λe=>?_))
  ·refine kat_yes (NI (i+1) hx hy (hf.trans (by simp)) ?_);rw[dG,if_pos e]at h;exact h
  ·have h':Q (decide (a<b)) s:=by rw[dG,if_neg (by rw[e];simp)]at h;exact h
   refine kat_no ?_
   cases q:i==0 with
   |true=>exact oneLt_int h'
   |false=>exact kat_one _ _ (xg h')
theorem u5 {x y:ah}{kx ky:Ah}{Q:Bool->ag->Prop}(hx:gm (intKind prog w) s.heap kx x) (hy:gm (intKind prog w) s.heap ky y) (h:Q (dG kx ky) s):wpAny (model prog w) A (keyLt' (tuples' true) (.ref x) (.ref y)) Q E s:=by obtain⟨ox,ix,nx,e1,_,d1,i1⟩:=hx;obtain⟨oy,iy,ny,e2,_,d2,i2⟩:=hy;exact kat_lt e1 d1 e2 d2 (NI 0 i1 i2 (by simp) h)
def Ck (prog:bh) (w:cm) (h:cu) (n:Nat) (ad:Nat->ah) (ky:Nat->Ah):Prop:=∀i,i<n->gm (intKind prog w) h (ky i) (ad i)/\ky i≠[]
def bZ (n:Nat) (ad:Nat->ah):List af:=(bp n).map λi=>.ref (ad i)
theorem lS (n:Nat) (ad:Nat->ah):(bZ n ad).length=n:=by simp[bZ]
theorem DE {n:Nat}{ad:Nat->ah}{i:Nat}(h:i<n):(bZ n ad).getD i jr=.ref (ad i):=by simp[bZ,h]
theorem NJ:∀(l:Ai) {ad:Nat->ah}{ky:Nat->Ah},(∀i∈l,gm (intKind prog w) s.heap (ky i) (ad i)/\ky i≠[])->∃fs:List af,KatTups s.heap (l.map λi=>.ref (ad i)) fs/\fs.length=l.length/\∀v∈fs,∃a t,v=.int a t
 | [],_,_,_=>⟨[],trivial,rfl,by simp⟩
 |i::l,ad,ky,h=>by
  obtain⟨fs,t,hl,hv⟩:=NJ l (ad:=ad) (ky:=ky) λj hj=>h j (ao _ hj);obtain⟨⟨o,its,n,e,c,d,r⟩,ne⟩:=h i (ay ..)
  cases q:its.toList with
  |nil=>rw[q]at r;cases hk:ky i with
   |nil=>exact absurd hk ne
   |cons a b=>rw[hk]at r;cases r
  |cons v vs=>
   rw[q]at r
   cases hk:ky i with
   |nil=>exact absurd hk ne
   |cons a b=>
    rw[hk]at r
    cases r with
    |cons hu _=>
     obtain⟨tk,rfl⟩:=nr hu;refine⟨.int a tk::fs,KatTups.cons e c d (by rw[<-om,q];rfl) t,by simp[hl],λv hv'=>?_⟩
     rcases ba.mp hv' with rfl|hv'
     ·exact⟨_,_,rfl⟩
     ·exact hv v hv'
theorem u6 {n:Nat}{ad:Nat->ah}{ky:Nat->Ah}{G:Array Nat->ag->Prop}(h2:2<=n) (hk:Ck prog w s.heap n ad ky)
  (h:∀p,Ent n p->gZ dG (p.toList.map ky)->G p s):
  wpAny (model prog w) A (keyKind' (bZ n ad).toArray) (λκ s'=>(kas_sort (bZ n ad).length).kasWp (kas_ask prog w A κ (bZ n ad)) G s') (λ_ _=>False) s:=by
 obtain⟨fs,t,hl,hv⟩:=NJ (prog:=prog) (w:=w) (s:=s) (bp n) (ad:=ad) (ky:=ky) λi hi=>hk i (br.mp hi);refine kat_kind (T:=.type "int") t (by rw[hl,ly];omega) (λv hv'=>?_) (by decide) ?_
 ·obtain⟨a,tk,rfl⟩:=hv v hv';exact .now
 ·rw[lS]
  let ks:=(bp n).map ky
  have mem:∀i,i<n->ky i∈ks:=λi hi=>cf.mpr ⟨i,br.mpr hi,rfl⟩;refine ME (n:=n) (f:=λi=>rk dG ks (ky i)) (I:=λs'=>s'=s) (λi j C s' hs hi hj hC=>?_) (kas_sort n) (λp=>Ent n p/\gZ dG (p.toList.map ky)) G s s (d3 (by omega) λp e inc=>⟨e, ?_⟩) rfl λp s' hp hs=>by subst hs;exact h p hp.1 hp.2
  ·subst hs;show wpAny (model prog w) A (keyLt' (tuples' true) ((bZ n ad).getD i jr) ((bZ n ad).getD j jr)) C (λ_ _=>False) s';rw[DE hi,DE hj];refine u5 (hk i hi).1 (hk j hj).1 ?_;have:=hC s' rfl;rwa [MJ Cu (mem i hi)]at this
  ·refine fv.mpr λi j hi hj Cr=>?_;have hj':j<p.size:=by simpa using hj
   have hi':i<p.size:=by omega
   have z:=inc i j (gy Cr) (by rw[<-e.1];exact hj');unfold SoM.F at z;have ei:p.getD i 0=p[i]:=by simp[kn,hi']
   have ej:p.getD j 0=p[j]:=by simp[kn,hj']
   rw[ei,ej]at z;have lt:∀k (hk:k<p.size),p[k]<n:=λk hk=>br.mp (e.2.mem_iff.mp (by simp));have:=d6 Cu (mem _ (lt j hj')) z;simpa using this
end
section
abbrev yJ (h h':cu):Prop:=∀b o,h.get? b=some o->h'.get? b=some o
def Ct (n:Nat) (ad:Nat->ah) (ky:Nat->Ah) (out:List af):Prop:=∃p:Ai,p.Perm (bp n)/\gZ dG (p.map ky)/\out=p.map λi=>.ref (ad i)
theorem Ct.len {n:Nat}{ad:Nat->ah}{ky:Nat->Ah}{out:List af}(h:Ct n ad ky out):out.length=n:=by obtain⟨p,pp,_,e⟩:=h;rw[e,bc,pp.length_eq,ly]
theorem Ck.keep {h h':cu}{n:Nat}{ad:Nat->ah}{ky:Nat->Ah}(k:Ck prog w h n ad ky) (g:∀i,i<n->∀o,h.get? (ad i)=some o->h'.get? (ad i)=some o):Ck prog w h' n ad ky:=λi hi=>⟨yG (k i hi).1 (g i hi),(k i hi).2⟩
theorem u7 {a:ah}{n c:Nat}{ad:Nat->ah}{ky:Nat->Ah}{P:Fin->ag->Prop}(ho:s.heap.get? a=some (seqObj "list" (bZ n ad).toArray c)) (h64:n<64) (hk:Ck prog w s.heap n ad ky)
  (q:∀h' e out,Ct n ad ky out->h'.get? a=some (seqObj "list" out.toArray e)->(∀b o,b≠a->s.heap.get? b=some o->h'.get? b=some o)->P (.done (.ret .none)) { s with heap:=h' }):
  wpAny (model prog w) A (mw.«list.sort» ⟨[.ref a],[]⟩) P E s:=by
 have la:a<s.heap.objs.size:=au ho;obtain⟨e1,g1⟩:∃e1,(s.heap.update a (pd λ_=>(#[]:Array af))).get? a=some (seqObj "list" #[] e1):=⟨_,uv ho λ_=>#[]⟩
 have k1:∀b o,b≠a->s.heap.get? b=some o->(s.heap.update a (pd λ_=>(#[]:Array af))).get? b=some o:=λb o hb e=>by rw[qc _ _ _ _ hb];exact e
 generalize hH1:s.heap.update a (pd λ_=>(#[]:Array af))=H1 at g1 k1;have k3:yJ H1 ((H1.push (seqObj "tuple" (bZ n ad).toArray 0)).push (seqObj "list" #[] 0)):=λb o e=>ak _ (ak _ e);have ne:∀i,i<n->ad i≠a:=λi hi e=>by obtain⟨⟨o,its,m,e1,c1,_⟩,_⟩:=hk i hi;rw[e,ho]at e1;cases e1;exact absurd (Value.type.inj c1) (by decide)
 have K3:Ck prog w ((H1.push (seqObj "tuple" (bZ n ad).toArray 0)).push (seqObj "list" #[] 0)) n ad ky:=hk.keep λi hi o e=>k3 _ o (k1 _ o (ne i hi) e);have g3:=k3 a _ g1;have kk:∀b o,b≠a->s.heap.get? b=some o->((H1.push (seqObj "tuple" (bZ n ad).toArray 0)).push (seqObj "list" #[] 0)).get? b=some o:=λb o hb e=>k3 b o (k1 b o hb e);have sl:n<=ck:=by rw[kd];omega
 have fin:∀(out:List af),Ct n ad ky out->wpAny (model prog w) A (do
   let touched:=(<-seqEpoch a) != e1
   Builtin.List.listUpdate (.ref a) λ_=>out.toArray
   if let some e:=(none:Option af)then rule "list.sort.comparison-raised"; throw e
   if touched then rule "list.sort.modified"; raiseError "ValueError" "list modified during sort"
   ret .none) P E { s with heap:=(H1.push (seqObj "tuple" (bZ n ad).toArray 0)).push (seqObj "list" #[] 0) }:=λout Dm=>by
  refine aa (seqEpoch_at g3 rfl ?_);refine aa (wj g3 rfl ?_ (jg _) (by rw[ax,Dm.len];omega));simp only[bne_self_eq_false,cp,if_false];exact ai (q _ _ out Dm (uv g3 λ_=>out.toArray) λb o hb e=>by rw[qc _ _ _ _ hb];exact kk b o hb e)
 generalize hH3:(H1.push (seqObj "tuple" (bZ n ad).toArray 0)).push (seqObj "list" #[] 0)=H3 at k3 K3 g3 kk fin;rw[list_sort_plain];refine aa (listItems_at ho rfl (aa (wj ho rfl ?_ (by rw[ax,lS];exact sl) (jg _))));rw[hH1];refine aa (seqEpoch_at g1 rfl (aa (wpAny_newTuple (aa (Af (ig ?_) (jg _))) (by show(bZ n ad).length<=_;rw[lS];exact sl))));show wpAny (model prog w) A _ P E { s with heap:=(H1.push (seqObj "tuple" (bZ n ad).toArray 0)).push (seqObj "list" #[] 0) };rw[hH3];have hz:(bZ n ad).toArray.size=n:=by rw[ax,lS]
 dsimp only
 by_cases h2:n<2
 ·rw[if_pos (by rw[hz];exact h2),if_pos (by rw[hz];exact h2)];refine aa (ai ?_);rw[StateT.run_pure];refine aa (ai ?_);have e:(arrOf (SortSt.mk' general' ((bZ n ad).toArray.zip (bZ n ad).toArray) #[] 7 none)).map (·.2)=(bZ n ad).toArray:=by show(((bZ n ad).toArray.zip (bZ n ad).toArray)).map (·.2)=_;rw[Array.map_snd_zip (aj _)]
  dsimp only;rw[e];refine fin _ ⟨bp n,.refl _, ?_,rfl⟩;refine fv.mpr λi j hi hj Cr=>?_;rw[bc,ly]at hj;omega
 ·have h2':2<=n:=by omega
  rw[if_neg (by rw[hz];exact h2),if_neg (by rw[hz];exact h2)];refine aa (lh (u6 (A:=A) (s:={ s with heap:=H3 }) (G:=λp s'=>s'={ s with heap:=H3 }/\Ent n p/\gZ dG (p.toList.map ky)) h2' K3 λp e r=>⟨rfl,e,r⟩) (λκ s0 hκ=>?_) λ_ _ x=>x.elim);refine aa (lh (kat_run (ks:=bZ n ad) (vs:=bZ n ad) (Q:=λDw s'=>∃p:Array Nat,p.size=(bZ n ad).length/\arrOf Dw=p.map (kas_item ((bZ n ad).toArray.zip (bZ n ad).toArray))/\failedOf Dw=none/\s'={ s with heap:=H3 }/\Ent n p/\gZ dG (p.toList.map ky))
   rfl (by rw[lS];exact h2') (by rw[lS];exact h64) (λp Dw s' z1 z2 z3 z4=>⟨p,z1,z2,z3,z4⟩) hκ) ?_ λ_ _ e=>e)
  rintro ⟨⟨⟩,Dw⟩ s' ⟨p,_,z2,z3,rfl,z5,z6⟩
  dsimp only;rw[kat_snds rfl z2,z3];have e:(p.toList.map λi=>(bZ n ad).getD i jr)=p.toList.map λi=>.ref (ad i):=List.map_congr_left λi hi=>DE (br.mp (z5.2.mem_iff.mp hi));rw[e];exact fin _ ⟨p.toList,z5.2,z6,rfl⟩
theorem u9 {x:af}{n:Nat}{ad:Nat->ah}{ky:Nat->Ah}{Q:af->ag->Prop}(h64:n<64) (hk:Ck prog w s.heap n ad ky)
  (hc:∀(Q':List af->ag->Prop) (E':af->ag->Prop),(∀h' tk,yJ s.heap h'->s.heap.objs.size<=h'.objs.size->Q' (bZ n ad) { s with heap:=h',toks:=tk })->wpAny (model prog w) A.in1 (collect x) Q' E' s)
  (q:∀h' tk D e out,Ct n ad ky out->s.heap.objs.size<=D->h'.get? D=some (seqObj "list" out.toArray e)->yJ s.heap h'->Q (.ref D) { s with heap:=h',toks:=tk }):
  wpAny (model prog w) A (call (.builtin "sorted") [x]) Q E s:=by
 refine Calls.call_function_entry kind_sorted plain_sorted entry_sorted (args_sorted1 _) ?_;unfold mw.«sorted»;refine aa (m:=checkCount "sorted" 1 1 _) (ai (aa (hc _ _ λh1 tk k1 sz=>aa (Af ?_ (by rw[lS,kd];omega)))));have g:(h1.push (seqObj "list" (bZ n ad).toArray 0)).get? h1.objs.size=some (seqObj "list" (bZ n ad).toArray 0):=bf _ rfl;have k2:yJ s.heap (h1.push (seqObj "list" (bZ n ad).toArray 0)):=λb o e=>ak _ (k1 b o e);refine aa (ig (ff slot_list_sort ⟨_,g,rfl⟩ entry_list_sort (u7 (s:={ s with heap:=h1.push (seqObj "list" (bZ n ad).toArray 0),toks:=tk }) g h64 (hk.keep λi hi o e=>k2 _ o e) λh' e out so ho ke=>⟨_,rfl, ?_⟩) (args_list_sort _)));exact ai ⟨_,rfl,q h' tk h1.objs.size e out so sz ho λb o e=>ke b o (bg (av (au e) sz)) (k2 b o e)⟩
end
def bare (w:cm):Obj:={ cls:=.type "set",dict:=none,data:=.set #[] 0 (.fresh 0 0 (!w.params.followText "set-order")) }
section
theorem v5 {h:cu}{a:ah}(e:h.get? a=some (bare w)):lR prog w h a []:=by
 have tok:∀led:Bool,Dh (.fresh 0 0 led) []:=λled=>⟨rfl,.nil,rfl,(λj hj=>nomatch hj),jg _,.inl rfl,(λi h j e=>nomatch e),rfl⟩
 exact⟨bare w,#[],0,_,e,⟨rfl,rfl,rfl⟩,rfl,rfl,tok _,.nil,(by show 0*5<7*3;decide),rfl⟩
theorem v7 (a:af) {Q:af->ag->Prop}(q:Q (.ref s.heap.objs.size) { s with heap:=s.heap.push (bare w) }):
  codeAny (model prog w) A (.call (.builtin "set.__new__") ⟨[.type "set",a],[]⟩) (wants Q E) s:=by
 refine vk F.plain_set_new F.entry_set_new (ym (F.newCall_set_1 a) ?_);have self:=sub_set_self;unfold mw.«set.__new__» Builtin.Frozenset.newClass;cases s
 wp_walk
 exact nj (ai (aa (wpAny_alloc (ai (ai q)))))
theorem v8 {v:af}{Q N:af->ag->Prop}(hn:codeAny (model prog w) A.in1 (.call (.builtin "set.__new__") ⟨[.type "set",v],[]⟩) (wants N E) s)
  (hi:∀x s1,N x s1->s1.TypeIs x "set"/\codeAny (model prog w) A.in1 (.call (.builtin "set.__init__") ⟨[x,v],[]⟩) (wants (λr s2=>r=.none/\Q x s2) E) s1):wpAny (model prog w) A (call (.type "set") [v]) Q E s:=by
 have f:=F.called_set;obtain⟨_,_,fm⟩:=f.mro;have fd:=f.made;have fs:=f.sub;have ft:=f.notType;have fc:=f.canCreate;have fk:=F.typeCall_set_1 v;have fl:=f.init.lookup;have q:(Code.builtin "type.__call__" ⟨[.type "set",v],[]⟩).quiet=true:=Code.quiet_builtin _ (by decide +kernel);refine zd (codeAny_of_tree (ai ⟨q,qt F.entry_type_call ?_⟩));rw[Around.under_plain (weight_type_call_type "set" [v] []) rfl]
 repeat (any_goals (first|assumption|wp_step))
 refine oz hn ?_
 rintro (e|fl1) s1 h1
 ·exact h1
 ·cases fl1 <;> try exact h1.elim
  rename_i x;obtain⟨hx,hr⟩:=hi x s1 h1;have fb:=f.init.bind x
  repeat (any_goals (first|assumption|wp_step))
  refine oz hr ?_
  rintro (e|Eu) s2 h2
  ·exact h2
  ·cases Eu <;> try exact h2.elim
   obtain⟨rfl,h3⟩:=h2
   repeat (any_goals (first|assumption|wp_step))
theorem NK {l:ah}{T:String}{it:Obj}{n:Nat}{P:Nat->af->Prop}{St:Nat->cu->Prop}{fp wr:List ah}(ad:Nat->ah) (ky:Nat->Ah) (U:Ag) {Q:af->ag->Prop}
  (hu:A.units+8<cLine) (hT:s.TypeIs (.ref l) T) (n1:isSubtype (.type T) (.type "set")=pure false) (n2:isSubtype (.type T) (.type "frozenset")=pure false) (n3:(zw T==zw "dict")=false)
  (hi:∀(B:bu) (Q':af->ag->Prop) (E':af->ag->Prop),Q' (.ref (s.heap.objs.size+1)) { s with heap:=(s.heap.push (bare w)).push it }->wpAny (model prog w) B (pyIter (.ref l)) Q' E' { s with heap:=s.heap.push (bare w) })
  (W:Walks prog w A.in1.in1.in1 (s.heap.objs.size+1) fp wr n P St) (hfp:s.heap.objs.size∉fp) (hwr:∀b∈wr,s.heap.objs.size<b) (h0:St 0 ((s.heap.push (bare w)).push it))
  (hval:∀i v,P i v->v=.ref (ad i)) (hU:U.length<=76) (hky:∀i,i<n->ky i∈U) (Ed:∀j,j<n->gm (intKind prog w) s.heap (ky j) (ad j))
  (q:∀(h':cu) (tk:Nat) kb,lR prog w h' s.heap.objs.size kb->Upto ky ad n kb->(∀b o,s.heap.get? b=some o->h'.get? b=some o)->Q (.ref s.heap.objs.size) { s with heap:=h',toks:=tk }):
  wpAny (model prog w) A (call (.type "set") [.ref l]) Q E s:=by
 refine v8 (N:=λx s1=>x=.ref s.heap.objs.size/\s1={ s with heap:=s.heap.push (bare w) }) (v7 _ ⟨rfl,rfl⟩) ?_
 rintro x s1 ⟨rfl,rfl⟩
 have up:∀b o,s.heap.get? b=some o->(s.heap.push (bare w)).get? b=some o:=λb o e=>ak _ e;have hb:(s.heap.push (bare w)).get? s.heap.objs.size=some (bare w):=bf _ rfl;have hS:uq { s with heap:=s.heap.push (bare w) } (.ref s.heap.objs.size) "set" := ⟨_,hb,rfl⟩;refine⟨hS,vk F.called_set.init.plain F.entry_set_init (check_set_init_1 hS ?_)⟩;obtain⟨ol,el,cl⟩:=hT;have hl1:uq { s with heap:=s.heap.push (bare w) } (.ref l) T:=⟨ol,up l ol el,cl⟩
 have lt:∀j,j<n->ad j<s.heap.objs.size:=λj hj=>let ⟨_,_,_,e,_⟩:=Ed j hj;au e;have Em:((s.heap.push (bare w)).push it).get? s.heap.objs.size=some (bare w):=ak _ hb;have run:∀(R:yb->ag->Prop),(∀h' tk kb,lR prog w h' s.heap.objs.size kb->Upto ky ad n kb->(∀b o,s.heap.get? b=some o->h'.get? b=some o)->R (.ok (.ret .none)) { s with heap:=h',toks:=tk })->
   codeAny (model prog w) A.in1.in1 (.builtin "set.update.loop" ⟨[.ref s.heap.objs.size,.ref (s.heap.objs.size+1)],[]⟩) R { s with heap:=(s.heap.push (bare w)).push it }:=λR hR=>by
  refine n9 W s.heap.objs.size hfp ad ky hval (by show A.units+1+1+2<cLine;omega) U hU hky (λj hj=>⟨bg (lt j hj),λm=>Nat.lt_asymm (lt j hj) (hwr _ m)⟩) n 0 _ [] rfl (jg _) h0 (v5 Em)
   ⟨(λp hp=>nomatch hp),λj hj=>absurd hj (Nat.not_lt_zero j)⟩ (λj hj=>yG (Ed j hj) λo e=>ak _ (up _ o e)) λh' tk kb keep S u=>hR h' tk kb S u λb o e=>?_
  have hlt:=au e;exact keep b o (λm=>(ba.mp m).elim (bg hlt) λm=>Nat.lt_asymm hlt (hwr b m)) (ak _ (up b o e))
 unfold mw.«set.__init__» noKeywords Builtin.Frozenset.updateFrom;generalize hPI:pyIter=PI;unfold bare at hb
 wp_walk
 subst hPI;refine hi _ _ _ ?_;refine aa (wpAny_runValue (run _ λh' tk kb S u keep=>?_));exact ai (ai ⟨rfl,q h' tk kb S u keep⟩)
end
end SR
namespace L2.Mr
open SR
def Bi (H:Hp):Ge->Ag->Prop
 | [],[]=>True
 |v::vs,k::ks=>(∃b,v=.ref b/\H b=some (.tup (k.map Fm)))/\Bi H vs ks
 |_,_=>False
def v9:V->ah
 | .ref b=>b
 |_=>0
def fY (vs:Ge) (i:Nat):ah:=v9 (vs.getD i .non)
section
variable{X:Cx}{pins:List (ah×Obj)}{σ:St}{H H':Hp}{s:ag}
theorem Bi.len:∀{vs:Ge}{ks:Ag},Bi H vs ks->vs.length=ks.length
 | [],[],_=>rfl
 | [],_::_,h=>h.elim
 |_::_,[],h=>h.elim
 |v::vs,k::ks,h=>by rw[cg,cg,Bi.len h.2]
theorem Bi.at_:∀{vs:Ge}{ks:Ag}{i:Nat},Bi H vs ks->i<ks.length->vs[i]?=some (.ref (fY vs i))/\H (fY vs i)=some (.tup ((ks.getD i []).map Fm))
 | [],[],_,_,h=>by simp at h
 | [],_::_,_,h,_=>h.elim
 |_::_,[],_,h,_=>h.elim
 |v::vs,k::ks,0,h,_=>by obtain⟨⟨b,rfl,e⟩,_⟩:=h;exact⟨rfl,e⟩
 |v::vs,k::ks,i+1,h,hi=>by
  obtain⟨e1,e2⟩:=Bi.at_ (i:=i) h.2 (by simpa using hi);have ea:fY (v::vs) (i+1)=fY vs i:=by simp[fY]
  exact⟨by rw[ea];simpa using e1,by rw[ea];simpa using e2⟩
theorem NL:∀{k:Ah}{its:List af}{prog:bh}{w:cm},Az (k.map Fm) its->ItemsAre (intKind prog w) k its
 | [],_,_,_,.nil=>.nil
 |n::k,_,_,_,.cons h1 h2=>by obtain⟨t,rfl⟩:=h1;exact .cons (intKind_is _ _ _ _) (NL h2)
theorem DF (I:Inv X pins σ H s) {b:ah}{k:Ah}(e:H b=some (.tup (k.map Fm))):gm (intKind X.prog X.w) s.heap k b:=by obtain⟨_,its,r,o,e1,c,_,n,d⟩:=I.hok b _ e;exact⟨o,its.toArray,n,e1,c,d,NL r⟩
theorem NM {vs:Ge}{ks:Ag}{its:List af}(h:Bi H vs ks) (r:Az vs its):its=bZ ks.length (fY vs):=by
 have hl:=r.length;have hl2:=h.len
 apply nv
 intro i
 by_cases hi:i<ks.length
 ·obtain⟨e1,_⟩:=h.at_ hi;obtain⟨u,e2,e3⟩:=r.get e1;cases e3;rw[e2];simp[bZ,hi]
 ·rw[zl (by omega),zl (by rw[lS];omega)]
theorem y8 {n:Nat}{ad:Nat->ah}{ky:Nat->Ah}{out:List af}(so:Ct n ad ky out) (hH:∀i,i<n->H (ad i)=some (.tup ((ky i).map Fm))):
  ∃(p:Ai) (Cf:Ge),p.Perm (bp n)/\gZ dG (p.map ky)/\Az Cf out/\Bi H Cf (p.map ky):=by
 obtain⟨p,pp,r,rfl⟩:=so;refine⟨p,p.map λi=>Gb (ad i),pp,r, ?_, ?_⟩
 ·clear pp r
  induction p with
  |nil=>exact .nil
  |cons i p ih=>exact .cons rfl ih
 ·have:∀q:Ai,(∀i∈q,i<n)->Bi H (q.map λi=>Gb (ad i)) (q.map ky):=λq=>by
   induction q with
   |nil=>intro _;trivial
   |cons i q ih=>exact λh=>⟨⟨_,rfl,hH i (h i (ay ..))⟩,ih λj hj=>h j (ao _ hj)⟩
  exact this p λi hi=>br.mp (pp.mem_iff.mp hi)
theorem y9 {α:Type}{p:Ai}{n:Nat}{l:List α}{d:α}(h:p.Perm (bp n)) (hl:l.length=n):(p.map λi=>l.getD i d).Perm l:=by
 refine(h.map _).trans ?_;have:(bp n).map (λi=>l.getD i d)=l:=by
  apply List.ext_getElem (by simp[hl])
  intro i h1 h2;simp[h2]
 rw[this]
def yK (prog:bh) (w:cm) (l:ah) (o:Obj) (kb:KB):Prop:=∃es ep t,∀h:cu,h.get? l=some o->Bg prog w h l kb o es ep t
structure KbOk (H:Hp) (kb:KB) (ks:Ag):Prop where
 tup:∀p∈kb,H p.2=some (.tup (p.1.map Fm))
 frm:∀p∈kb,p.1∈ks
 all:∀k∈ks,k∈kb.map dy
abbrev NN (X:Cx):Ge->Hp->VK->Prop:=λxs H Q=>∃(p:ah) (vs:Ge) (ks:Ag),xs=[.ref p]/\H p=some (.lst vs)/\Bi H vs ks/\(eO dG ks).length<=76/\∀l o kb,H l=none->yK X.prog X.w l o kb->KbOk H kb ks->Q (.ref l) (aU H l (.frz o (.own 0)))
theorem sub_list:isSubtype (.type "list") (.type "set")=pure false/\isSubtype (.type "list") (.type "frozenset")=pure false:=⟨F.sub_list_set,F.sub_list_frozenset⟩
theorem z9 {k:Nat}(rm:Bo k X.A):Bc X (.type "set") (NN X):=by
 intro pins s σ H xs us Q I rv ⟨p,vs,ks,e,hp,ht,hU,q⟩;subst e;obtain⟨u,rfl,ru⟩:=jD rv;cases ru;obtain⟨its,rits,pl,hz⟩:=I.list (Fv hp);have hits:=NM ht rits;have lp:=I.hok.lt hp;have hI:s.heap.IsList p (bZ ks.length (fY vs)).toArray:=by rw[<-hits];exact pl.isList
 have Cd:(bZ ks.length (fY vs)).toArray.size=ks.length:=by rw[ax,lS]
 have hh:X.A.in1.in1.in1.handled=none:=rm.hd;have hne:p≠s.heap.objs.size+1:=bg (jk lp);have hb:(s.heap.push (bare X.w)).IsList p (bZ ks.length (fY vs)).toArray:=hI.push _;have hs1:(s.heap.push (bare X.w)).objs.size=s.heap.objs.size+1:=size_push' _ _;have W:=ve (prog:=X.prog) (w:=X.w) (A:=X.A.in1.in1.in1) hh (s.heap.objs.size+1) p hne (bZ ks.length (fY vs)).toArray;rw[Cd]at W;refine NK (T := "list") (it:={ cls:=.type "list_iterator",data:=.fields #[.ref p,.int 0 0] }) (fY vs) (λi=>ks.getD i []) (eO dG ks) (by have:=rm.un;omega) hI.typeIs sub_list.1 sub_list.2 (by decide) (λB Q' E' hQ=>?_) W ?_ ?_ ?_ (λi v hv=>?_) hU (λi hi=>?_) (λj hj=>?_) λh' tk kb hS Ek k=>?_
 ·refine ka hb ?_;rw[<-hs1]at hQ;exact hQ
 ·intro m
  rcases ba.mp m with z|m
  ·exact tm _ z.symm
  ·exact jq lp (dj.mp m)
 ·intro b hb;rw[dj.mp hb];exact jt _
 ·refine⟨⟨{ cls:=.type "list_iterator",data:=.fields #[.ref p,.int 0 0] }, ?_,rfl,rfl⟩,hb.push _⟩;rw[<-hs1];exact bf _ rfl
 ·have hi:i<ks.length:=by have:=(dm.mp hv).1;rwa [Cd]at this
  have:(bZ ks.length (fY vs))[i]?=some (.ref (fY vs i)):=by simp[bZ,hi]
  rw[zm,this]at hv;exact(cq hv).symm
 ·refine(oJ Cu _ _).mpr ?_;show ks.getD i []∈ks;simp[hi]
 ·exact DF I (ht.at_ hj).2
 ·obtain⟨o,es,ep,t,P⟩:=hS;refine⟨.ref s.heap.objs.size,_,I.laid (t':=tk) (o:=.frz o (.own 0)) k (aj _) ⟨P.obj,o,P.obj⟩,rfl,q _ o kb (I.hok.fresh (aj _)) ⟨es,ep,t,λh e=>P.at' e⟩ ⟨λz hz=>?_,λz hz=>?_,λz hz=>?_⟩⟩
  ·obtain⟨j,hj,rfl⟩:=Ek.from_ z hz;exact(ht.at_ hj).2
  ·obtain⟨j,hj,rfl⟩:=Ek.from_ z hz;show ks.getD j []∈ks;simp[hj]
  ·obtain⟨j,hj,rfl⟩:=kg hz;have:=Ek.all j hj;simpa[hj]using this
abbrev NO (X:Cx):Ge->Hp->VK->Prop:=λxs H Q=>∃(l:ah) (o:Obj) (kb:KB) (ks:Ag),xs=[.ref l]/\H l=some (.frz o (.own 0))/\yK X.prog X.w l o kb/\KbOk H kb ks/\(∀k∈ks,k≠[])/\(eO dG ks).length<64/\∀D Cf,H D=none->Bi H Cf (eO dG ks)->Q (.ref D) (aU H D (.lst Cf))
theorem z00 {α β:Type}{f:α->β}:∀{l:List β}{l':List β},l.Perm l'->∀xs:List α,l'=xs.map f->∃ys:List α,ys.Perm xs/\l=ys.map f:=by
 intro l l' h
 induction h with
 |nil=>intro xs e;exact⟨xs,.refl _,e⟩
 |cons a _ ih=>
  intro xs e
  cases xs with
  |nil=>cases e
  |cons x xs=>simp only[dk,zv]at e;obtain⟨ys,p,e'⟩:=ih xs e.2;exact⟨x::ys,p.cons x,by simp[e.1,e']⟩
 |swap a b l=>
  intro xs e
  cases xs with
  |nil=>cases e
  |cons x xs=>
   cases xs with
   |nil=>simp at e
   |cons y xs=>simp only[dk,zv]at e;exact⟨y::x::xs,.swap ..,by simp[e.1,e.2.1,e.2.2]⟩
 |trans _ _ ih1 ih2=>intro xs e;obtain⟨ys,p,e'⟩:=ih2 xs e;obtain⟨zs,p',e''⟩:=ih1 ys e';exact⟨zs,p'.trans p,e''⟩
theorem z01 {k:Nat}(rm:Bo k X.A):Bc X (.builtin "sorted") (NO X):=by
 intro pins s σ H xs us Q I rv ⟨l,o,kb,ks,e,hl,⟨es,ep,t,hP⟩,kO,ne,h64,q⟩;subst e;obtain⟨u,rfl,ru⟩:=jD rv;cases ru;have P:=hP s.heap (I.hok l _ hl).1;have pe:(iY X.w l ep es).toList.Perm (hJ X.prog X.w kb):=by rw[<-P.es];exact NG _ _ _ _
 obtain⟨kc,pk,ek⟩:=z00 pe kb rfl;have mem:∀i,i<kc.length->kc.getD i ([],0)∈kb:=λi hi=>pk.mem_iff.mp (by simp[hi]);have hn:(kb.map dy).length=(eO dG ks).length:=by refine List.Perm.length_eq ((qi P.nd (uU Cu (uT Cu ks))).mpr λz=>?_);rw[oJ Cu];refine⟨λh=>?_,λh=>kO.all z h⟩;obtain⟨p,hp,rfl⟩:=cf.mp h;exact kO.frm p hp
 have hlen:kc.length<64:=by rw[pk.length_eq];rw[bc]at hn;omega
 have hes:es.size=kc.length:=by rw[P.size,pk.length_eq]
 have KA:Ck X.prog X.w s.heap kc.length (λi=>(kc.getD i ([],0)).2) (λi=>(kc.getD i ([],0)).1):=λi hi=>⟨DF I (kO.tup _ (mem i hi)),ne _ (kO.frm _ (mem i hi))⟩
 have er:(iY X.w l ep es).toList.map (·.2)=bZ kc.length (λi=>(kc.getD i ([],0)).2):=by
  rw[ek,jo]
  apply List.ext_getElem (by simp[lS])
  intro i h1 h2;have hi:i<kc.length:=by simpa using h1
  simp[bZ,hi]
 refine u9 hlen KA (λQ' E' hQ=>?_) λh' tk D e out so hD ho k=>?_
 ·refine u0 (show X.A.in1.handled=none from rm.hd) P (by rw[hes,kd];omega) λh' tk kk sz=>?_;rw[er];exact hQ h' tk kk sz
 ·obtain⟨pp,Cf,h1,h2,h3,h4⟩:=y8 (H:=H) so λi hi=>kO.tup _ (mem i hi);have pm:(pp.map λi=>(kc.getD i ([],0)).1).Perm (kb.map dy):=by have:=((y9 (d:=(([],0):Ah×ah)) h1 rfl).trans pk).map dy;rwa [jo]at this
  have nd:(pp.map λi=>(kc.getD i ([],0)).1).Nodup:=pm.nodup_iff.mpr P.nd;have rs:fX dG (pp.map λi=>(kc.getD i ([],0)).1):=by
   refine(h2.and nd).imp λ{a b} ⟨x,y⟩=>?_
   cases q:dG a b with
   |true=>rfl
   |false=>exact absurd (Cu.tot a b q x) y
  have e1:(pp.map λi=>(kc.getD i ([],0)).1)=eO dG ks:=d4 Cu rs λz=>by rw[pm.mem_iff];refine⟨λh=>?_,λh=>kO.all z h⟩;obtain⟨p,hp,rfl⟩:=cf.mp h;exact kO.frm p hp
  rw[e1]at h4;refine⟨.ref D,_,I.laid (t':=tk) k hD (show Bb X.prog X.w _ _ _ (.lst Cf) from⟨?_,out,e,h3,ho⟩),rfl,q D Cf (I.hok.fresh hD) h4⟩;rw[h4.len,kd];omega
end
def rV:Dv->Option Ah 
 | .tup xs=>bF iN xs
 |_=>none
def yL (k:Ah):Dv:=.tup (k.map Fc)
section
variable{X:Cx}{G:Cfg}{E:XK}{k:Nat}{e a b:bj}{es:List bj}{ma mb:M Dv}{aR:M Al }{p p2 pos C':Pos}
theorem DG {μ:Nat->ah}{n:Nat}{H:Hp}:∀{xs:Al}{vs:Ge}{ks:Ag},RelDL G μ n H xs vs->bF rV xs=some ks->Bi H vs ks
 | [],_,ks,r,e=>by cases e;rw[RelDL]at r;subst r;trivial
 |x::xs,_,ks,r,e=>by
  rw[RelDL]at r;obtain⟨v,rr,rfl,r1,r2⟩:=r;unfold bF at e
  cases x with
  |tup ds=>
   dsimp only[rV]at e
   cases q:bF iN ds with
   |none=>rw[q]at e;cases e
   |some zs=>
    rw[q]at e;dsimp only at e
    cases q2:bF rV xs with
    |none=>rw[q2]at e;cases e
    |some ys=>rw[q2]at e;cases e;rw[Ax]at r1;obtain⟨b,us,rfl,h1,h2⟩:=r1;rw[rR h2 q]at h1;exact⟨⟨b,rfl,h1⟩,DG r2 q2⟩
  |_=>cases e
theorem NP {μ:Nat->ah}{n:Nat}{H:Hp}:∀{vs:Ge}{ks:Ag},Bi H vs ks->RelDL G μ n H (ks.map yL) vs
 | [],[],_=>Fu
 | [],_::_,h=>h.elim
 |_::_,[],h=>h.elim
 |v::vs,k::ks,h=>by obtain⟨⟨b,rfl,e⟩,h2⟩:=h;refine Fj ?_ (NP h2);unfold yL;rw[Ax];exact⟨b,_,rfl,e,tQ k⟩
def yM (ks:Ag):Bool:=ks.all λk=>!k.isEmpty
theorem z02 {ks:Ag}(h:yM ks=true):∀k∈ks,k≠[]:=λk hk e=>by have:=fi.mp h k hk;rw[e]at this;cases this
theorem z03:di "set" = some (.type "set"):=by decide +kernel
end
open PySem.SeqAt PySem.MeetsSeq PySem.MeetsSeq2 PySem.MeetsSeq3
section
variable{X:Cx}{G:Cfg}{E:XK}{k:Nat}{e a b o:bj}{es:List bj}{mo me ma mb:M Dv}{aR:M Al }{p p2 pos C' apos cpos np:Pos}{y:Str}
theorem z04 {prog:bh}{w:cm}{A:bu}{Ee:af->ag->Prop}{s:ag}{t sl:ah}{items:Array af}{vl vu:af}{lo hi:Option Int}{Q:af->ag->Prop}(ht:yz s.heap t items) (hs:s.heap.IsSliceOf sl vl vu .none) (pl:vh vl lo) (pu:vh vu hi)
  (h0:HT.sIx items.size 0 lo=0) (h1:HT.sIx items.size items.size hi=items.size) (h:Q (.ref t) s):wpAny (model prog w) A (getItem (.ref t) (.ref sl)) Q Ee s:=by
 obtain⟨os,hos,hcs,hds⟩:=id hs;have hTs:s.TypeIs (.ref sl) "slice" := ⟨os,hos,hcs⟩;have tt:=ht.typeIs;obtain⟨ot,et,ct,_⟩:=id ht;unfold getItem
 try with_reducible refine ig ?_
 first|refine aa (ai ?_)|skip
 refine aa (wpAny_sequenceKey tt (by decide) (aa (fe (name:=jz "__getitem__") tt gg (ff gg tt PySem.F.entry_tuple_getitem ?_ (PySem.F.args_tuple_getitem_2 _ _)))));refine aa (m:=slotArgs "__getitem__" 1 ⟨[.ref t,.ref sl],[]⟩) (ai (aa (zy ht (aa (qw hTs ?_)))));rw[if_pos (by decide)];refine aa (HT.sliceApplied_gen hs pl pu ?_);rw[h0,h1];show wpAny _ _ (if(((0:Nat):Int)==0&&(1:Int)==1&&(items.size - 0)==items.size)=true then _ else _) _ _ s;rw[if_pos (by simp)];unfold Builtin.Tuple.tupleIsExact;refine aa (aa (qw tt (ai ?_)));rw[if_pos (by decide)];refine aa (um (ai ⟨_,rfl,ai h⟩))
theorem z05:SlR X (λx lo hi H Q=>∃a xs,x=.ref a/\Bk X.K H a xs/\HT.sIx xs.length 0 lo=0/\HT.sIx xs.length xs.length hi=xs.length/\Q (.ref a) H):=by
 intro pins s σ H x v vl vu lo hi sl Q I rx hs pl pu ⟨a,xs,ex,hx,h0,h1,q⟩;subst ex;cases rx;obtain⟨its,r,ht,hz⟩:=I.tuple hx;have hlen:its.toArray.size=xs.length:=by rw[ax];exact r.length.symm
 exact⟨"tuple",_,gg.lookup,ht.typeIs,z04 ht hs pl pu (by rw[hlen];exact h0) (by rw[hlen];exact h1) ⟨.ref a,H,I,rfl,q⟩⟩
def yN (x:Dv) (lo hi:Option Int) (h:Hs):Rs Dv:=match x with
 | .ref j=>match getL h j with
  |some xs=>.ok (.ref h.length) (h++[.lst (pM xs lo hi)])
  |none=>.bad
 | .tup xs=>.ok (.tup (pM xs lo hi)) h
 |_=>.bad
theorem z06 {xs:Al}{lo hi:Option Int}(h0:HT.sIx xs.length 0 lo=0) (h1:HT.sIx xs.length xs.length hi=xs.length):pM xs lo hi=xs:=by unfold pM;rw[h0,h1];simp
def uZ (m:M Dv) (lo hi:MO):M Dv:=λρ h=>(m ρ h).bind λx h1=>(lo ρ h1).bind λl h2=>(hi ρ h2).bind λu h3=>yN x l u h3
theorem z07 {lo hi:Option bj}{ml mh:MO}(ho:aJ X G E o mo) (hl:xW X G E lo ml) (hh:xW X G E hi mh):aJ X G E (.Subscript o (.Slice lo hi none p2) pos) (uZ mo ml mh):=λhK=>
 Fo (UR (SlR.or (SlR.or VD UT) z05) (ho hK) (hl hK) (hh hK)) λσ H Q ⟨μ,ρ,h,rs,s,oo⟩=>fG rs s oo λμ1 x h1 vx H1 x1 Bm s1 r1 o1=>by
  refine⟨μ1,ρ,h1,Bm,s1,(o1.bind (R1:=λ_ _ _ a b=>b=a)).mono λl' H2 ⟨μ2,l,h2,x2,s2,el,o2⟩=>?_⟩;subst el;refine⟨μ2,ρ,h2,Bm.mono x2,s2,(o2.bind (R1:=λ_ _ _ a b=>b=a)).mono λu' H3 ⟨μ3,u,h3,x3,s3,eu,o3⟩=>?_⟩;subst eu;have r3:=Fp (x2.trans x3) _ _ r1
  cases x with
  |ref j=>
   dsimp only[yN]at o3
   cases q:getL h3 j with
   |none=>rw[q]at o3;exact o3.elim
   |some xs=>rw[q]at o3;obtain⟨vs,ea,ra⟩:=s3.ob j _ (dO q);obtain⟨_,rfl⟩:=r3;exact .inl (.inl ⟨_,vs,rfl,Fv ea,λp hp=>rE s3 (LJ ra _ _) hp o3⟩)
  |tup xs=>
   dsimp only[yN]at o3;obtain⟨a,vs,rfl,ea,ra⟩:=r3
   by_cases hw:HT.sIx xs.length 0 l'=0/\HT.sIx xs.length xs.length u'=xs.length
   ·refine .inr ⟨a,vs,rfl,Fi ea,by rw[ra.length];exact hw.1,by rw[ra.length];exact hw.2,o3 μ3 _ _ Fq s3 ?_⟩;rw[z06 hw.1 hw.2];exact⟨a,vs,rfl,ea,ra⟩
   ·exact .inl (.inr ⟨a,vs,rfl,Fi ea,by rw[ra.length];exact hw,λp hp=>o3 μ3 _ _ (Fg (dH hp)) (s3.same (dH hp)) ⟨p,_,rfl,dF,Ff (Fg (dH hp)) _ _ (LJ ra _ _)⟩⟩)
  |_=>exact o3.elim
def hV (x y:Dv) (h:Hs):Rs Dv:=match x,y with
 | .int i,.int j=>.ok (.bl (decide (i<j))) h
 | .tup xs,.tup ys=>match bF iN xs,bF iN ys with
  |some ns,some ms=>.ok (.bl (HT.lexLt ns ms)) h
  |_,_=>.bad
 |_,_=>.bad
theorem NQ:∀x y:Ah,HT.lexLt x y=dG x y
 | [],[]=>rfl
 | [],_::_=>rfl
 |_::_,[]=>rfl
 |a::x,b::y=>by
  rw[HT.lexLt_cons,dG,NQ x y]
  by_cases h:a=b <;> simp[h]
theorem NR:fO G (λx y H Q=>(kE λi j=>.bl (decide (i<j))) x y H Q∨HV G.K x y H Q) hV:=by
 intro E μ h H x y vx vy Q s rx ry o;unfold hV at o
 split at o
 ·rename_i i j;exact .inl (lA E μ h H (.int i) (.int j) vx vy Q s rx ry o)
 ·rename_i xs ys
  cases q1:bF iN xs with
  |none=>rw[q1]at o;exact o.elim
  |some ns=>
   cases q2:bF iN ys with
   |none=>rw[q1,q2]at o;exact o.elim
   |some ms=>rw[q1,q2]at o;obtain⟨a,us,rfl,ea,ra⟩:=rx;obtain⟨b,ws,rfl,eb,rb⟩:=ry;exact .inr ⟨a,b,ns,ms,rfl,rfl,Fi (by rw[ea,rR ra q1]),Fi (by rw[eb,rR rb q2]),o.val s rfl⟩
 ·exact o.elim
theorem NS (g:Good X G E k) (ha:aJ X G E a ma) (hb:aJ X G E b mb):aJ X G E (.Compare a [.Lt] [b] pos) (m2 hV ma mb):=λhK=>nW (Bp.or AV (HW (by have:=g.room.un;omega))) (by rw[hK];exact NR) ha hb (iQ _) hK
theorem NT (g:Good X G E k) (ha:aJ X G E a ma) (hb:aJ X G E b mb):fF X G E (.Compare a [.Lt] [b] pos) (mB (m2 hV ma mb)):=λhK=>mD (Bp.or AV (HW (by have:=g.room.un;omega))) (by rw[hK];exact NR) ha hb (iQ _) hK
def bS (j:Int):Ah:=(bp j.toNat).map λk:Nat=>(k:Int)
theorem z08:Bc X (.type "range") (λxs H Q=>∃j:Int,xs=[.int j]/\∀l,H l=none->Q (.ref l) (aU H l (.rng 0 j))):=by intro pins s σ H xs us Q I rv ⟨j,e,q⟩;subst e;obtain⟨u,rfl,ru⟩:=jD rv;obtain⟨t,rfl⟩:=ru;refine call_range_1 ⟨.ref s.heap.objs.size,_,I.laid (t':=s.toks+1+1) (o:=.rng 0 j) (λb ob q=>ak _ q) (aj _) ⟨_,_,_,bf _ rfl⟩,rfl,q _ (I.hok.fresh (aj _))⟩
theorem z09 (rm:Bo k X.A):Bc X (.type "list") (λxs H Q=>∃(l:ah) (j:Int),xs=[.ref l]/\H l=some (.rng 0 j)/\0<=j/\j<=1000/\∀D,H D=none->Q (.ref D) (aU H D (.lst ((bS j).map Fm)))):=by
 intro pins s σ H xs us Q I rv ⟨l,j,e,hl,h0,h1,q⟩;subst e;obtain⟨u,rfl,ru⟩:=jD rv;cases ru;obtain⟨t,u,v,hr⟩:=I.hok l _ hl;refine call_list_range (n:=j.toNat) (a:=0) (b:=j) (c:=1) rm.hd hr (small_one (by omega) (by omega) (by omega) (by omega)) ?_ (by omega) λh' tk acc c ke ho ia=>?_
 ·rw[rangeSize_one]
  split <;> omega
 ·have hv:Az ((bS j).map Fm) acc.toList:=by
   have:∀(n:Nat) (as:List af),as.length=n->(∀(i:Nat) (v:af),as[i]?=some v->∃t,v=Value.int (0+(i:Int)*1) t)->Az (((bp n).map λk:Nat=>(k:Int)).map Fm) as:=λn=>by
    induction n with
    |zero=>intro as hl _;rw[sv.mp hl];exact .nil
    |succ n ih=>
     intro as hl hi;have hne:as≠[]:=λz=>by rw[z]at hl;cases hl
     have e:=pq hne;rw[<-e,List.range_succ,lg,lg];have hlast:as[n]?=some (as.getLast hne):=by
      rw[List.getLast_eq_getElem,aw (by omega)]
      congr 2;omega
     obtain⟨t,ht⟩:=hi n _ hlast;refine Az.append (ih as.dropLast (by simp[hl]) λi v hv=>hi i v ?_) ?_
     ·rw[List.getElem?_dropLast]at hv
      split at hv
      ·exact hv
      ·cases hv
     ·refine .cons ?_ .nil;show RelV (.int (n:Int)) _;rw[ht];exact⟨t,by simp⟩
   refine this j.toNat acc.toList (by simpa using ia.1) λi v hv=>?_;exact ia.2 i v (by simpa using hv)
  refine⟨.ref s.heap.objs.size,_,I.laid (t':=tk) ke (aj _) (show Bb X.prog X.w _ _ _ (.lst ((bS j).map Fm)) from⟨?_,acc.toList,c,hv, ?_⟩),rfl,q _ (I.hok.fresh (aj _))⟩
  ·rw[bc,bS,bc,ly,kd];omega
  ·rw[ho]
def rW:Dv->Hs->Rs Dv
 | .int j,h=>if(decide (0<=j)&&decide (j<=1000))=true then .ok (.ref h.length) (h++[.lst ((bS j).map Fc)])else .bad
 |_,_=>.bad
theorem z0a (g:Good X G E k) (hg:Gl X "list") (hm:X.mg "list" = none) (hg2:Gl X "range") (hm2:X.mg "range" = none) (ha:eF X G E [e] aR)
  (he:ar [e] X.env=[(false,eval e X.env)]:=by rfl) (Ds:ar [Expr.Call (.Name "range" p2) [e] [] C'] X.env=[(false,eval (.Call (.Name "range" p2) [e] [] C') X.env)]:=by rfl):
  aJ X G E (.Call (.Name "list" p) [.Call (.Name "range" p2) [e] [] C'] [] pos) (aF (f1 rW) aR):=λhK=>
 Fo (wO (z09 g.room) hg hm xD (iI (wO z08 hg2 hm2 boot_range (ha hK) (by decide) (by decide) he rfl) jM Ds) (by decide) (by decide) Ds rfl) λσ H Q ⟨μ,ρ,h,rs,s,o⟩=>by
  refine kY rs s o λμ1 ds h1 vs H1 x1 Bm s1 r1 o1=>?_;unfold f1 at o1
  split at o1
  ·rename_i d;obtain⟨v,rfl,rv⟩:=tR r1
   cases d with
   |int j=>
    dsimp only[rW]at o1
    split at o1
    ·rename_i h0;rw[da]at h0;have j0:0<=j:=by simpa using h0.1
     have j1:j<=1000:=by simpa using h0.2
     rw[Ax]at rv;subst rv;refine⟨j,rfl,λl hl=>?_⟩;have sm:=dH (o:=.rng 0 j) hl;refine⟨l,j,rfl,dF,j0,j1,λD hD=>?_⟩;exact rE (E:=E) (s1.same sm) (tQ _) hD (λμ' H' v x'=>o1 μ' H' v ((Fg sm).trans x'))
    ·exact o1.elim
   |_=>exact o1.elim
  ·exact o1.elim
end
section
variable{mo me:M Dv}{ml mh:MO}
end
section
variable{X:Cx}{G:Cfg}{E:XK}{k:Nat}{e a b o:bj}{es:List bj}{mo me ma mb:M Dv}{aR:M Al }{p p2 pos C' apos cpos np:Pos}{y:Str}
theorem sub_tuple:isSubtype (.type "tuple") (.type "set")=pure false/\isSubtype (.type "tuple") (.type "frozenset")=pure false:=by constructor <;> (rw[isSubtype_type];kernel_rfl)
abbrev NU (X:Cx):Ge->Hp->VK->Prop:=λxs H Q=>∃(p:ah) (vs:Ge) (ks:Ag),xs=[.ref p]/\H p=some (.tup vs)/\Bi H vs ks/\(eO dG ks).length<=76/\∀l o kb,H l=none->yK X.prog X.w l o kb->KbOk H kb ks->Q (.ref l) (aU H l (.frz o (.own 0)))
theorem z0b (rm:Bo k X.A):Bc X (.type "set") (NU X):=by
 intro pins s σ H xs us Q I rv ⟨p,vs,ks,e,hp,ht,hU,q⟩;subst e;obtain⟨u,rfl,ru⟩:=jD rv;cases ru;obtain⟨its,rits,pl,hz⟩:=I.tuple (Fi hp);have hits:=NM ht rits;have lp:=I.hok.lt hp;have hI:s.heap.IsTuple p (bZ ks.length (fY vs)).toArray:=by rw[<-hits];exact pl
 have Cd:(bZ ks.length (fY vs)).toArray.size=ks.length:=by rw[ax,lS]
 have hne:p≠s.heap.objs.size+1:=bg (jk lp);have hb:(s.heap.push (bare X.w)).IsTuple p (bZ ks.length (fY vs)).toArray:=IsTup.push (items:=(bZ ks.length (fY vs)).toArray) hI _;have hs1:(s.heap.push (bare X.w)).objs.size=s.heap.objs.size+1:=size_push' _ _;have W:=Walks.tuple (prog:=X.prog) (w:=X.w) (A:=X.A.in1.in1.in1) (show X.A.in1.in1.in1.handled=none from rm.hd) (s.heap.objs.size+1) p hne (bZ ks.length (fY vs)).toArray;rw[Cd]at W;refine NK (T := "tuple") (it:={ cls:=.type "tuple_iterator",data:=.fields #[.ref p,.int 0 0] }) (fY vs) (λi=>ks.getD i []) (eO dG ks) (by have:=rm.un;omega) hI.typeIs sub_tuple.1 sub_tuple.2 (by decide) (λB Q' E' hQ=>?_) W (λm=>?_) (λb hb=>?_) ⟨⟨{ cls:=.type "tuple_iterator",data:=.fields #[.ref p,.int 0 0] }, ?_,rfl,rfl⟩,IsTup.push (items:=(bZ ks.length (fY vs)).toArray) hb _⟩ (λi v hv=>?_) hU (λi hi=>?_) (λj hj=>DF I (ht.at_ hj).2) λh' tk kb hS Ek k=>?_
 ·refine oh hb ?_;rw[<-hs1]at hQ;exact hQ
 ·rcases ba.mp m with z|m
  ·exact tm _ z.symm
  ·exact jq lp (dj.mp m)
 ·rw[dj.mp hb];exact jt _
 ·rw[<-hs1];exact bf _ rfl
 ·have hi:i<ks.length:=by have:=(dm.mp hv).1;rwa [Cd]at this
  have:(bZ ks.length (fY vs))[i]?=some (.ref (fY vs i)):=by simp[bZ,hi]
  rw[zm,this]at hv;exact(cq hv).symm
 ·refine(oJ Cu _ _).mpr ?_;show ks.getD i []∈ks;simp[hi]
 ·obtain⟨o,es,ep,t,P⟩:=hS;refine⟨.ref s.heap.objs.size,_,I.laid (t':=tk) (o:=.frz o (.own 0)) k (aj _) ⟨P.obj,o,P.obj⟩,rfl,q _ o kb (I.hok.fresh (aj _)) ⟨es,ep,t,λh e=>P.at' e⟩ ⟨λz hz=>?_,λz hz=>?_,λz hz=>?_⟩⟩
  ·obtain⟨j,hj,rfl⟩:=Ek.from_ z hz;exact(ht.at_ hj).2
  ·obtain⟨j,hj,rfl⟩:=Ek.from_ z hz;show ks.getD j []∈ks;simp[hj]
  ·obtain⟨j,hj,rfl⟩:=kg hz;have:=Ek.all j hj;simpa[hj]using this
theorem z0c (rm:Bo k X.A):Bc X (.type "set") (λxs H Q=>NN X xs H Q∨NU X xs H Q):=by
 intro pins s σ H xs us Q I rv h
 rcases h with h|h
 ·exact z9 rm pins s σ H xs us Q I rv h
 ·exact z0b rm pins s σ H xs us Q I rv h
def qO (x:Dv) (h:Hs):Option Ag :=match x with
 | .ref i=>match getL h i with
  |some xs=>bF rV xs
  |none=>none
 | .tup xs=>bF rV xs
 |_=>none
def mS (x:Dv) (h:Hs):Rs Dv:=match qO x h with
 |some ks=>if(yM ks&&decide ((eO dG ks).length<64))=true then .ok (.ref h.length) (h++[.lst ((eO dG ks).map yL)])else .bad
 |none=>.bad
theorem NV (g:Good X G E k) (hg:Gl X "sorted") (hm:X.mg "sorted" = none) (hg2:Gl X "set") (hm2:X.mg "set" = none) (ha:eF X G E [e] aR)
  (he:ar [e] X.env=[(false,eval e X.env)]:=by rfl) (Ds:ar [Expr.Call (.Name "set" p2) [e] [] C'] X.env=[(false,eval (.Call (.Name "set" p2) [e] [] C') X.env)]:=by rfl):
  aJ X G E (.Call (.Name "sorted" p) [.Call (.Name "set" p2) [e] [] C'] [] pos) (aF (f1 mS) aR):=λhK=>
 Fo (tE (z01 g.room) hg hm Z0 (iI (wO (z0c g.room) hg2 hm2 z03 (ha hK) (by decide) (by decide) he rfl) jM Ds) (by decide) (by decide) Ds rfl) λσ H Q ⟨μ,ρ,h,rs,s,o⟩=>by
  refine kY rs s o λμ1 ds h1 vs H1 x1 Bm s1 r1 o1=>?_;unfold f1 at o1
  split at o1
  ·rename_i d;obtain⟨v,rfl,rv⟩:=tR r1;unfold mS at o1
   cases q:qO d h1 with
   |none=>rw[q]at o1;exact o1.elim
   |some ks=>
    rw[q]at o1;dsimp only at o1
    split at o1
    ·rename_i h0;rw[da]at h0;have h64:(eO dG ks).length<64:=by simpa using h0.2
     have fin:∀(l:ah) (o:Obj) (kb:KB),H1 l=none->yK X.prog X.w l o kb->KbOk H1 kb ks->NO X [.ref l] (aU H1 l (.frz o (.own 0))) Q:=λl o kb hl so ko=>by have sm:=dH (o:=.frz o (.own 0)) hl;refine⟨l,o,kb,ks,rfl,dF,so,⟨λp hp=>sm _ _ (ko.tup p hp),ko.frm,ko.all⟩,z02 h0.1,h64,λD Cf hD ht=>?_⟩;exact rE (E:=E) (s1.same sm) (NP ht) hD (λμ' H' v x'=>o1 μ' H' v ((Fg sm).trans x'))
     cases d with
     |ref i=>
      dsimp only[qO]at q
      cases q1:getL h1 i with
      |none=>rw[q1]at q;cases q
      |some xs=>rw[q1]at q;obtain⟨vs,e1,r2⟩:=s1.ob i _ (dO q1);obtain⟨_,rfl⟩:=rv;exact .inl ⟨_,vs,ks,rfl,e1,DG r2 q,by omega,fin⟩
     |tup xs=>obtain⟨a,vs,rfl,e1,r2⟩:=rv;exact .inr ⟨_,vs,ks,rfl,e1,DG r2 q,by omega,fin⟩
     |_=>cases q
    ·exact o1.elim
  ·exact o1.elim
end
theorem NW {α β:Type}{f g:α->Option β}:∀l:List α,(∀x∈l,f x=g x)->l.filterMap f=l.filterMap g
 | [],_=>rfl
 |x::l,h=>by rw[bw,bw,h x (by simp),NW l λy hy=>h y (by simp[hy])]
section
variable{X:Cx}{G:Cfg}{E:XK}{o:bj}{mo:M Dv}{ms:MO}{se:bj}{p2 pos:Pos}
end
end L2.Mr
namespace L2.Mr.Com
def DH:MS:=(aM (cP (m1 (bG qK) (aA 0)) (m1 qB (m1 (bG kP) (aA 0)))))
def F_q7:Ak:=aV 1 1 (DH)
def yO:MS:=(aM (cP (aF F_q7 (aB (aA 0) aC)) (jO fP fP (aA 1) (aA 0) (aA 2))))
def F_qr:Ak:=aV 3 3 (yO)
def NX:MS:=(aM (mL lI (bT (aR pK (aB (aA 0) (aB (uZ (aA 0) (uG (mC (.int 1))) uF) aC))) [none,none] (cH 2 (aY (aE 0) (aY (aE 1) cK))) eK (bM (m2 hV (aA 0) (aA 1))))))
def F_q2:Ak:=aV 1 1 (NX)
def DI:MS:=(aM (aF F_qr (aB (aA 1) (aB (mC (.int 0)) (aB (m2 eI (aA 0) (mC (.int 1))) aC)))))
def F_q6:Ak:=aV 2 2 (DI)
def yP:MS:=(aM (cP (m1 (bG gL) (aA 1)) (mL lI (bT (bK fI (aA 1)) [none,some 0] (aE 0) eK (bM (aF F_q6 (aB (aA 1) (aB (aA 0) aC))))))))
def F_qq:Ak:=aV 2 2 (yP)
def rX:MS:=(aM (cP (aF F_qq (aB (aA 0) (aB (aA 1) aC))) (m2 bD (aF (f1 cF) (aB (aA 1) aC)) (mC (.int 2)))))
def F_qA:Ak:=aV 2 2 (rX)
def DJ:MS:=(aM (mL lI (bT (bK fI (aA 1)) [none,some 0] (aE 0) eK (bM (aF F_qA (aB (aA 1) (aB (aA 0) aC)))))))
def F_q0:Ak:=aV 2 2 (DJ)
def NY:MS:=(aM (mL tY (bT (bK fI (aA 0)) [none,none] (cH 2 (aY (aE 0) (aY (aE 1) cK))) eK (bM (m2 bD (aA 0) (aA 1))))))
def F_q1:Ak:=aV 1 1 (NY)
def NZ:MS:=(aM (mL lI (bT (bK fI (aA 0)) [none,none,none,none,some 0] (cH 2 (aY (aE 0) (aY (aE 1) cK))) eK (nX (bK fI (aA 4)) (cH 2 (aY (aE 2) (aY (aE 3) cK))) (mB (m2 bD (aA 1) (aA 2))) (bM (m2 (bP false) (aK (aB (aA 0) (aB (aA 3) aC))) (aA 4)))))))
def F_qj:Ak:=aV 1 1 (NZ)
def qP:MS:=(aH (aW (cO (cD (bN (m1 (bG gL) (aA 0)))) (mB (m2 cJ (aF (f1 cF) (aB (aA 0) aC)) (mC (.int 2))))) (aM (mC (.bl false))) bE) (aH (aL (aA 0) (cH 2 (aY (aE 1) (aY (aE 2) cK)))) (aH (aW (cO (cD (bN (aF F_qr (aB (aA 1) (aB (mC (.int 1)) (aB (mC (.int 6)) aC)))))) (cD (bN (m1 (bG gL) (aA 2))))) (aM (mC (.bl false))) bE) (aH (aW (cO (cD (bN (aF F_q0 (aB (aA 1) (aB (aA 2) aC))))) (cD (bN (aF F_q2 (aB (aA 2) aC))))) (aM (mC (.bl false))) bE) (aM (cP (m1 qB (aF F_q1 (aB (aA 2) aC))) (aF F_qj (aB (aA 2) aC))))))))
def F_q5:Ak:=aV 1 3 (qP)
def yQ (scr:Ah):MS:=(aH (aW (mB (m2 hV (aA 1) (aF (f1 (iL scr)) (aB (aA 0) aC)))) (aM (m2 (gR scr) (aA 0) (aA 1))) bE) (aM (mC (.int 0))))
def F_qe (scr:Ah):Ak:=aV 2 2 (yQ scr)
def yR (scr:Ah):MS:=(aH (aL (aF (F_qe scr) (aB (aA 0) (aB (aA 1) aC))) (aE 2)) (aH (aW (mB (m2 qJ (aA 2) (m2 uH (mC (.int 10)) (mC (.int 18))))) (aM (aS (aB (m2 eI (aA 2) (m2 uH (mC (.int 10)) (mC (.int 18)))) (aB (mC (.bl true)) aC)))) bE) (aM (aS (aB (m2 mP (aA 2) (mC (.int 2147483647))) (aB (mC (.bl false)) aC))))))
def F_qn (scr:Ah):Ak:=aV 2 3 (yR scr)
def DK:MS:=(aH (aW (bN (m2 aN (aA 0) (mC (.int 1)))) (aH (aL (m2 mP (m2 aN (aA 0) (mC (.int 0))) (aA 1)) (aE 2)) (aH (uA (aA 0) (mC (.int 0)) (m2 uM (m2 aN (aA 0) (mC (.int 0))) (aA 1))) (aM (aA 2)))) bE) (aH (uA (aA 0) (mC (.int 0)) (m2 mP (m2 bO (m2 qI (m2 aN (aA 0) (mC (.int 0))) (mC (.int 48271))) (mC (.int 29))) (mC (.int 2147483647)))) (aH (aL (m2 mP (m2 bO (m2 bO (m2 qI (m2 aN (aA 0) (mC (.int 0))) (m2 aN (aA 0) (mC (.int 0)))) (m2 qI (mC (.int 39373)) (m2 aN (aA 0) (mC (.int 0))))) (mC (.int 7))) (mC (.int 2147483629))) (aE 3)) (aH (aL (m2 mP (m2 bO (m2 qI (aA 3) (aA 3)) (m2 qI (mC (.int 16807)) (aA 3))) (mC (.int 2147483587))) (aE 3)) (aM (m2 mP (m2 uM (aA 3) (mC (.int 8))) (aA 1)))))))
def F_qy:Ak:=aV 2 4 (DK)
def DL:MS:=(aH (aL (aF (f1 lO) (aB (aA 1) aC)) (aE 2)) (aH (aL (aS aC) (aE 3)) (aH (iV (mB (m2 cJ (aA 2) (aS aC))) (cX (gX (aA 3) (uE (aA 2) (aF F_qy (aB (aA 0) (aB (aF (f1 cF) (aB (aA 2) aC)) aC)))))) 40) (aM (aA 3)))))
def F_qc:Ak:=aV 2 4 (DL)
def jI:MS:=(aH (aL (aF (f1 mS) (aB (aA 0) aC)) (aE 1)) (iV (bN (mC (.bl true))) (aH (aL (aF (f1 lO) (aB (aA 1) aC)) (aE 2)) (aH (cU (bK cB (aA 1)) (cH 2 (aY (aE 3) (aY (aE 4) cK))) (cX (qH (aA 2) (bT (bK cB (aA 1)) [none,none,some 3,some 4] (cH 2 (aY (aE 0) (aY (aE 1) cK))) (mB (m2 bD (aA 3) (aA 0))) (bM (aK (aB (aA 2) (aB (aA 1) aC)))))))) (aH (aL (aF (f1 mS) (aB (aA 2) aC)) (aE 2)) (aH (aW (mB (m2 bD (aA 2) (aA 1))) (aM (aA 1)) bE) (aL (aA 2) (aE 1)))))) 40))
def F_qh:Ak:=aV 1 5 (jI)
def jJ:MS:=(aH (aL (m2 eI (aA 1) (m2 aN (aS (aB (mC (.int 0)) (aB (mC (.int 0)) (aB (mC (.int 1)) (aB (mC (.int 2)) (aB (mC (.int 0)) (aB (mC (.int 3)) (aB (mC (.int 1)) (aB (mC (.int 4)) aC))))))))) (aF F_qy (aB (aA 0) (aB (mC (.int 8)) aC))))) (aE 2)) (aH (aL (aF iD (aB (mC (.int 1)) (aB (aA 2) aC))) (aE 2)) (aH (aL (aF F_qc (aB (aA 0) (aB (aF (f1 rW) (aB (aA 2) aC)) aC))) (aE 3)) (aH (aL (aF F_qy (aB (aA 0) (aB (mC (.int 5)) aC))) (aE 4)) (aH (aL (aS aC) (aE 5)) (aH (aL (bU (bT (bK cB (aA 3)) [none,some 0] (aE 0) eK (bM (aF F_qy (aB (aA 1) (aB (mC (.int 3)) aC)))))) (aE 6)) (aH (cU (aR cQ (aB (aA 2) aC)) (aE 7) (cU (aR jG (aB (m2 bO (aA 7) (mC (.int 1))) (aB (aA 2) aC))) (aE 8) (aH (aL (aS (aB (m2 bD (aF F_qy (aB (aA 0) (aB (mC (.int 6)) aC))) (mC (.int 0))) (aB (m2 bD (aF F_qy (aB (aA 0) (aB (mC (.int 2)) aC))) (mC (.int 0))) (aB (m2 kM (aF F_qy (aB (aA 0) (aB (mC (.int 4)) aC))) (mC (.int 0))) aC)))) (aE 9)) (aH (aL (m2 bO (aA 9) (aS (aB (m2 hV (m2 aN (aA 6) (aA 7)) (m2 aN (aA 6) (aA 8))) (aB (m2 bD (m2 aN (aA 6) (aA 7)) (m2 aN (aA 6) (aA 8))) aC)))) (aE 9)) (aW (bN (m2 aN (aA 9) (aA 4))) (cX (gX (aA 5) (aK (aB (m2 aN (aA 3) (aA 7)) (aB (m2 aN (aA 3) (aA 8)) aC))))) bE))))) (aH (aW (mB (m2 bD (aA 4) (mC (.int 3)))) (aH (aL (aS aC) (aE 5)) (cU (aR cQ (aB (aA 2) aC)) (aE 7) (aL (m2 bO (aA 5) (bU (bT (aR cQ (aB (aA 2) aC)) [none,some 7,some 6] (aE 0) (mB (m2 hV (m2 aN (aA 2) (aA 1)) (m2 aN (aA 2) (aA 0)))) (bM (aK (aB (aA 1) (aB (aA 0) aC))))))) (aE 5)))) bE) (aM (aK (aB (aA 2) (aB (aF (f1 iT) (aB (aF F_qh (aB (aA 5) aC)) aC)) aC))))))))))))
def F_ql:Ak:=aV 2 10 (jJ)
def jK:MS:=(aH (aL (aS (aB (mC .non) (aB (mC (.int 0)) (aB (aK aC) (aB (aK (aB (mC (.int 0)) (aB (aK aC) aC))) (aB (aK (aB (mC (.int 7)) (aB (aK aC) aC))) (aB (aK (aB (mC (.bl true)) (aB (aK aC) aC))) (aB (aK (aB (mC (.int 2)) (aB (aS aC) aC))) (aB (aS (aB (mC (.int 2)) (aB (aK aC) aC))) (aB (aK (aB (mC (.int 2)) (aB (aK (aB (aK (aB (mC (.int 0)) (aB (mC (.int 1)) aC))) (aB (aK (aB (mC (.int 0)) (aB (mC (.int 1)) aC))) aC))) aC))) (aB (aK (aB (mC (.int 2)) (aB (aK (aB (aK (aB (mC (.int 1)) (aB (mC (.int 0)) aC))) (aB (aK (aB (mC (.int 0)) (aB (mC (.int 1)) aC))) aC))) aC))) aC))))))))))) (aE 1)) (aH (aL (m2 bO (aA 1) (aS (aB (aK (aB (mC (.int 3)) (aB (aK (aB (aK (aB (mC (.int 0)) (aB (mC (.int 1)) aC))) (aB (aK (aB (mC (.int 1)) (aB (mC (.int 2)) aC))) aC))) aC))) (aB (aK (aB (mC (.int 2)) (aB (aK (aB (aK (aB (mC (.int 0)) (aB (mC (.int 0)) aC))) aC)) aC))) (aB (aK (aB (mC (.int 2)) (aB (aK (aB (aK (aB (mC (.int 0)) (aB (mC (.int 2)) aC))) aC)) aC))) (aB (aK (aB (mC (.int 2)) (aB (aK (aB (aK (aB (mC (.int 0)) (aB (mC (.bl true)) aC))) aC)) aC))) (aB (aK (aB (mC (.int 2)) (aB (aK (aB (aK (aB (mC (.int 0)) (aB (mC (.int 1)) (aB (mC (.int 1)) aC)))) aC)) aC))) (aB (mC .edc) aC)))))))) (aE 1)) (aH (aL (m2 bO (aA 1) (aS (aB (mC (.str "2:")) (aB (aK (aB (mC (.int 2)) (aB (aK (aB (mC (.int 0)) (aB (mC (.int 1)) aC))) aC))) (aB (aK (aB (mC (.int 3)) (aB (aK (aB (aK (aB (mC (.int 0)) (aB (mC (.int 2)) aC))) (aB (aK (aB (mC (.int 0)) (aB (mC (.int 1)) aC))) aC))) aC))) (aB (aK (aB (mC (.int 2)) (aB (mC .non) aC))) (aB (aK (aB (mC (.int 2)) (aB (aK aC) (aB (aK aC) aC)))) (aB (aK (aB (mC (.int 2)) aC)) (aB (aK (aB (mC (.int 2)) (aB (aK (aB (aS (aB (mC (.int 0)) (aB (mC (.int 1)) aC))) aC)) aC))) (aB (aK (aB (mC (.int 2)) (aB (aK (aB (mC .non) aC)) aC))) aC)))))))))) (aE 1)) (aM (m2 aN (aA 1) (aF F_qy (aB (aA 0) (aB (mC (.int 24)) aC))))))))
def F_qb:Ak:=aV 1 2 (jK)
def gN (Fs:Ak):MS:=(aH (aW (bN (m1 (bG qL) (aA 1))) (aH (aW (cO (mB (m2 cJ (m1 (bG gL) (aA 0)) (m1 (bG gL) (aA 1)))) (mB (m2 cJ (m1 (bG uJ) (aA 0)) (m1 (bG uJ) (aA 1))))) (aM (mC (.bl false))) bE) (aH (aW (mB (m2 cJ (aF (f1 cF) (aB (aA 0) aC)) (aF (f1 cF) (aB (aA 1) aC)))) (aM (mC (.bl false))) bE) (aM (mL lI (bT (aR pK (aB (aA 0) (aB (aA 1) aC))) [none,none] (cH 2 (aY (aE 0) (aY (aE 1) cK))) eK (bM (aF Fs (aB (aA 0) (aB (aA 1) aC))))))))) bE) (aM (cP (m2 bD (aA 0) (aA 1)) (m2 bD (m1 (bG kP) (aA 0)) (m1 (bG kP) (aA 1))))))
def F_qw:Nat->Ak
 |0=>λ_ _=>.bad
 |n+1=>aV 2 2 (gN (F_qw n))
end L2.Mr.Com
namespace L2.Mr
section
variable{X:Cx}{G:Cfg}{E:XK}{pos:Pos}
end
def pS:M Dv:=λ_ _=>.bad
def yS (f:bj->M Dv):List bj->M Al 
 | []=>aC
 |e::es=>aB (f e) (yS f es)
def oM (lk:Str->Option Nat):Nat->bj->M Dv
 |0,_=>pS
 |n+1,e=>match e with
  | .Constant c _ _=>match c with
   | .int i=>mC (.int i)
   | .bool b=>mC (.bl b)
   | .none=>mC .non
   | .str x=>mC (.str x)
   |_=>pS
  | .Tuple es _ _=>aK (yS (oM lk n) es)
  | .List es _=>aS (yS (oM lk n) es)
  | .Dict [] [] _=>mC .edc
  | .Name x _=>match lk x with
   |some i=>aA i
   |none=>pS
  | .UnaryOp .USub a _=>m1 lJ (oM lk n a)
  |_=>pS
def N0 (e:bj):Prop:=∀es env,ar (e::es) env=(false,eval e env)::ar es env
section
variable{X:Cx}{G:Cfg}{E:XK}{lk:Str->Option Nat}
theorem yT {e:bj}:aJ X G E e pS:=λ_ pins s σ H Q _ ⟨_,_,_,_,_,o⟩=>o.elim
theorem z0d {e:bj}{es:List bj}{ms:M Al }:eF X G E (e::es) (aB pS ms):=λ_ pos pins s σ H Q _ ⟨_,_,_,_,_,o⟩=>o.elim
theorem DM {f:bj->M Dv}(hf:∀e,aJ X G E e (f e)/\(N0 e∨f e=pS)):∀es,eF X G E es (yS f es)
 | []=>aO
 |e::es=>by
  obtain⟨a,b|b⟩:=hf e
  ·exact aG a (DM hf es) (b es X.env)
  ·show eF X G E (e::es) (aB (f e) _);rw[b];exact z0d
theorem yU (hv:∀x i pos,lk x=some i->aJ X G E (.Name x pos) (aA i)):∀n e,aJ X G E e (oM lk n e)/\(N0 e∨oM lk n e=pS)
 |0,_=>⟨yT,.inr rfl⟩
 |n+1,e=>by
  unfold oM
  split
  ·split
   ·exact⟨bA,.inl λ_ _=>rfl⟩
   ·exact⟨gB,.inl λ_ _=>rfl⟩
   ·exact⟨lZ,.inl λ_ _=>rfl⟩
   ·exact⟨oX,.inl λ_ _=>rfl⟩
   ·exact⟨yT,.inr rfl⟩
  ·exact⟨gF (DM (yU hv n) _),.inl λ_ _=>rfl⟩
  ·exact⟨gC (DM (yU hv n) _),.inl λ_ _=>rfl⟩
  ·exact⟨YV,.inl λ_ _=>rfl⟩
  ·rename_i x pos
   split
   ·rename_i i q;exact⟨hv x i pos q,.inl λ_ _=>rfl⟩
   ·exact⟨yT,.inr rfl⟩
  ·exact⟨CI (yU hv n _).1,.inl λ_ _=>rfl⟩
  ·exact⟨yT,.inr rfl⟩
theorem pT (n:Nat) {e:bj}{m:M Dv}(h:oM (λ_=>none) n e=m:=by rfl):aJ X G E e m:=h▸(yU (λ_ _ _ h=>by cases h) n e).1
end
structure SW (X:Cx) (G:Cfg) (E:XK) (st:gw) (m:MS):Prop where
 ok:iU X G E st m
structure SWs (X:Cx) (G:Cfg) (E:XK) (st:List gw) (m:MS):Prop where
 ok:jQ X G E st m
section
variable{X:Cx}{G:Cfg}{E:XK}{st:gw}{rest:List gw}{m u:MS}{pos:Pos}
theorem DN (a:SW X G E st m) (b:SWs X G E rest u):SWs X G E (st::rest) (aH m u):=⟨bC a.ok b.ok⟩
theorem z0e (a:SW X G E st m):SWs X G E [st] m:=⟨bB a.ok⟩
theorem z0f (n:Nat) {i:Nat}{x:Str}{pos':Pos}{e:bj}{me:M Dv}(hN:X.N.Nodup) (hi:X.N[i]?=some x) (hx:lX X.env.scope x) (h:oM (λ_=>none) n e=me:=by rfl) (hs:swapsWith e (some (.Name x pos')) pos.line X.env=pure false:=by rfl) (hf:X.fn x=true∨X.env.scope.names.lookup x=some .local:=by first|exact .inl rfl|exact .inr rfl|assumption):
  SW X G E (.Assign [.Name x pos'] e pos) (aL me (aE i)):=⟨BN hN hi hx (pT n h) hs hf⟩
theorem N1 (n:Nat) {i:Nat}{x:Str}{pos' p2 p3:Pos}{e:bj}{me:M Dv}(hN:X.N.Nodup) (hi:X.N[i]?=some x) (hx:lX X.env.scope x) (hv:aJ X G E (.Name x p2) (aA i)) (h:oM (λ_=>none) n e=me:=by rfl) (hs:swapsWith (.BinOp (.Name x p2) .Add e p3) (some (.Name x pos')) pos.line X.env=pure false:=by rfl) (hf:X.fn x=true∨X.env.scope.names.lookup x=some .local:=by first|exact .inl rfl|exact .inr rfl|assumption):
  SW X G E (.Assign [.Name x pos'] (.BinOp (.Name x p2) .Add e p3) pos) (aL (m2 bO (aA i) me) (aE i)):=⟨BN hN hi hx (iE hv (pT n h)) hs hf⟩
end
section
variable{P:bh}{w:cm}{K:aq}{mg:Str->Option af}{base:cu}{G:Cfg}{N:Aj}{f:ah}{k:Nat}
theorem z0g {x qual:Str}{st:gw}{fd:bo}{ps:Aj}{mb:MS}(Fn:Bx K x qual st f fd) (S:Ay N ps (aX st)) (hK:K=G.K)
  (Br:∀(cdv:af) (A:bu) (outer:List Env) (s:ag) (H:Hp) (E₀ E:XK),Good (gJ (bR P w base) P w K mg base N qual (aX st) f cdv A outer s H E₀) G E k->SWs (gJ (bR P w base) P w K mg base N qual (aX st) f cdv A outer s H E₀) G E (jN st) mb):
  Bd P w K mg base (bR P w base) (k+1) f fd ps (cN G (aV ps.length N.length mb)):=dI Fn S hK λcdv A outer s H E₀ E g=>(Br cdv A outer s H E₀ E g).ok
end
open SR
section
variable{prog:bh}{w:cm}{A:bu}{E:af->ag->Prop}{s:ag}
end
section
variable{X:Cx}{G:Cfg}{E:XK}{k:Nat}{e:bj}{aR:M Al }{p p2 pos C':Pos}
end
section
variable{prog:bh}{w:cm}{A:bu}{E:af->ag->Prop}{s:ag}{z TI TO i j u v T:ah}{xs ys:List af}{st su:Nat->cu->Prop}{f1:Bool}
end
section
variable{X:Cx}{pins:List (ah×Obj)}{σ:St}{H:Hp}{s:ag}{B:bu}{z TI TO i j t u:ah}{vs ws:Ge}{n:Nat}
end
section
variable{X:Cx}{pins:List (ah×Obj)}{σ:St}{B:bu}{z TI TO i j t u S:ah}{vs ws:Ge}{H0:Hp}
end
section
variable{X:Cx}{G:Cfg}{E:XK}{a b:bj}{ta:TA}{ms:M Al }{p p2 pos C':Pos}
end
open PySem.SeqAt PySem.MeetsSeq PySem.MeetsSeq2 PySem.MeetsSeq3
section
variable{prog:bh}{w:cm}{A:bu}{Ee:af->ag->Prop}{s:ag}
end
section
variable{X:Cx}{G:Cfg}{E:XK}{k:Nat}{e:bj}{aR:M Al }{p p2 pos C':Pos}
end
section
variable{prog:bh}{w:cm}{A:bu}{I S:ah}{fp wr:List ah}{n:Nat}{P:Nat->af->Prop}{St:Nat->cu->Prop}{R:yb->ag->Prop}{ky:Nat->Int}{d:af}
end
section
variable{X:Cx}{G:Cfg}{E:XK}{e:bj}{ml:M Al }{p pos kpos:Pos}
end
section
variable{X:Cx}{G:Cfg}{E:XK}{o i o' i' e:bj}{me mo mi mo' mi':M Dv}{pos spos spos' tpos:Pos}{kt:Nat}
end
section
variable{X:Cx}{G:Cfg}{E:XK}{e:bj}{aR:M Al }{p pos:Pos}
end
theorem N2 {prog:bh}{w:cm}{it t:ah}{items:Array af}(hne:t≠it):Draws prog w it t items.toList (λi h=>h.IsListIter it t i/\h.IsList t items) where
 keep:=λi h h' ⟨⟨o,e,r⟩,⟨o2,e2,r2⟩⟩ k=>⟨⟨o,k _ _ (.inl rfl) e,r⟩,⟨o2,k _ _ (.inr rfl) e2,r2⟩⟩
 there:=λi h ⟨⟨o,e,_,d⟩,_⟩=>⟨o,_,e,d⟩
 item:=λA i x s Q E hx ⟨a,b⟩ k=>wpAny_nextOf_list_item a b (by simpa using hx) λh' a' sb=>k h' ⟨a',b.extBut sb.extBut hne⟩ sb
 done:=λA i s Q E hh hx ⟨a,b⟩ k=>wpAny_nextOf_list_end hh a b (by simpa using hx) k
section
variable{X:Cx}{G:Cfg}{E:XK}{a b:bj}{elts:List bj}{kk:Nat}{tp p pos:Pos}{ta:TA}{ms:M Al }
end
def DO (K:aq) (t u:ah):It:=
 ⟨λi H=>∃vs ws v w,Bk K H t vs/\Bs K H u ws/\vs[i]?=some v/\ws[i]?=some w,
  λi H x H'=>∃p v w,x=.ref p/\H p=none/\H'=aU H p (.tup [v,w])/\(∀vs,Bk K H t vs->vs[i]?=some v)/\∀ws,Bs K H u ws->ws[i]?=some w,
  λi H=>∃vs ws,Bk K H t vs/\Bs K H u ws/\(vs.length<=i∨ws.length<=i)⟩
structure ZipAtN (z TI TO i j t u:ah) (n:Nat) (h:cu):Prop where
 zp:xh h z TI TO .none
 ti:nc h TI (.ref i) (.ref j)
 to:∃a b,nc h TO a b
 i1:h.IsTupleIter i t n
 i2:h.IsListIter j u n
theorem z0h {P:bh}{w:cm}{K:aq}{elts:List bj}{kk:Nat}{tp:Pos}{z TI TO i j t u:ah}(F4:Ez z TI TO i j t u) (hti:t≠i) (huj:u≠j):
  Turn P w K (.Tuple elts kk tp) (DO K t u) [z,TI,TO,i,j] z (ZipAtN z TI TO i j t u) where
 mem:=by simp
 obj:=λn h st b hb=>by
  obtain⟨zp,ti,⟨a,b',to⟩,⟨o1,e1,_,d1⟩,⟨o2,e2,_,d2⟩⟩:=st;simp at hb
  rcases hb with rfl|rfl|rfl|rfl|rfl
  ·exact⟨_,zp,λv q=>by cases q⟩
  ·exact⟨_,ti,λv q=>by cases q⟩
  ·exact⟨_,to,λv q=>by cases q⟩
  ·exact⟨_,e1,λv q=>by rw[d1]at q;cases q⟩
  ·exact⟨_,e2,λv q=>by rw[d2]at q;cases q⟩
 keep:=λn h h' st k=>by obtain⟨zp,ti,⟨a,b',to⟩,⟨o1,e1,r1⟩,⟨o2,e2,r2⟩⟩:=st;exact⟨k _ (by simp) _ zp,k _ (by simp) _ ti,⟨a,b',k _ (by simp) _ to⟩,⟨o1,k _ (by simp) _ e1,r1⟩,⟨o2,k _ (by simp) _ e2,r2⟩⟩
 item:=by
  intro X hP hw hK hc n pins s σ H E I hf st hg;subst hP hw hK;obtain⟨vs,ws,v,w',hq,hr,hv,hw'⟩:=hg;obtain⟨its,rv,p1,z1⟩:=I.tuple hq;obtain⟨jts,rw',p2,z2⟩:=I.list hr;obtain⟨x,hx,rx⟩:=rv.get hv;obtain⟨y,hy,ry⟩:=rw'.get hw';obtain⟨zp,ti,⟨a,b,to⟩,i1,i2⟩:=st;have hT:s.TypeIs (.ref z) "zip" := ⟨_,zp,rfl⟩;unfold pyNext;refine aa (qe (fe (name:=jz "__next__") hT F.slot_zip_next (ff F.slot_zip_next hT F.entry_zip_next
   (KL F4 (rM (items:=its.toArray) hti) (N2 (items:=jts.toArray) huj) zp ti to ⟨i1,p1⟩ ⟨i2,p2.isList⟩ (by simpa using hx) (by simpa using hy) λh' T Cv a1 a2 a3 a4 a5 a6 bt=>ai ⟨_,rfl, ?_⟩) (F.args_zip_next_1 _))))
  refine zt a1 λh2 z2' sb=>?_;have kp:∀b o,b∉[z,TI,TO,i,j]->s.heap.get? b=some o->h2.get? b=some o:=λb o hb q=>by simp at hb;obtain⟨n1,n2,n3,n4,n5⟩:=hb;exact sb.extBut _ _ n1 (bt b o n1 n3 n4 n5 q)
  have Tz:T≠z:=jq (av (au zp) Cv);have T2:nc h2 T x y:=sb.extBut _ _ Tz a6;have th:∀b∈[z,TI,TO,i,j],∃o,h2.get? b=some o:=λb hb=>by
   obtain⟨⟨o1,e1,_⟩,_⟩:=a4;obtain⟨⟨o2,e2,_⟩,_⟩:=a5;simp at hb
   rcases hb with rfl|rfl|rfl|rfl|rfl
   ·exact⟨_,z2'⟩
   ·exact⟨_,sb.extBut _ _ F4.g a2⟩
   ·exact⟨_,sb.extBut _ _ (cx F4.a) a3⟩
   ·exact⟨_,sb.extBut _ _ (cx F4.b) e1⟩
   ·exact⟨_,sb.extBut _ _ (cx F4.c) e2⟩
  have I2:=Inv.turns (T:=T) (vs:=[v,w']) (its:=[x,y]) I hf kp th Cv (.cons rx (.cons ry .nil)) (by show 2<=ck;decide) ⟨_,T2,rfl,rfl,_,rfl⟩;have nT:H T=none:=I.hok.fresh Cv;refine⟨.ref T,_,I2,rfl,⟨T,v,w',rfl,nT,rfl,λCf h'=>by rw[I.tuple_inj h' hq];exact hv,λws' h'=>by rw[I.list_inj h' hr];exact hw'⟩, ?_,λb hb=>?_⟩
  ·exact⟨z2',sb.extBut _ _ F4.g a2,⟨_,_,sb.extBut _ _ (cx F4.a) a3⟩,a4.1.extBut sb.extBut (cx F4.b),a5.1.extBut sb.extBut (cx F4.c)⟩
  ·obtain⟨o,q,_⟩:∃o,s.heap.get? b=some o/\True:=by
    obtain⟨o1,e1,_⟩:=i1;obtain⟨o2,e2,_⟩:=i2;simp at hb
    rcases hb with rfl|rfl|rfl|rfl|rfl
    ·exact⟨_,zp,trivial⟩
    ·exact⟨_,ti,trivial⟩
    ·exact⟨_,to,trivial⟩
    ·exact⟨_,e1,trivial⟩
    ·exact⟨_,e2,trivial⟩
   rw[bV (bg (av (au q) Cv))];exact(hf b hb).1
 done:=by
  intro X hP hw hK hc n pins s σ H E I hf st hg;subst hP hw hK;obtain⟨vs,ws,hq,hr,hend⟩:=hg;obtain⟨its,rv,p1,z1⟩:=I.tuple hq;obtain⟨jts,rw',p2,z2⟩:=I.list hr;have l1:=rv.length;have l2:=rw'.length;obtain⟨zp,ti,⟨a,b,to⟩,i1,i2⟩:=st;have hT:s.TypeIs (.ref z) "zip" := ⟨_,zp,rfl⟩;unfold pyNext;refine aa (qe (fe (name:=jz "__next__") hT F.slot_zip_next (ff F.slot_zip_next hT F.entry_zip_next
   (KN (show X.A.in1.handled=none from I.ok.hd hc) F4 (rM (items:=its.toArray) hti) (N2 (items:=jts.toArray) huj) zp ti to ⟨i1,p1⟩ ⟨i2,p2.isList⟩ (by
    rcases hend with q|q
    ·exact .inl (by simp;omega)
    ·exact .inr (by simp;omega)) λh' e bt ⟨o,he,El⟩=>aa (ui (T := "StopIteration") (b:=true) ⟨o,he,El⟩ zj (ai ⟨rfl, ?_⟩))) (F.args_zip_next_1 _))))
  refine Inv.turns0 I hf λb o hb q=>?_;simp at hb;exact bt b o hb.1 hb.2.2.1 hb.2.2.2.1 hb.2.2.2.2 q
 self:=λ_ _ _ _ _ st h=>uj st.zp h
def N3 (t u:ah) (h:cu) (z:ah) (h':cu):Prop:=∃TI TO i j,ZipAtN z TI TO i j t u 0 h'/\Ez z TI TO i j t u/\(∀b∈[z,TI,TO,i,j],h.objs.size<=b)/\∀b o,h.get? b=some o->h'.get? b=some o
theorem z0i {t u:ah}{hp h1 h2 h3 h4 h5:cu}{n:Nat}(hn:n=hp.objs.size) (lt:t<n) (lu:u<n)
  (e1:h1=hp.push { cls:=.type "tuple_iterator",data:=.fields #[.ref t,.int 0 0] }) (e2:h2=h1.push { cls:=.type "list_iterator",data:=.fields #[.ref u,.int 0 0] }) (e3:h3=h2.push { cls:=.type "tuple",data:=.seq #[.ref n,.ref (n+1)] })
  (e4:h4=h3.push { cls:=.type "tuple",data:=.seq #[.none,.none] }) (e5:h5=h4.push { cls:=.type "zip",data:=.fields #[.none,.bool false,.bool false,.ref (n+2),.ref (n+3)] }):N3 t u hp (n+4) h5:=by
 have z1:h1.objs.size=n+1:=by rw[e1,cw,hn]
 have z2:h2.objs.size=n+2:=by rw[e2,cw,z1]
 have z3:h3.objs.size=n+3:=by rw[e3,cw,z2]
 have z4:h4.objs.size=n+4:=by rw[e4,cw,z3]
 have up:∀(h:cu) (o:Obj) (b:ah) (q:Obj),h.get? b=some q->(h.push o).get? b=some q:=λh o b q e=>ak _ e;have g1:=mK e1 rfl;have g2:=mK e2 rfl;have g3:=mK e3 rfl;have g4:=mK e4 rfl;have g5:=mK e5 rfl;rw[<-hn]at g1;rw[z1]at g2;rw[z2]at g3;rw[z3]at g4;rw[z4]at g5;have u2:∀b q,h2.get? b=some q->h5.get? b=some q:=λb q e=>by rw[e5,e4,e3];exact up _ _ _ _ (up _ _ _ _ (up _ _ _ _ e))
 have u1:∀b q,h1.get? b=some q->h5.get? b=some q:=λb q e=>u2 b q (by rw[e2];exact up _ _ _ _ e);have u3:∀b q,h3.get? b=some q->h5.get? b=some q:=λb q e=>by rw[e5,e4];exact up _ _ _ _ (up _ _ _ _ e)
 have u4:∀b q,h4.get? b=some q->h5.get? b=some q:=λb q e=>by rw[e5];exact up _ _ _ _ e
 refine⟨n+2,n+3,n,n+1,⟨g5,u3 _ _ g3,⟨_,_,u4 _ _ g4⟩,⟨_,u1 _ _ g1,rfl,rfl⟩,⟨_,u2 _ _ g2,rfl,rfl⟩⟩, ?_, ?_,λb q e=>u1 b q (by rw[e1];exact up _ _ _ _ e)⟩
 ·exact KQ n t u lt lu
 ·intro b hb;rw[<-hn];simp at hb
  rcases hb with rfl|rfl|rfl|rfl|rfl
  ·exact ju _ _
  ·exact ju _ _
  ·exact ju _ _
  ·exact aj _
  ·exact ju _ _
theorem z0j {t u:ah}(xs ys:Array af):Meets (mw.«zip.__new__» ⟨[.type "zip",.ref t,.ref u],[]⟩) (λ_ R s=>s.heap.IsTuple t xs/\s.heap.IsList u ys/\∀h' z,N3 t u s.heap z h'->R (.ok (.ret (.ref z))) { s with heap:=h' }):=
 .of_wp λprog w A R s h=>by
  obtain⟨ht,hu,k⟩:=h;obtain⟨hp,g,d,tk,os⟩:=s;have sub:=sub_zip;have ht':(⟨hp,g,d,tk,os⟩:ag).heap.IsTuple t xs:=ht;have Bl:(⟨hp.push { cls:=.type "tuple_iterator",data:=.fields #[.ref t,.int 0 0] },g,d,tk,os⟩:ag).heap.IsList u ys:=hu.push _
  wp_walk using oh ht',ka Bl
  have lt:t<hp.objs.size:=by obtain⟨o,e,_⟩:=ht;exact au e
  have lu:u<hp.objs.size:=by obtain⟨o,e,_⟩:=hu;exact au e
  simp only[cw];refine⟨_,rfl,k _ _ (z0i rfl lt lu rfl rfl rfl rfl ?_)⟩;simp only[cw];rfl
section
variable{X:Cx}{G:Cfg}{E:XK}{a b:bj}{elts:List bj}{kk:Nat}{tp p pos:Pos}{ta:TA}{ms:M Al }
def z0k (K:aq) (ta:TA):TI:=λσ H R=>ta σ H λvs H1=>∃t u xs ys,vs=[.ref t,.ref u]/\Bk K H1 t xs/\Bs K H1 u ys/\R (DO K t u) H1
theorem z0l (hg:Gl X "zip") (hm:X.mg "zip" = none) (ha:PA X [a,b] ta) (hs:ar [a,b] X.env=[(false,eval a X.env),(false,eval b X.env)]:=by rfl) (hs2:ar [b] X.env=[(false,eval b X.env)]:=by rfl):
  PI X (.Tuple elts kk tp) (.Call (.Name "zip" p) [a,b] [] pos) (z0k X.K ta):=by
 intro pins s σ H R I h;refine Call_ (qA I hg hm KR (je (aZ (ha pos pins s σ H _ I h) λus s1 ⟨vs,H1,I1,r1,q1⟩=>?_) (by rw[hs,hs2]) (by rw[hs2];rfl)));obtain⟨t,u,xs,ys,e,hq,hr,q⟩:=q1;subst e;obtain⟨u1,u2,rfl,e1,e2⟩:=rC r1;cases e1;cases e2;obtain⟨its,rv,p1,_⟩:=I1.tuple hq;obtain⟨jts,rw',p2,_⟩:=I1.list hr;refine callType_new F.called_zip (by decide) (F.typeCall_zip_2 _ _) (F.newCall_zip_2 _ _) (λobj=>F.args_object_init_3 obj _ _) F.entry_zip_new (z0j its.toArray jts.toArray) ⟨p1,p2.isList,λh' z nz=>?_⟩;obtain⟨TI,TO,i,j,za,f4,fresh,kp⟩:=nz;refine⟨⟨_,za.zp,rfl⟩, ?_⟩;have I2:Inv X pins σ H1 { s1 with heap:=h' }:=I1.kept (t':=s1.toks) kp;refine uj za.zp ⟨z,[z,TI,TO,i,j],_,_,H1,rfl,I2,z0h f4 f4.u3 f4.v4,za,λb hb=>I1.fpOk (fresh b hb) (I1.hok.fresh (fresh b hb)),q⟩
def mT (xs:Al) (j m:Nat) (h:Hs):Option (List (Dv×Dv)):=match getL h j with
 |some ys=>if ys.length=m then some (xs.zip ys)else none
 |_=>none
def oO (xs:Al) (j m:Nat):Src:=⟨min xs.length m,λk h=>match mT xs j m h with
 |some zs=>(zs[k]?).map λq=>.tup [q.1,q.2]
 |none=>none,λh=>(mT xs j m h).isSome⟩
def zipN:Al->Hs->Rs Src
 | [.tup xs,.ref j],h=>match getL h j with
  |some ys=>.ok (oO xs j ys.length) h
  |_=>.bad
 |_,_=>.bad
theorem N4 {xs:Al}{j m:Nat}{h:Hs}{zs:List (Dv×Dv)}(e:mT xs j m h=some zs):∃ys,getL h j=some ys/\ys.length=m/\zs=xs.zip ys:=by
 unfold mT at e
 split at e
 ·rename_i ys e1
  split at e
  ·rename_i hl;cases e;exact⟨ys,e1,hl,rfl⟩
  ·cases e
 ·cases e
theorem Cm.zipN {μ:Nat->ah}{nn:Nat}{H:Hp}{j m:Nat}{t:ah}{vs:Ge}{xs:Al}{K:aq}(hj:j<nn) (e:H t=some (.tup vs)) (r:RelDL G μ nn H xs vs):Cm G μ nn H (oO xs j m) (DO K t (μ j)):=by
 intro k μ2 h2 H2 x2 s2;have ej:=x2.mu j hj;have f:=x2.im t (.tup vs) trivial e;have g:=Ff x2 _ _ r;constructor
 ·intro hk d hd;have Cs:(match mT xs j m h2 with|some zs=>(zs[k]?).map λq=>Fw [q.1,q.2]|none=>none)=some d:=hd
  cases qz:mT xs j m h2 with
  |none=>rw[qz]at Cs;cases Cs
  |some zs=>
   rw[qz]at Cs;obtain⟨ys,g1,l1,rfl⟩:=N4 qz;obtain⟨ws,f',g'⟩:=s2.ob j _ (dO g1);rw[ej]at f'
   cases q:(xs.zip ys)[k]? with
   |none=>dsimp only at Cs;rw[q]at Cs;cases Cs
   |some xy=>
    dsimp only at Cs;rw[q]at Cs;cases Cs;obtain⟨qx,qy⟩:=jw.mp q;obtain⟨v,ev,rv⟩:=g.get qx;obtain⟨w',ew,rw'⟩:=g'.get qy;refine⟨⟨vs,ws,v,w',Fi f,Fv f',ev,ew⟩,λx H' hy=>?_⟩;obtain⟨pp,v1,w1,rfl,np,rfl,a1,a2⟩:=hy;have b1:=a1 vs (Fi f);have b2:=a2 ws (Fv f');rw[ev]at b1;rw[ew]at b2
    cases b1;cases b2
    have sm:Cj H2 (aU H2 pp (.tup [v,w'])):=dH np;exact⟨sm,pp,_,rfl,dF,Fj (Fp (Fg sm) _ _ rv) (Fj (Fp (Fg sm) _ _ rw') Fu)⟩
 ·intro hk hf;have hf':(mT xs j m h2).isSome=true:=hf
  cases qz:mT xs j m h2 with
  |none=>rw[qz]at hf';cases hf'
  |some zs=>obtain⟨ys,g1,l1,rfl⟩:=N4 qz;obtain⟨ws,f',g'⟩:=s2.ob j _ (dO g1);rw[ej]at f';refine⟨vs,ws,Fi f,Fv f', ?_⟩;have Dy:k=min xs.length m:=hk;rw[g.length,g'.length];omega
theorem z0m (hg:Gl X "zip") (hm:X.mg "zip" = none) (ha:eF X G E [a,b] ms) (hs:ar [a,b] X.env=[(false,eval a X.env),(false,eval b X.env)]:=by rfl) (hs2:ar [b] X.env=[(false,eval b X.env)]:=by rfl):
  lD X G E (.Tuple elts kk tp) (.Call (.Name "zip" p) [a,b] [] pos) (aR zipN ms):=λhK=>
 PI.imp (z0l hg hm (ha hK) hs hs2) λσ H R ⟨μ,ρ,h,rs,s,o⟩=>kY rs s o λμ1 ds h1 vs H1 x1 Bm s1 r1 o1=>by
  unfold zipN at o1
  split at o1
  ·rename_i xs j;obtain⟨v,v',rfl,rv,rv'⟩:=xE r1;obtain⟨t,us,rfl,e,r⟩:=rv;obtain⟨hj,rfl⟩:=rv'
   split at o1
   ·rename_i ys g1;obtain⟨ws,f,_⟩:=s1.ob j _ (dO g1);exact⟨t,_,us,ws,rfl,Fi e,Fv f,o1.val s1 (Cm.zipN hj e r)⟩
   ·exact o1.elim
  ·exact o1.elim
end
def DP:M Dv:=λ_ _=>.bad
theorem z0n {X:Cx}{G:Cfg}{E:XK}{e:bj}:aJ X G E e DP:=λ_ _ _ _ _ _ _ ⟨_,_,_,_,_,o⟩=>o.elim
end L2.Mr
namespace L2.Mr.K09
open L2.Mr.Com
def tblV:List (Nat×Bool):=[(0,true),(1,true)]
def tbl0:List (Nat×Bool):=[(0,true),(1,false)]
def tbl1:List (Nat×Bool):=[(0,false),(1,true)]
def tbl2:List (Nat×Bool):=[(0,false),(1,false)]
def tbl3:List (Nat×Bool):=[(0,false),(1,false)]
def tbl4:List (Nat×Bool):=[(0,false),(1,false)]
def tbl5:List (Nat×Bool):=[(0,false),(1,false)]
def tbl6:List (Nat×Bool):=[(0,false),(1,false)]
def tbl7:List (Nat×Bool):=[(0,false),(1,false)]
def tbl8:List (Nat×Bool):=[(0,false),(1,false)]
def tbl9:List (Nat×Bool):=[(0,false),(1,false)]
def tbl10:List (Nat×Bool):=[(0,false),(1,false)]
def DQ:MS:=(aW (cD (bN (aF F_qr (aB (aA 0) (aB (aA 1) (aB (aA 2) aC)))))) (xK 1 [1,2]) bE)
def F_qg:Ak:=aV 3 3 (DQ)
def qQ:MS:=(aW (cD (bN (aF F_q5 (aB (aA 0) aC)))) (tX 0 (aB (mC (.str "this is no order")) aC)) bE)
def F_qs:Ak:=aV 1 1 (qQ)
def mU:MS:=(aH (aL (m2 aN (aA 0) (mC (.int 1))) (aE 3)) (aM (cP (m2 cJ (aA 1) (aA 2)) (cP (m2 (bP true) (aK (aB (aA 1) (aB (aA 2) aC))) (aA 3)) (m2 (bP true) (aK (aB (aA 2) (aB (aA 1) aC))) (aA 3))))))
def F_qz:Ak:=aV 3 4 (mU)
def qR:MS:=(aH (aL (aA 0) (cH 2 (aY (aE 2) (aY (aE 3) cK)))) (aH (aL (bU (bT (bK fI (aA 3)) [none,none,some 1] (cH 2 (aY (aE 0) (aY (aE 1) cK))) (mB (m2 (bP true) (aA 0) (aA 2))) (bM (aA 1)))) (aE 4)) (aM (bU (bT (aR cQ (aB (aA 2) aC)) [none,some 1,some 4] (aE 0) (eC (mB (m2 (bP true) (aA 0) (aA 1))) (mB (m2 (bP true) (aA 0) (aA 2)))) (bM (aA 0)))))))
def F_q8:Ak:=aV 2 5 (qR)
def z0o:MS:=(aH (cX (aF F_qs (aB (aA 0) aC))) (cX (aF F_qg (aB (aA 1) (aB (mC (.int 0)) (aB (mC (.int 5)) aC))))))
def F_qa:Ak:=aV 2 2 (z0o)
def DR:MS:=(aH (aW (mB (m2 fP (aF (f1 cF) (aB (aA 2) aC)) (aA 1))) (aM (mC .non)) bE) (aH (aL (m2 aN (aA 2) (m2 eI (m1 lJ (mC (.int 1))) (aA 1))) (aE 3)) (aH (cU (aR cQ (aB (m2 aN (aA 0) (mC (.int 0))) aC)) (aE 4) (aW (eC (mB (m2 (bP true) (aA 4) (aA 2))) (bN (aF F_qz (aB (aA 0) (aB (aA 3) (aB (aA 4) aC)))))) (aM (aK (aB (mC (.str "far")) (aB (aA 3) (aB (aA 4) aC))))) bE)) (aM (mC .non)))))
def F_q9:Ak:=aV 3 5 (DR)
def mb_qt (Fs:Ak):MS:=(aH (aL (aF F_q9 (aB (aA 0) (aB (aA 1) (aB (aA 2) aC)))) (aE 3)) (aH (aW (cO (mB (m2 (fW true) (aA 3) (mC .non))) (mB (m2 bD (aF (f1 cF) (aB (aA 2) aC)) (m2 aN (aA 0) (mC (.int 0)))))) (aM (aA 3)) bE) (aH (aL (aS aC) (aE 4)) (aH (cU (bK cB (aF F_q8 (aB (aA 0) (aB (aA 2) aC)))) (aE 5) (aH (aL (aF Fs (aB (aA 0) (aB (aA 1) (aB (m2 bO (aA 2) (aK (aB (aA 5) aC))) aC)))) (aE 6)) (aH (aW (mB (m2 (fW false) (aA 6) (mC .non))) (aM (mC .non)) bE) (cX (gX (aA 4) (aA 6)))))) (aM (aK (aB (mC (.str "next")) (aB (aF (f1 iT) (aB (aA 4) aC)) aC))))))))
def F_qt:Nat->Ak
 |0=>λ_ _=>.bad
 |n+1=>aV 3 7 (mb_qt (F_qt n))
def z0p:MS:=(aH (cX (aF F_qa (aB (aA 0) (aB (aA 1) aC)))) (aM (aF (F_qt 8) (aB (aA 0) (aB (aA 1) (aB (aK aC) aC))))))
def F_q3:Ak:=aV 2 2 (z0p)
def vA:MS:=(aH (aL (aS (aB (aK aC) aC)) (aE 1)) (aH (cU (aR cQ (aB (m2 aN (aA 0) (mC (.int 0))) aC)) (aE 2) (aH (aL (aS aC) (aE 3)) (aH (cU (bK cB (aA 1)) (aE 4) (aL (m2 bO (aA 3) (bU (bT (aR cQ (aB (m2 aN (aA 0) (mC (.int 0))) aC)) [none,some 4] (aE 0) (mB (m2 (bP true) (aA 0) (aA 1))) (bM (m2 bO (aA 1) (aK (aB (aA 0) aC))))))) (aE 3))) (aL (aA 3) (aE 1))))) (aM (bU (bT (bK cB (aA 1)) [none,some 0] (aE 0) (mB (m2 bD (bU (bT (bK fI (m2 aN (aA 1) (mC (.int 1)))) [none,none,some 0] (cH 2 (aY (aE 0) (aY (aE 1) cK))) (mB (m2 kM (eY (aA 2) (aA 0)) (eY (aA 2) (aA 1)))) (bM (mC (.int 1))))) (aS aC))) (bM (aA 0)))))))
def F_qv:Ak:=aV 1 5 (vA)
def qS:MS:=(aH (aL (aS aC) (aE 1)) (aH (cU (aR cQ (aB (m2 aN (aA 0) (mC (.int 0))) aC)) (aE 2) (cU (aR jG (aB (m2 bO (aA 2) (mC (.int 1))) (aB (m2 aN (aA 0) (mC (.int 0))) aC))) (aE 3) (aW (eC (mB (m2 (bP true) (aK (aB (aA 2) (aB (aA 3) aC))) (m2 aN (aA 0) (mC (.int 1))))) (mB (m2 (bP true) (aK (aB (aA 3) (aB (aA 2) aC))) (m2 aN (aA 0) (mC (.int 1)))))) (cX (gX (aA 1) (aK (aB (aA 2) (aB (aA 3) aC))))) bE))) (aM (aA 1))))
def F_qk:Ak:=aV 1 4 (qS)
def vB:MS:=(aM (aF (f1 (jX gM)) (aB (m2 bO (aS (aB (mC (.int 0)) aC)) (bU (bT (bK cB (aF F_qk (aB (aA 0) aC))) [none,none,some 1] (cH 2 (aY (aE 0) (aY (aE 1) cK))) eK (bM (aF (f1 oY) (aB (m2 eI (eY (aA 2) (aA 0)) (eY (aA 2) (aA 1))) aC)))))) aC)))
def F_qx:Ak:=aV 2 2 (vB)
def z0q:MS:=(aM (cP (m1 (bG qK) (aA 0)) (m1 qB (m1 (bG kP) (aA 0)))))
def F_qp:Ak:=aV 1 1 (z0q)
def z0r:MS:=(aH (aL (bU (bT (aR cQ (aB (m2 aN (aA 0) (mC (.int 0))) aC)) [none,some 1] (aE 0) (mB (m2 (bP true) (aA 0) (aA 1))) (bM (aA 0)))) (aE 2)) (aM (bU (bT (bK cB (aA 2)) [none,some 0,some 1] (aE 0) (mB (m2 bD (bU (bT (bK fI (m2 aN (aA 1) (mC (.int 1)))) [none,none,some 0,some 2] (cH 2 (aY (aE 0) (aY (aE 1) cK))) (eC (mB (m2 bD (aA 1) (aA 2))) (mB (m2 (bP true) (aA 0) (aA 3)))) (bM (aA 0)))) (aS aC))) (bM (aA 0))))))
def F_qd:Ak:=aV 2 3 (z0r)
def z0s:MS:=(aM (m2 (bP false) (aK (aB (aF mH (aB (aA 1) (aB (aA 2) aC))) (aB (aF iD (aB (aA 1) (aB (aA 2) aC))) aC))) (aF F_qk (aB (aA 0) aC))))
def F_qu:Ak:=aV 3 3 (z0s)
def z0t:MS:=(aH (aW (cO (cD (bN (aF F_qp (aB (aA 2) aC)))) (cO (cD (bN (aF F_qp (aB (aA 3) aC)))) (cO (mB (m2 (bP true) (aA 2) (aA 4))) (cO (mB (m2 (bP false) (aA 3) (aA 4))) (cD (mB (jO fP rP (mC (.int 0)) (aA 3) (m2 aN (aA 0) (mC (.int 0)))))))))) (aM (mC (.bl false))) bE) (aM (cP (aF F_qu (aB (aA 0) (aB (aA 2) (aB (aA 3) aC)))) (m2 qJ (m2 eI (m2 eI (aF (f1 cF) (aB (aA 4) aC)) (mC (.int 1))) (eY (aA 4) (aA 2))) (aA 1)))))
def F_q4:Ak:=aV 5 5 (z0t)
def yV (Fs:Ak):MS:=(aH (aW (cO (cD (bN (m1 (bG gL) (aA 2)))) (cO (mB (m2 bD (aA 2) (aK aC))) (cD (bN (m1 (bG uK) (m2 aN (aA 2) (mC (.int 0)))))))) (aM (mC (.bl false))) bE) (aH (aW (mB (m2 bD (m2 aN (aA 2) (mC (.int 0))) (mC (.str "spread")))) (aM (cP (m2 bD (aF (f1 cF) (aB (aA 2) aC)) (mC (.int 3))) DP)) bE) (aH (aW (mB (m2 bD (m2 aN (aA 2) (mC (.int 0))) (mC (.str "far")))) (aM (cP (m2 bD (aF (f1 cF) (aB (aA 2) aC)) (mC (.int 3))) (aF F_q4 (aB (aA 0) (aB (aA 1) (aB (m2 aN (aA 2) (mC (.int 1))) (aB (m2 aN (aA 2) (mC (.int 2))) (aB (aA 3) aC)))))))) bE) (aH (aL (aF F_qd (aB (aA 0) (aB (aA 3) aC))) (aE 4)) (aH (aW (cO (mB (m2 cJ (m2 aN (aA 2) (mC (.int 0))) (mC (.str "next")))) (cO (mB (m2 cJ (aF (f1 cF) (aB (aA 2) aC)) (mC (.int 2)))) (cD (bN (m1 (bG gL) (m2 aN (aA 2) (mC (.int 1)))))))) (aM (mC (.bl false))) bE) (aH (aW (cO (mB (m2 bD (aA 4) (aS aC))) (mB (m2 cJ (aF (f1 cF) (aB (aA 4) aC)) (aF (f1 cF) (aB (m2 aN (aA 2) (mC (.int 1))) aC))))) (aM (mC (.bl false))) bE) (aH (cU (aR zipN (aB (m2 aN (aA 2) (mC (.int 1))) (aB (aA 4) aC))) (cH 2 (aY (aE 5) (aY (aE 6) cK))) (aW (cD (bN (aF Fs (aB (aA 0) (aB (aA 1) (aB (aA 5) (aB (m2 bO (aA 3) (aK (aB (aA 6) aC))) aC))))))) (aM (mC (.bl false))) bE)) (aM (mC (.bl true))))))))))
def F_qm:Nat->Ak
 |0=>λ_ _=>.bad
 |n+1=>aV 4 7 (yV (F_qm n))
def kR:MS:=(aH (aL (aS (aB (m1 (bG (eS none tbl0)) (aA 1)) (aB (m1 (bG (eS none tbl1)) (aA 1)) (aB (m1 (bG (eS none tbl2)) (aA 1)) aC)))) (aE 3)) (aH (aL (m2 bO (aA 3) (aS (aB (m1 (bG (eS none tbl3)) (aA 1)) (aB (m1 (bG (eS none tbl4)) (aA 1)) (aB (m1 (bG (eS none tbl5)) (aA 1)) aC))))) (aE 3)) (aH (aL (m2 bO (aA 3) (aS (aB (m1 (bG (eS none tbl6)) (aA 1)) (aB (m1 (bG (eS none tbl7)) (aA 1)) (aB (m1 (bG (eS none tbl8)) (aA 1)) aC))))) (aE 3)) (aH (aL (m2 bO (aA 3) (aS (aB (m1 (bG (eS none tbl9)) (aA 1)) (aB (m1 (bG (eS none tbl10)) (aA 1)) aC)))) (aE 3)) (aH (aW (cD (bN (m1 (bG (eS none tblV)) (aA 1)))) (aM (mC .non)) bE) (aM (bU (bT (aR cQ (aB (mC (.int 11)) aC)) [none,some 3] (aE 0) (bN (m2 aN (aA 1) (aA 0))) (bM (aA 0))))))))))
def yW:M Dv:=(aF F_q3 (aB (aA 0) (aB (aA 1) aC)))
def yX:M Dv:=(aF F_q3 (aB (aA 0) (aB (aA 1) aC)))
def yY (scr:Ah):MS:=(aH (aL (aF (F_qn scr) (aB (aA 0) (aB (aA 1) aC))) (aE 2)) (aH (aL (aF F_ql (aB (aA 2) (aB (mC (.int 6)) aC))) (aE 3)) (aH (aL (aF (f1 (jX oE)) (aB (bU (bT (bK cB (aF F_qv (aB (aA 3) aC))) [none,some 3] (aE 0) eK (bM (aF F_qx (aB (aA 1) (aB (aA 0) aC)))))) aC)) (aE 4)) (aH (cU (bK cB (aS (aB (aF iD (aB (mC (.int 0)) (aB (m2 eI (aA 4) (mC (.int 1))) aC))) (aB (aF iD (aB (mC (.int 0)) (aB (m2 eI (aA 4) (mC (.int 2))) aC))) (aB (aA 4) (aB (aF F_qy (aB (aA 2) (aB (mC (.int 6)) aC))) aC)))))) (aE 5) (aH (aL (aF F_q3 (aB (aA 3) (aB (aA 5) aC))) (aE 6)) (aH (aW (cO (mB (m2 cJ (m2 (fW false) (aA 6) (mC .non)) (m2 fP (aA 4) (aA 5)))) (cD (bN (aF (F_qw 20) (aB (aF F_q3 (aB (aA 3) (aB (aA 5) aC))) (aB (aA 6) aC)))))) (aM (mC (.bl false))) bE) (aW (eC (mB (m2 (fW true) (aA 6) (mC .non))) (cD (bN (aF (F_qm 8) (aB (aA 3) (aB (aA 5) (aB (aA 6) (aB (aK aC) aC)))))))) (aM (mC (.bl false))) bE)))) (aH (aL (m2 aN (aS (aB (m1 lJ (mC (.int 1))) (aB (mC (.int 6)) (aB (mC (.bl true)) (aB (mC .non) (aB (mC (.str "1")) (aB (aK (aB (mC (.int 1)) aC)) aC))))))) (aF F_qy (aB (aA 2) (aB (mC (.int 6)) aC)))) (aE 7)) (aH (aL (aF F_qb (aB (aA 2) aC)) (aE 8)) (aH (aW (mB (m2 cJ (mO [3,7] 4 11 kR yW) (aS (aB (mC (.int 1)) aC)))) (aM (mC (.bl false))) bE) (aW (mB (m2 cJ (mO [8,7] 4 11 kR yX) (aS (aB (mC (.int 0)) aC)))) (aM (mC (.bl false))) bE))))))))
def N5 (scr:Ah):MS:=(cU (aR cQ (aB (aF iD (aB (mC (.int 1)) (aB (aF mH (aB (aF (f1 (iL scr)) (aB (aA 0) aC)) (aB (mC (.int 3)) aC))) aC))) aC)) (aE 1) (yY scr))
def ml1:MS:=(aM (mC (.bl true)))
def yZ (scr:Ah):MS:=(aH (N5 scr) (ml1))
def F_qB (scr:Ah):Ak:=aV 1 9 (yZ scr)
end L2.Mr.K09
namespace L2.Mr
section
variable{X:Cx}{G:Cfg}{E:XK}{e:bj}{me:M Dv}{pos pos':Pos}{i:Nat}{x:Str}
theorem cC (hN:X.N.Nodup) (hi:X.N[i]?=some x:=by rfl) (hx:lX X.env.scope x:=by first|exact .inl rfl|exact .inr rfl) (hf:X.fn x=true∨X.env.scope.names.lookup x=some .local:=by first|exact .inl rfl|exact .inr rfl|assumption):mI X G (.Name x pos) (aE i):=WT hN hi hx hf
theorem cV (hN:X.N.Nodup) (he:aJ X G E e me) (hi:X.N[i]?=some x:=by rfl) (hx:lX X.env.scope x:=by first|exact .inl rfl|exact .inr rfl) (hs:swapsWith e (some (.Name x pos')) pos.line X.env=pure false:=by rfl) (hf:X.fn x=true∨X.env.scope.names.lookup x=some .local:=by first|exact .inl rfl|exact .inr rfl|assumption):iU X G E (.Assign [.Name x pos'] e pos) (aL me (aE i)):=BN hN hi hx he hs hf
theorem gG {sc os:gu}{oN N:Aj}{cap:List (Option Nat)}(hs:X.env.scope.names=os.names:=by rfl) (hN:X.N=oN:=by rfl) (h1:sc.kind=.function:=by rfl) (h2:∀p∈sc.names,p.2=.local->sc.names.lookup p.1=some .local:=by decide +kernel) (h3:cap.length=N.length:=by rfl)
  (h4:∀p∈sc.names,p.2=.free->os.names.lookup p.1=some .cell∨os.names.lookup p.1=some .free:=by decide +kernel) (h5:∀p∈sc.names,p.2=.free->(p.1,dv)∉sc.names:=by decide +kernel) (h6:∀q∈cap.zip N,∀j∈q.1,oN[j]?=some q.2/\sc.names.lookup q.2=some .free:=by decide +kernel):Ca X sc N cap:=Y1 hs hN h1 h2 h3 h4 h5 h6
end
theorem dC {N P:Aj}{sc:gu}(h1:sc.kind=.function:=by rfl) (h2:sc.isCoroutine=false:=by rfl) (h3:sc.isGenerator=false:=by rfl) (h4:N.Nodup:=by decide +kernel) (h5:N.take P.length=P:=by rfl) (h6:∀x∈P,sc.names.lookup x=some .local∨sc.names.lookup x=some .cell:=by decide +kernel) (h7:∀y∈sc.names,y.2≠.free:=by decide +kernel):Ay N P sc:=⟨h1,h2,h3,h4,h5,h6,h7⟩
theorem cM {k:Nat}{f:ah}{X:Cx}{G:Cfg}{E:XK}{F:Ak}{ps:Aj}{fd:bo}{x:Str}{p pos:Pos}{e:bj}{es:List bj}{ms:M Al }{j:Nat}(g:Good X G E k) (Fn:Bd X.prog X.w X.K X.mg X.base (bR X.prog X.w X.base) j f fd ps (cN G F))
  (hm:X.mg x=some (.ref f)) (hk:lj X.K (.ref f)=true) (hb:Binds X.K fd ps []) (ha:eF X G E (e::es) ms) (hj:j<=k:=by decide) (hg:Gl X x:=by exact rfl)
  (Du:(x==Gd)=false:=by decide) (he:ar (e::es) X.env=(false,eval e X.env)::ar es X.env:=by rfl) (Ce:(backTo pos (ar es X.env)).any (·.1)=false:=by rfl):
  aJ X G E (.Call (.Name x p) (e::es) [] pos) (aF F ms):=pE g Fn hj hg hm hk hb ha Du he Ce
open PySem.W in
theorem dD {F:List (Frag->Bool)}{K:Frag}{l m:List (Option bo)}(hf:l=m) (hc:F.all (λf=>f K)=true) (f:ah) (st:gw) (n:Str) (c:ah) (ps:Aj) (i j k:Nat)
  (hb:∀(kV doc pm:af) (an:Option ah) (cdv ct:af) (us:List af),us.length=ps.length->bindArgs (fnOf n n (oW st) (jN st) (aX st) .none kV doc pm an cdv ct) ⟨us,[]⟩=pure (ps.zip us))
  (h1:l[i]?=some (cW K f):=by rfl) (h2:m[i]?=some (some (fnOf n n (oW st) (jN st) (aX st) .none .none .none .none none (.ref c) .none)):=by rfl) (h3:F[j]?=some (codeIn · (.ref c) n):=by rfl) (h4:F[k]?=some (keepIn · (.ref f)):=by rfl):
  ∃fd:bo,Bx K n n st f fd/\Binds K fd ps []/\fd.code=.ref c/\∀us:List af,us.length=ps.length->bindArgs fd ⟨us,[]⟩=pure (ps.zip us):=YZ (QZ hf i h1 h2) (nO hc j h3) (nO hc k h4) hb
end L2.Mr
namespace L2.Mr.K09
open L2.Mr.Com
def dE (i:Nat):gw:=ae.main.body.getD i (.Pass ⟨0,0,0,0⟩)
abbrev DS:gw:=dE 14
abbrev DT:gw:=dE 15
abbrev DU:gw:=dE 16
abbrev zA:gw:=dE 17
abbrev DV:gw:=dE 21
abbrev zB:gw:=dE 22
abbrev DW:gw:=dE 23
abbrev zC:gw:=dE 24
abbrev zD:gw:=dE 25
abbrev zE:gw:=dE 26
abbrev DX:gw:=dE 27
abbrev DY:gw:=dE 28
abbrev DZ:gw:=dE 29
abbrev vC:gw:=dE 31
abbrev EA:gw:=dE 33
abbrev EC:gw:=dE 34
abbrev ED:gw:=dE 35
abbrev EE:gw:=dE 36
abbrev EF:gw:=dE 38
abbrev EG:gw:=dE 39
abbrev EH:gw:=dE 40
abbrev EI:gw:=dE 41
abbrev zF:gw:=dE 42
abbrev vD:gw:=dE 43
abbrev vE:gw:=dE 44
abbrev EJ:gw:=dE 45
abbrev zG:gw:=dE 46
abbrev EK:gw:=dE 47
abbrev vF:gw:=dE 48
abbrev EL:gw:=dE 49
abbrev EM:gw:=dE 52
abbrev EN:gw:=dE 53
abbrev EO:gw:=dE 54
abbrev zH:gw:=dE 55
abbrev qT:gw:=dE 56
abbrev rY:gw:=dE 57
set_option genInjectivity false in
structure Ad where
 f_q7:ah
 fd_q7:bo
 f_qr:ah
 fd_qr:bo
 f_qg:ah
 fd_qg:bo
 f_q2:ah
 fd_q2:bo
 f_q6:ah
 fd_q6:bo
 f_qq:ah
 fd_qq:bo
 f_qA:ah
 fd_qA:bo
 f_q0:ah
 fd_q0:bo
 f_q1:ah
 fd_q1:bo
 f_qj:ah
 fd_qj:bo
 f_q5:ah
 fd_q5:bo
 f_qs:ah
 fd_qs:bo
 f_qz:ah
 fd_qz:bo
 f_q8:ah
 fd_q8:bo
 f_qa:ah
 fd_qa:bo
 f_q9:ah
 fd_q9:bo
 f_qt:ah
 fd_qt:bo
 f_q3:ah
 fd_q3:bo
 f_qe:ah
 fd_qe:bo
 f_qn:ah
 fd_qn:bo
 f_qy:ah
 fd_qy:bo
 f_qc:ah
 fd_qc:bo
 f_qh:ah
 fd_qh:bo
 f_ql:ah
 fd_ql:bo
 f_qv:ah
 fd_qv:bo
 f_qk:ah
 fd_qk:bo
 f_qx:ah
 fd_qx:bo
 f_qp:ah
 fd_qp:bo
 f_qd:ah
 fd_qd:bo
 f_qu:ah
 fd_qu:bo
 f_q4:ah
 fd_q4:bo
 f_qm:ah
 fd_qm:bo
 f_qb:ah
 fd_qb:bo
 f_qw:ah
 fd_qw:bo
 f_qf:ah
 fd_qf:bo
 f_qB:ah
 fd_qB:bo
 c_NoOrder:ah
 c_NoNumber:ah
 c_NoPairs:ah
 c_Round:ah
 c_NoThing:ah
 c_NoRow:ah
 c_TooMany:ah
 c_TooFew:ah
 c_NoText:ah
 c_NoLine:ah
 c_NoDeed:ah
 t_MOST_THINGS:Tok
 t_MOST_APART:Tok
 NE:ah
 cc:ah
 P:ah
abbrev Ap:List PySem.Str:=["_law_order_here","_law_k","_law_a","_law_b","_law_row"]
abbrev Au:List PySem.Str:=["_law_order_here","_law_k","_law_thing","_law_row"]
structure Tx (K:aq) (mg:Str->Option af) (G:Cf0) (A:Ad):Prop where
 hK:K=G.K
 F_q7:Bx K "is_whole" "is_whole" DS A.f_q7 A.fd_q7
 B_q7:Binds K A.fd_q7 ["thing"] []
 m_q7:mg "is_whole" = some (.ref A.f_q7)
 F_qr:Bx K "is_between" "is_between" DT A.f_qr A.fd_qr
 B_qr:Binds K A.fd_qr ["thing","low","high"] []
 m_qr:mg "is_between" = some (.ref A.f_qr)
 F_qg:Bx K "need_between" "need_between" DU A.f_qg A.fd_qg
 B_qg:Binds K A.fd_qg ["thing","low","high"] []
 m_qg:mg "need_between" = some (.ref A.f_qg)
 F_q2:Bx K "is_rising" "is_rising" zA A.f_q2 A.fd_q2
 B_q2:Binds K A.fd_q2 ["parts"] []
 m_q2:mg "is_rising" = some (.ref A.f_q2)
 F_q6:Bx K "is_thing" "is_thing" DV A.f_q6 A.fd_q6
 B_q6:Binds K A.fd_q6 ["many","thing"] []
 m_q6:mg "is_thing" = some (.ref A.f_q6)
 F_qq:Bx K "are_things" "are_things" zB A.f_qq A.fd_qq
 B_qq:Binds K A.fd_qq ["many","thing"] []
 m_qq:mg "are_things" = some (.ref A.f_qq)
 F_qA:Bx K "is_pair" "is_pair" DW A.f_qA A.fd_qA
 B_qA:Binds K A.fd_qA ["many","thing"] []
 m_qA:mg "is_pair" = some (.ref A.f_qA)
 F_q0:Bx K "are_pairs" "are_pairs" zC A.f_q0 A.fd_q0
 B_q0:Binds K A.fd_q0 ["many","things"] []
 m_q0:mg "are_pairs" = some (.ref A.f_q0)
 F_q1:Bx K "has_alike" "has_alike" zD A.f_q1 A.fd_q1
 B_q1:Binds K A.fd_q1 ["pairs"] []
 m_q1:mg "has_alike" = some (.ref A.f_q1)
 F_qj:Bx K "is_complete" "is_complete" zE A.f_qj A.fd_qj
 B_qj:Binds K A.fd_qj ["pairs"] []
 m_qj:mg "is_complete" = some (.ref A.f_qj)
 F_q5:Bx K "is_order" "is_order" DX A.f_q5 A.fd_q5
 B_q5:Binds K A.fd_q5 ["thing"] []
 m_q5:mg "is_order" = some (.ref A.f_q5)
 F_qs:Bx K "need_order" "need_order" DY A.f_qs A.fd_qs
 B_qs:Binds K A.fd_qs ["order"] []
 m_qs:mg "need_order" = some (.ref A.f_qs)
 F_qz:Bx K "are_loose" "are_loose" DZ A.f_qz A.fd_qz
 B_qz:Binds K A.fd_qz ["order","one","other"] []
 m_qz:mg "are_loose" = some (.ref A.f_qz)
 F_q8:Bx K "may_come" "may_come" vC A.f_q8 A.fd_q8
 B_q8:Binds K A.fd_q8 ["order","begun"] []
 m_q8:mg "may_come" = some (.ref A.f_q8)
 F_qa:Bx K "need_order_and_span" "need_order_and_span" EA A.f_qa A.fd_qa
 B_qa:Binds K A.fd_qa ["order","k"] []
 m_qa:mg "need_order_and_span" = some (.ref A.f_qa)
 F_q9:Bx K "some_far" "some_far" EC A.f_q9 A.fd_q9
 B_q9:Binds K A.fd_q9 ["order","k","begun"] []
 m_q9:mg "some_far" = some (.ref A.f_q9)
 F_qt:Bx K "some_paper" "some_paper" ED A.f_qt A.fd_qt
 B_qt:Binds K A.fd_qt ["order","k","begun"] []
 m_qt:mg "some_paper" = some (.ref A.f_qt)
 F_q3:Bx K "paper_for" "paper_for" EE A.f_q3 A.fd_q3
 B_q3:Binds K A.fd_q3 ["order","k"] []
 m_q3:mg "paper_for" = some (.ref A.f_q3)
 F_qe:Bx K "_law_cell_at" "_law_cell_at" EF A.f_qe A.fd_qe
 B_qe:Binds K A.fd_qe ["_law_script","_law_k"] []
 m_qe:mg "_law_cell_at" = some (.ref A.f_qe)
 F_qn:Bx K "_law_state" "_law_state" EG A.f_qn A.fd_qn
 B_qn:Binds K A.fd_qn ["_law_script","_law_k"] []
 m_qn:mg "_law_state" = some (.ref A.f_qn)
 F_qy:Bx K "_law_take" "_law_take" EH A.f_qy A.fd_qy
 B_qy:Binds K A.fd_qy ["_law_state_here","_law_many"] []
 m_qy:mg "_law_take" = some (.ref A.f_qy)
 F_qc:Bx K "_law_mixed_row" "_law_mixed_row" EI A.f_qc A.fd_qc
 B_qc:Binds K A.fd_qc ["_law_state_here","_law_things"] []
 m_qc:mg "_law_mixed_row" = some (.ref A.f_qc)
 F_qh:Bx K "_law_closed" "_law_closed" zF A.f_qh A.fd_qh
 B_qh:Binds K A.fd_qh ["_law_pairs"] []
 m_qh:mg "_law_closed" = some (.ref A.f_qh)
 F_ql:Bx K "_law_order" "_law_order" vD A.f_ql A.fd_ql
 B_ql:Binds K A.fd_ql ["_law_state_here","_law_most"] []
 m_ql:mg "_law_order" = some (.ref A.f_ql)
 F_qv:Bx K "_law_rows" "_law_rows" vE A.f_qv A.fd_qv
 B_qv:Binds K A.fd_qv ["_law_order_here"] []
 m_qv:mg "_law_rows" = some (.ref A.f_qv)
 F_qk:Bx K "_law_loose" "_law_loose" EJ A.f_qk A.fd_qk
 B_qk:Binds K A.fd_qk ["_law_order_here"] []
 m_qk:mg "_law_loose" = some (.ref A.f_qk)
 F_qx:Bx K "_law_span" "_law_span" zG A.f_qx A.fd_qx
 B_qx:Binds K A.fd_qx ["_law_order_here","_law_row"] []
 m_qx:mg "_law_span" = some (.ref A.f_qx)
 F_qp:Bx K "_law_whole" "_law_whole" EK A.f_qp A.fd_qp
 B_qp:Binds K A.fd_qp ["_law_thing"] []
 m_qp:mg "_law_whole" = some (.ref A.f_qp)
 F_qd:Bx K "_law_may_come" "_law_may_come" vF A.f_qd A.fd_qd
 B_qd:Binds K A.fd_qd ["_law_order_here","_law_row"] []
 m_qd:mg "_law_may_come" = some (.ref A.f_qd)
 F_qu:Bx K "_law_near" "_law_near" EL A.f_qu A.fd_qu
 B_qu:Binds K A.fd_qu ["_law_order_here","_law_a","_law_b"] []
 m_qu:mg "_law_near" = some (.ref A.f_qu)
 F_q4:Bx K "_law_far" "_law_far" EM A.f_q4 A.fd_q4
 B_q4:Binds K A.fd_q4 Ap []
 m_q4:mg "_law_far" = some (.ref A.f_q4)
 F_qm:Bx K "_law_shows" "_law_shows" EN A.f_qm A.fd_qm
 B_qm:Binds K A.fd_qm Au []
 m_qm:mg "_law_shows" = some (.ref A.f_qm)
 F_qb:Bx K "_law_bad_order" "_law_bad_order" EO A.f_qb A.fd_qb
 B_qb:Binds K A.fd_qb ["_law_state_here"] []
 m_qb:mg "_law_bad_order" = some (.ref A.f_qb)
 F_qw:Bx K "_law_same" "_law_same" zH A.f_qw A.fd_qw
 B_qw:Binds K A.fd_qw ["_law_found","_law_due"] []
 m_qw:mg "_law_same" = some (.ref A.f_qw)
 F_qf:Bx K "_law_refused" "_law_refused" qT A.f_qf A.fd_qf
 B_qf:Binds K A.fd_qf ["_law_call"] []
 m_qf:mg "_law_refused" = some (.ref A.f_qf)
 F_qB:Bx K "law" "law" rY A.f_qB A.fd_qB
 B_qB:Binds K A.fd_qB ["_law_script"] []
 m_qB:mg "law" = some (.ref A.f_qB)
 z_ValueError:mg "ValueError" = none
 z_abs:mg "abs" = none
 z_all:mg "all" = none
 z_any:mg "any" = none
 z_bool:mg "bool" = none
 z_int:mg "int" = none
 z_isinstance:mg "isinstance" = none
 z_len:mg "len" = none
 z_list:mg "list" = none
 z_max:mg "max" = none
 z_min:mg "min" = none
 z_range:mg "range" = none
 z_set:mg "set" = none
 z_sorted:mg "sorted" = none
 z_str:mg "str" = none
 z_tuple:mg "tuple" = none
 z_zip:mg "zip" = none
 c_MOST_THINGS:mg "MOST_THINGS" = some (.int 6 A.t_MOST_THINGS)
 c_MOST_APART:mg "MOST_APART" = some (.int 5 A.t_MOST_APART)
 n_NoOrder:mg "NoOrder" = some (.ref A.c_NoOrder)
 n_NoNumber:mg "NoNumber" = some (.ref A.c_NoNumber)
 n_NoPairs:mg "NoPairs" = some (.ref A.c_NoPairs)
 n_Round:mg "Round" = some (.ref A.c_Round)
 n_NoThing:mg "NoThing" = some (.ref A.c_NoThing)
 n_NoRow:mg "NoRow" = some (.ref A.c_NoRow)
 n_TooMany:mg "TooMany" = some (.ref A.c_TooMany)
 n_TooFew:mg "TooFew" = some (.ref A.c_TooFew)
 n_NoText:mg "NoText" = some (.ref A.c_NoText)
 n_NoLine:mg "NoLine" = some (.ref A.c_NoLine)
 n_NoDeed:mg "NoDeed" = some (.ref A.c_NoDeed)
 ns_NoOrder:sf K dg "NoOrder" = some (some (.ref A.c_NoOrder))
 x_NoOrder:qp K A.c_NoOrder tW "ValueError.__new__" = true
 ce_NoOrder:A.c_NoOrder=G.cl 0
 ns_NoNumber:sf K dg "NoNumber" = some (some (.ref A.c_NoNumber))
 x_NoNumber:qp K A.c_NoNumber tW "ValueError.__new__" = true
 ce_NoNumber:A.c_NoNumber=G.cl 1
 ktV:∀c b,tblV.lookup c=some b->de G.K (.ref (G.cl c)) (.type "ValueError")=some b/\Cy G.K (G.cl c)
 kt0:∀c b,tbl0.lookup c=some b->de G.K (.ref (G.cl c)) (.ref A.c_NoOrder)=some b/\Cy G.K (G.cl c)
 kt1:∀c b,tbl1.lookup c=some b->de G.K (.ref (G.cl c)) (.ref A.c_NoNumber)=some b/\Cy G.K (G.cl c)
 kt2:∀c b,tbl2.lookup c=some b->de G.K (.ref (G.cl c)) (.ref A.c_NoPairs)=some b/\Cy G.K (G.cl c)
 kt3:∀c b,tbl3.lookup c=some b->de G.K (.ref (G.cl c)) (.ref A.c_Round)=some b/\Cy G.K (G.cl c)
 kt4:∀c b,tbl4.lookup c=some b->de G.K (.ref (G.cl c)) (.ref A.c_NoThing)=some b/\Cy G.K (G.cl c)
 kt5:∀c b,tbl5.lookup c=some b->de G.K (.ref (G.cl c)) (.ref A.c_NoRow)=some b/\Cy G.K (G.cl c)
 kt6:∀c b,tbl6.lookup c=some b->de G.K (.ref (G.cl c)) (.ref A.c_TooMany)=some b/\Cy G.K (G.cl c)
 kt7:∀c b,tbl7.lookup c=some b->de G.K (.ref (G.cl c)) (.ref A.c_TooFew)=some b/\Cy G.K (G.cl c)
 kt8:∀c b,tbl8.lookup c=some b->de G.K (.ref (G.cl c)) (.ref A.c_NoText)=some b/\Cy G.K (G.cl c)
 kt9:∀c b,tbl9.lookup c=some b->de G.K (.ref (G.cl c)) (.ref A.c_NoLine)=some b/\Cy G.K (G.cl c)
 kt10:∀c b,tbl10.lookup c=some b->de G.K (.ref (G.cl c)) (.ref A.c_NoDeed)=some b/\Cy G.K (G.cl c)
 n_NearError:mg "NearError" = some (.ref A.NE)
 e1:jx K (.ref A.NE) (.type "BaseException")=some true
 e2:jx K (.type "type") (.type "tuple")=some false
 e3:wx K (.ref A.NE) (.ref A.NE)=some true
 e4:∀c,c<11->jx K (.ref (G.cl c)) (.ref A.NE)=some true
 lq:(("law" : Str) ++ ".<locals>.") ++ "<lambda>" = G.lq
 tab:G.tab=some A.P
 code:A.fd_qB.code=.ref A.cc
theorem N6:(["one","other"]:Aj).Nodup:=by decide +kernel
theorem nd5:(["part","many"]:Aj).Nodup:=by decide +kernel
theorem nd7:(["thing","many"]:Aj).Nodup:=by decide +kernel
theorem N7:(["a","b"]:Aj).Nodup:=by decide +kernel
theorem zI:(["a","b","middle","c","pairs"]:Aj).Nodup:=by decide +kernel
theorem N8:(["thing","many","pairs"]:Aj).Nodup:=by decide +kernel
theorem z0u:(["order","one","other","pairs"]:Aj).Nodup:=by decide +kernel
theorem ER:(["order","begun","many","pairs","waiting"]:Aj).Nodup:=by decide +kernel
theorem N9:(["a","b","begun"]:Aj).Nodup:=by decide +kernel
theorem z0v:(["thing","begun","waiting"]:Aj).Nodup:=by decide +kernel
theorem OA:(["order","k","begun","a","b"]:Aj).Nodup:=by decide +kernel
abbrev Aw:List PySem.Str:=["order","k","begun","far","papers","thing","paper"]
theorem zJ:(Aw:Aj).Nodup:=by decide +kernel
theorem z0w:(["_law_script","_law_k","_law_cell"]:Aj).Nodup:=by decide +kernel
theorem ES:(["_law_state_here","_law_many","_law_found","_law_stirred"]:Aj).Nodup:=by decide +kernel
theorem OB:(["_law_state_here","_law_things","_law_left","_law_found"]:Aj).Nodup:=by decide +kernel
abbrev Av:List PySem.Str:=["_law_pairs","_law_found","_law_later","_law_a","_law_b"]
theorem rZ:(Av:Aj).Nodup:=by decide +kernel
theorem OC:(["_law_c","_law_d","_law_a","_law_b"]:Aj).Nodup:=by decide +kernel
abbrev Ao:List PySem.Str:=["_law_state_here","_law_most","_law_many","_law_row","_law_way","_law_pairs","_law_marks","_law_i","_law_j","_law_near_here"]
theorem jZ:(Ao:Aj).Nodup:=by decide +kernel
theorem z0x:(["_law_thing","_law_state_here"]:Aj).Nodup:=by decide +kernel
theorem z0y:(["_law_j","_law_i","_law_marks"]:Aj).Nodup:=by decide +kernel
abbrev Aq:List PySem.Str:=["_law_order_here","_law_found","_law_turn","_law_longer","_law_row"]
theorem sC:(Aq:Aj).Nodup:=by decide +kernel
theorem OD:(["_law_thing","_law_row"]:Aj).Nodup:=by decide +kernel
theorem OE:(["_law_row","_law_order_here"]:Aj).Nodup:=by decide +kernel
theorem zK:(["_law_a","_law_b","_law_row"]:Aj).Nodup:=by decide +kernel
theorem ET:(["_law_order_here","_law_found","_law_a","_law_b"]:Aj).Nodup:=by decide +kernel
theorem z0z:(["_law_order_here","_law_row","_law_left"]:Aj).Nodup:=by decide +kernel
theorem z10:(["_law_thing","_law_order_here","_law_row"]:Aj).Nodup:=by decide +kernel
theorem OF:(["_law_a","_law_b","_law_thing","_law_row"]:Aj).Nodup:=by decide +kernel
abbrev As:List PySem.Str:=["_law_order_here","_law_k","_law_thing","_law_row","_law_some","_law_paper","_law_one"]
theorem EU:(As:Aj).Nodup:=by decide +kernel
theorem EV:(["_law_state_here","_law_some"]:Aj).Nodup:=by decide +kernel
theorem OG:(["_law_one","_law_other"]:Aj).Nodup:=by decide +kernel
theorem zL:(["_law_call","_law_error","e","_law_marks"]:Aj).Nodup:=by decide +kernel
theorem z11:(["_law_k","_law_marks"]:Aj).Nodup:=by decide +kernel
abbrev An:List PySem.Str:=["_law_script","_law_k","_law_state_here","_law_order_here","_law_least","_law_span_here","_law_found","_law_bad","_law_none"]
theorem pU:(An:Aj).Nodup:=by decide +kernel
section
variable{P:bh}{w:cm}{K:aq}{mg:Str->Option af}{base:cu}{G:Cfg}{A:Ad}
theorem z12:Ay ["thing"] ["thing"] (aX DS):=dC
theorem z13 (T:Tx K mg G A):Bd P w K mg base (bR P w base) 1 A.f_q7 A.fd_q7 ["thing"] (cN G F_q7):=dI (k:=0) T.F_q7 z12 T.hK λ_ _ _ _ _ _ _ g=>(bB (bW (kF (LO rfl T.z_isinstance rfl T.z_int (aD 0)) (kZ (BI (xX rfl T.z_isinstance rfl T.z_bool (aD 0)))))))
theorem z14:Ay ["thing","low","high"] ["thing","low","high"] (aX DT):=dC
theorem EW (T:Tx K mg G A):Bd P w K mg base (bR P w base) 2 A.f_qr A.fd_qr ["thing","low","high"] (cN G F_qr):=dI (k:=1) T.F_qr z14 T.hK λ_ _ _ _ _ _ _ g=>(bB (bW (kF (cM g (z13 T) T.m_q7 T.F_q7.kp T.B_q7 (aG (aD 0) aO)) (kZ (Y9 (aD 1) (aD 0) (aD 2))))))
theorem z15:Ay ["thing","low","high"] ["thing","low","high"] (aX DU):=dC
theorem z16 (T:Tx K mg G A):Bd P w K mg base (bR P w base) 3 A.f_qg A.fd_qg ["thing","low","high"] (cN G F_qg):=dI (k:=2) T.F_qg z15 T.hK λ_ _ _ _ _ _ _ g=>(bB (dW (hZ (fU (cM g (EW T) T.m_qr T.F_qr.kp T.B_qr (aG (aD 0) (aG (aD 1) (aG (aD 2) aO)))))) (bB (XB (slots:=[1,2]) g rfl T.n_NoNumber T.ns_NoNumber T.x_NoNumber T.ce_NoNumber (Di.cons (J5 (by decide)) (Di.cons (J7 (sW (i:=1) rfl (by first|exact zo rfl|exact Or.inr (zo rfl)))) (Di.cons (J5 (by decide)) (Di.cons (J7 (sW (i:=2) rfl (by first|exact zo rfl|exact Or.inr (zo rfl)))) Di.nil)))) (λσ hh=>⟨trivial,hh 1 (by decide),trivial,hh 2 (by decide),trivial⟩))) dU))
theorem z17:Ay ["parts"] ["parts"] (aX zA):=dC
theorem z18 (T:Tx K mg G A):Bd P w K mg base (bR P w base) 1 A.f_q2 A.fd_q2 ["parts"] (cN G F_q2):=dI (k:=0) T.F_q2 z17 T.hK λ_ _ _ _ _ _ _ g=>(bB (bW (tZ g.calm rfl T.z_all (gU g.calm (gG (N:=["one","other"]) (cap:=[none,none]) (os:=(aX zA)) (oN:=["parts"])) (KS rfl T.z_zip (aG (aD 0) (aG (z07 (aD 0) (YU bA) YT) aO))) (λ_ _ _=>(jF (cZ g).calm (eG (cC (i:=0) N6) (eG (cC (i:=1) N6) jE)))) (λ_ _ _=>nY) (λ_ _ _=>(NS (cZ g) (aD 0) (aD 1)))))))
theorem z19:Ay ["many","thing"] ["many","thing"] (aX DV):=dC
theorem z1a (T:Tx K mg G A):Bd P w K mg base (bR P w base) 3 A.f_q6 A.fd_q6 ["many","thing"] (cN G F_q6):=dI (k:=2) T.F_q6 z19 T.hK λ_ _ _ _ _ _ _ g=>(bB (bW (cM g (EW T) T.m_qr T.F_qr.kp T.B_qr (aG (aD 1) (aG bA (aG (oA (aD 0) bA) aO))))))
theorem z1b:Ay ["many","thing"] ["many","thing"] (aX zB):=dC
theorem z1c (T:Tx K mg G A):Bd P w K mg base (bR P w base) 4 A.f_qq A.fd_qq ["many","thing"] (cN G F_qq):=dI (k:=3) T.F_qq z1b T.hK λ_ _ _ _ _ _ _ g=>(bB (bW (kF (qM rfl T.z_isinstance rfl T.z_tuple (aD 1)) (kZ (tZ g.calm rfl T.z_all (gU g.calm (gG (N:=["part","many"]) (cap:=[none,some 0]) (os:=(aX zB)) (oN:=["many","thing"])) (pD (aD 1)) (λ_ _ _=>(cC (i:=0) nd5)) (λ_ _ _=>nY) (λ_ _ _=>(cM (cZ g) (z1a T) T.m_q6 T.F_q6.kp T.B_q6 (aG (aD 1) (aG (aD 0) aO))))))))))
theorem z1d:Ay ["many","thing"] ["many","thing"] (aX DW):=dC
theorem z1e (T:Tx K mg G A):Bd P w K mg base (bR P w base) 5 A.f_qA A.fd_qA ["many","thing"] (cN G F_qA):=dI (k:=4) T.F_qA z1d T.hK λ_ _ _ _ _ _ _ g=>(bB (bW (kF (cM g (z1c T) T.m_qq T.F_qq.kp T.B_qq (aG (aD 0) (aG (aD 1) aO))) (kZ (oC g (jW rfl T.z_len (aG (aD 1) aO)) bA)))))
theorem z1f:Ay ["many","things"] ["many","things"] (aX zC):=dC
theorem z1g (T:Tx K mg G A):Bd P w K mg base (bR P w base) 6 A.f_q0 A.fd_q0 ["many","things"] (cN G F_q0):=dI (k:=5) T.F_q0 z1f T.hK λ_ _ _ _ _ _ _ g=>(bB (bW (tZ g.calm rfl T.z_all (gU g.calm (gG (N:=["thing","many"]) (cap:=[none,some 0]) (os:=(aX zC)) (oN:=["many","things"])) (pD (aD 1)) (λ_ _ _=>(cC (i:=0) nd7)) (λ_ _ _=>nY) (λ_ _ _=>(cM (cZ g) (z1e T) T.m_qA T.F_qA.kp T.B_qA (aG (aD 1) (aG (aD 0) aO))))))))
theorem z1h:Ay ["pairs"] ["pairs"] (aX zD):=dC
theorem z1i (T:Tx K mg G A):Bd P w K mg base (bR P w base) 1 A.f_q1 A.fd_q1 ["pairs"] (cN G F_q1):=dI (k:=0) T.F_q1 z1h T.hK λ_ _ _ _ _ _ _ g=>(bB (bW (XX g.calm rfl T.z_any (gU g.calm (gG (N:=["a","b"]) (cap:=[none,none]) (os:=(aX zD)) (oN:=["pairs"])) (pD (aD 0)) (λ_ _ _=>(jF (cZ g).calm (eG (cC (i:=0) N7) (eG (cC (i:=1) N7) jE)))) (λ_ _ _=>nY) (λ_ _ _=>(oC (cZ g) (aD 0) (aD 1)))))))
theorem z1j:Ay ["pairs"] ["pairs"] (aX zE):=dC
theorem z1k (T:Tx K mg G A):Bd P w K mg base (bR P w base) 1 A.f_qj A.fd_qj ["pairs"] (cN G F_qj):=dI (k:=0) T.F_qj z1j T.hK λ_ _ _ _ _ _ _ g=>(bB (bW (tZ g.calm rfl T.z_all (WY g.calm (gG (N:=["a","b","middle","c","pairs"]) (cap:=[none,none,none,none,some 0]) (os:=(aX zE)) (oN:=["pairs"])) (pD (aD 0)) (λ_ _ _=>(jF (cZ g).calm (eG (cC (i:=0) zI) (eG (cC (i:=1) zI) jE)))) (λ_ _ _=>nY) (λ_ _ _=>(pD (aD 4))) (λ_ _ _=>(jF (cZ g).calm (eG (cC (i:=2) zI) (eG (cC (i:=3) zI) jE)))) (λ_ _ _=>(kJ (kN (cZ g) (aD 1) (aD 2)))) (λ_ _ _=>(L0 (cZ g) (gF (aG (aD 0) (aG (aD 3) aO))) (aD 4)))))))
theorem z1l:Ay ["thing","many","pairs"] ["thing"] (aX DX):=dC
theorem z1m (T:Tx K mg G A):Bd P w K mg base (bR P w base) 7 A.f_q5 A.fd_q5 ["thing"] (cN G F_q5):=dI (k:=6) T.F_q5 z1l T.hK λ_ _ _ _ _ _ _ g=>(bC (dW (F' (iS (hZ (fU (qM rfl T.z_isinstance rfl T.z_tuple (aD 0)))) (mF (lL g (jW rfl T.z_len (aG (aD 0) aO)) bA)))) (bB (bW gB)) dU) (bC (JT (aD 0) (jF g.calm (eG (cC (i:=1) N8) (eG (cC (i:=2) N8) jE)))) (bC (dW (F' (iS (hZ (fU (cM g (EW T) T.m_qr T.F_qr.kp T.B_qr (aG (aD 1) (aG bA (aG (LL rfl T.c_MOST_THINGS) aO)))))) (mF (hZ (fU (qM rfl T.z_isinstance rfl T.z_tuple (aD 2))))))) (bB (bW gB)) dU) (bC (dW (F' (iS (hZ (fU (cM g (z1g T) T.m_q0 T.F_q0.kp T.B_q0 (aG (aD 1) (aG (aD 2) aO))))) (mF (hZ (fU (cM g (z18 T) T.m_q2 T.F_q2.kp T.B_q2 (aG (aD 2) aO))))))) (bB (bW gB)) dU) (bB (bW (kF (BI (cM g (z1i T) T.m_q1 T.F_q1.kp T.B_q1 (aG (aD 2) aO))) (kZ (cM g (z1k T) T.m_qj T.F_qj.kp T.B_qj (aG (aD 2) aO))))))))))
theorem z1n:Ay ["order"] ["order"] (aX DY):=dC
theorem z1o (T:Tx K mg G A):Bd P w K mg base (bR P w base) 8 A.f_qs A.fd_qs ["order"] (cN G F_qs):=dI (k:=7) T.F_qs z1n T.hK λ_ _ _ _ _ _ _ g=>(bB (dW (hZ (fU (cM g (z1m T) T.m_q5 T.F_q5.kp T.B_q5 (aG (aD 0) aO)))) (bB (W8 g rfl T.n_NoOrder T.ns_NoOrder T.x_NoOrder T.ce_NoOrder (aG oX aO))) dU))
theorem z1p:Ay ["order","one","other","pairs"] ["order","one","other"] (aX DZ):=dC
theorem z1q (T:Tx K mg G A):Bd P w K mg base (bR P w base) 1 A.f_qz A.fd_qz ["order","one","other"] (cN G F_qz):=dI (k:=0) T.F_qz z1p T.hK λ_ _ _ _ _ _ _ g=>(bC (cV (i:=3) z0u (cR (aD 0) bA)) (bB (bW (kF (Y5 g (aD 1) (aD 2)) (kF (L6 g (gF (aG (aD 1) (aG (aD 2) aO))) (aD 3)) (kZ (L6 g (gF (aG (aD 2) (aG (aD 1) aO))) (aD 3))))))))
theorem z1r:Ay ["order","begun","many","pairs","waiting"] ["order","begun"] (aX vC):=dC
theorem z1s (T:Tx K mg G A):Bd P w K mg base (bR P w base) 1 A.f_q8 A.fd_q8 ["order","begun"] (cN G F_q8):=dI (k:=0) T.F_q8 z1r T.hK λ_ _ _ _ _ _ _ g=>(bC (JT (aD 0) (jF g.calm (eG (cC (i:=2) ER) (eG (cC (i:=3) ER) jE)))) (bC (cV (i:=4) ER (kH (gU g.calm (gG (N:=["a","b","begun"]) (cap:=[none,none,some 1]) (os:=(aX vC)) (oN:=["order","begun","many","pairs","waiting"])) (pD (aD 3)) (λ_ _ _=>(jF (cZ g).calm (eG (cC (i:=0) N9) (eG (cC (i:=1) N9) jE)))) (λ_ _ _=>(kJ (mQ (cZ g) (aD 0) (aD 2)))) (λ_ _ _=>(aD 1))))) (bB (bW (kH (gU g.calm (gG (N:=["thing","begun","waiting"]) (cap:=[none,some 1,some 4]) (os:=(aX vC)) (oN:=["order","begun","many","pairs","waiting"])) (lF rfl T.z_range (aG (aD 2) aO)) (λ_ _ _=>(cC (i:=0) z0v)) (λ_ _ _=>(kJ (F' (tO (mQ (cZ g) (aD 0) (aD 1)) (tN (mQ (cZ g) (aD 0) (aD 2))))))) (λ_ _ _=>(aD 0))))))))
theorem z1t:Ay ["order","k"] ["order","k"] (aX EA):=dC
theorem z1u (T:Tx K mg G A):Bd P w K mg base (bR P w base) 9 A.f_qa A.fd_qa ["order","k"] (cN G F_qa):=dI (k:=8) T.F_qa z1t T.hK λ_ _ _ _ _ _ _ g=>(bC (pA (cM g (z1o T) T.m_qs T.F_qs.kp T.B_qs (aG (aD 0) aO))) (bB (pA (cM g (z16 T) T.m_qg T.F_qg.kp T.B_qg (aG (aD 1) (aG bA (aG (LL rfl T.c_MOST_APART) aO)))))))
theorem z1v:Ay ["order","k","begun","a","b"] ["order","k","begun"] (aX EC):=dC
theorem z1w (T:Tx K mg G A):Bd P w K mg base (bR P w base) 2 A.f_q9 A.fd_q9 ["order","k","begun"] (cN G F_q9):=dI (k:=1) T.F_q9 z1v T.hK λ_ _ _ _ _ _ _ g=>(bC (dW (Y6 (jW rfl T.z_len (aG (aD 2) aO)) (aD 1)) (bB (bW lZ)) dU) (bC (cV (i:=3) OA (cR (aD 2) (oA (CI bA) (aD 1)))) (bC (jR g.own g.calm (lF rfl T.z_range (aG (cR (aD 0) bA) aO)) (cC (i:=4) OA) (bB (dW (F' (tO (mQ g (aD 4) (aD 2)) (tN (fU (cM g (z1q T) T.m_qz T.F_qz.kp T.B_qz (aG (aD 0) (aG (aD 3) (aG (aD 4) aO)))))))) (bB (bW (gF (aG oX (aG (aD 3) (aG (aD 4) aO)))))) dU))) (bB (bW lZ)))))
theorem z1x:Ay Aw ["order","k","begun"] (aX ED):=dC
theorem OH (T:Tx K mg G A):∀n,Bd P w K mg base (bR P w base) (2+1*n) A.f_qt A.fd_qt ["order","k","begun"] (cN G (F_qt n))
 |0=>CJ
 |n+1=>by have okS:=OH T n;exact dI (k:=2+1*n+0) (N:=Aw) (mb:=mb_qt (F_qt n)) T.F_qt z1x T.hK λ_ _ _ _ _ _ _ g=>(bC (cV (i:=3) zJ (pE g (z1w T) (by omega) rfl T.m_q9 T.F_q9.kp T.B_q9 (aG (aD 0) (aG (aD 1) (aG (aD 2) aO))))) (bC (dW (F' (iS (L7 (aD 3) lZ) (mF (kN g (jW rfl T.z_len (aG (aD 2) aO)) (cR (aD 0) bA))))) (bB (bW (aD 3))) dU) (bC (cV (i:=4) zJ (gC aO)) (bC (jR g.own g.calm (mJ (pE g (z1s T) (by omega) rfl T.m_q8 T.F_q8.kp T.B_q8 (aG (aD 0) (aG (aD 2) aO)))) (cC (i:=5) zJ) (bC (cV (i:=6) zJ (pE g okS (aj _) rfl T.m_qt T.F_qt.kp T.B_qt (aG (aD 0) (aG (aD 1) (aG (iE (aD 2) (gF (aG (aD 5) aO))) aO))))) (bC (dW (c7 (aD 6) lZ) (bB (bW lZ)) dU) (bB (pA (xN (aD 4) (aD 6))))))) (bB (bW (gF (aG oX (aG (JQ rfl T.z_tuple (aG (aD 4) aO)) aO)))))))))
theorem z1y:Ay ["order","k"] ["order","k"] (aX EE):=dC
theorem zM (T:Tx K mg G A):Bd P w K mg base (bR P w base) 11 A.f_q3 A.fd_q3 ["order","k"] (cN G F_q3):=dI (k:=10) T.F_q3 z1y T.hK λ_ _ _ _ _ _ _ g=>(bC (pA (cM g (z1u T) T.m_qa T.F_qa.kp T.B_qa (aG (aD 0) (aG (aD 1) aO)))) (bB (bW (cM g (OH T 8) T.m_qt T.F_qt.kp T.B_qt (aG (aD 0) (aG (aD 1) (aG (gF aO) aO)))))))
theorem z1z:Ay ["_law_script","_law_k"] ["_law_script","_law_k"] (aX EF):=dC
theorem z20 (T:Tx K mg G A):Bd P w K mg base (bR P w base) 1 A.f_qe A.fd_qe ["_law_script","_law_k"] (cN G (F_qe G.scr)):=dI (k:=0) (N:=["_law_script","_law_k"]) (mb:=(yQ G.scr)) T.F_qe z1z T.hK λ_ _ _ _ _ _ _ g=>(bC (dW (NT g (aD 1) (JO rfl T.z_len (aG (aD 0) aO))) (bB (bW (WJ (aD 0) (aD 1)))) dU) (bB (bW bA)))
theorem z21:Ay ["_law_script","_law_k","_law_cell"] ["_law_script","_law_k"] (aX EG):=dC
theorem z22 (T:Tx K mg G A):Bd P w K mg base (bR P w base) 2 A.f_qn A.fd_qn ["_law_script","_law_k"] (cN G (F_qn G.scr)):=dI (k:=1) (N:=["_law_script","_law_k","_law_cell"]) (mb:=(yR G.scr)) T.F_qn z21 T.hK λ_ _ _ _ _ _ _ g=>(bC (cV (i:=2) z0w (cM g (z20 T) T.m_qe T.F_qe.kp T.B_qe (aG (aD 0) (aG (aD 1) aO)))) (bC (dW (Y8 (aD 2) (LN bA bA)) (bB (bW (gC (aG (oA (aD 2) (LN bA bA)) (aG gB aO))))) dU) (bB (bW (gC (aG (rQ (aD 2) bA) (aG gB aO)))))))
theorem z23:Ay ["_law_state_here","_law_many","_law_found","_law_stirred"] ["_law_state_here","_law_many"] (aX EH):=dC
theorem mV (T:Tx K mg G A):Bd P w K mg base (bR P w base) 1 A.f_qy A.fd_qy ["_law_state_here","_law_many"] (cN G F_qy):=dI (k:=0) T.F_qy z23 T.hK λ_ _ _ _ _ _ _ g=>(bC (dW (fU (cR (aD 0) bA)) (bC (cV (i:=2) ES (rQ (cR (aD 0) bA) (aD 1))) (bC (KJ (aD 0) bA (LW (cR (aD 0) bA) (aD 1))) (bB (bW (aD 2))))) dU) (bC (KJ (aD 0) bA (rQ (iE (uI (cR (aD 0) bA) bA) bA) bA)) (bC (cV (i:=3) ES (rQ (iE (iE (uI (cR (aD 0) bA) (cR (aD 0) bA)) (uI bA (cR (aD 0) bA))) bA) bA)) (bC (cV (i:=3) ES (rQ (iE (uI (aD 3) (aD 3)) (uI bA (aD 3))) bA)) (bB (bW (rQ (LW (aD 3) bA) (aD 1))))))))
theorem z24:Ay ["_law_state_here","_law_things","_law_left","_law_found"] ["_law_state_here","_law_things"] (aX EI):=dC
theorem z25 (T:Tx K mg G A):Bd P w K mg base (bR P w base) 2 A.f_qc A.fd_qc ["_law_state_here","_law_things"] (cN G F_qc):=dI (k:=1) T.F_qc z24 T.hK λ_ _ _ _ _ _ _ g=>(bC (cV (i:=2) OB (LR rfl T.z_list (aG (aD 1) aO))) (bC (cV (i:=3) OB (gC aO)) (bC (LH 40 g.own (lL g (aD 2) (gC aO)) (bB (pA (xN (aD 3) (YR (aD 2) (cM g (mV T) T.m_qy T.F_qy.kp T.B_qy (aG (aD 0) (aG (jW rfl T.z_len (aG (aD 2) aO)) aO)))))))) (bB (bW (aD 3))))))
theorem z26:Ay Av ["_law_pairs"] (aX zF):=dC
theorem z27 (T:Tx K mg G A):Bd P w K mg base (bR P w base) 1 A.f_qh A.fd_qh ["_law_pairs"] (cN G F_qh):=dI (k:=0) T.F_qh z26 T.hK λ_ _ _ _ _ _ _ g=>(bC (cV (i:=1) rZ (NV g rfl T.z_sorted rfl T.z_set (aG (aD 0) aO))) (bB (LH 40 g.own (fU gB) (bC (cV (i:=2) rZ (LR rfl T.z_list (aG (aD 1) aO))) (bC (jR g.own g.calm (mJ (aD 1)) (jF g.calm (eG (cC (i:=3) rZ) (eG (cC (i:=4) rZ) jE))) (bB (pA (XZ (aD 2) (gU g.calm (gG (N:=["_law_c","_law_d","_law_a","_law_b"]) (cap:=[none,none,some 3,some 4]) (os:=(aX zF)) (oN:=Av)) (mJ (aD 1)) (λ_ _ _=>(jF (cZ g).calm (eG (cC (i:=0) OC) (eG (cC (i:=1) OC) jE)))) (λ_ _ _=>(kJ (kN (cZ g) (aD 3) (aD 0)))) (λ_ _ _=>(gF (aG (aD 2) (aG (aD 1) aO))))))))) (bC (cV (i:=2) rZ (NV g rfl T.z_sorted rfl T.z_set (aG (aD 2) aO))) (bC (dW (kN g (aD 2) (aD 1)) (bB (bW (aD 1))) dU) (bB (cV (i:=1) rZ (aD 2))))))))))
theorem z28:Ay Ao ["_law_state_here","_law_most"] (aX vD):=dC
theorem z29 (T:Tx K mg G A):Bd P w K mg base (bR P w base) 3 A.f_ql A.fd_ql ["_law_state_here","_law_most"] (cN G F_ql):=dI (k:=2) T.F_ql z28 T.hK λ_ _ _ _ _ _ _ g=>(bC (cV (i:=2) jZ (oA (aD 1) (cR (pT 2) (cM g (mV T) T.m_qy T.F_qy.kp T.B_qy (aG (aD 0) (aG bA aO)))))) (bC (cV (i:=2) jZ (tS g.calm rfl T.z_max (aG bA (aG (aD 2) aO)))) (bC (cV (i:=3) jZ (cM g (z25 T) T.m_qc T.F_qc.kp T.B_qc (aG (aD 0) (aG (z0a g rfl T.z_list rfl T.z_range (aG (aD 2) aO)) aO)))) (bC (cV (i:=4) jZ (cM g (mV T) T.m_qy T.F_qy.kp T.B_qy (aG (aD 0) (aG bA aO)))) (bC (cV (i:=5) jZ (gC aO)) (bC (cV (i:=6) jZ (kH (gU g.calm (gG (N:=["_law_thing","_law_state_here"]) (cap:=[none,some 0]) (os:=(aX vD)) (oN:=Ao)) (mJ (aD 3)) (λ_ _ _=>(cC (i:=0) z0x)) (λ_ _ _=>nY) (λ_ _ _=>(cM (cZ g) (mV T) T.m_qy T.F_qy.kp T.B_qy (aG (aD 1) (aG bA aO))))))) (bC (jR g.own g.calm (lF rfl T.z_range (aG (aD 2) aO)) (cC (i:=7) jZ) (bB (jR g.own g.calm (JU rfl T.z_range (aG (iE (aD 7) bA) (aG (aD 2) aO))) (cC (i:=8) jZ) (bC (cV (i:=9) jZ (gC (aG (oC g (cM g (mV T) T.m_qy T.F_qy.kp T.B_qy (aG (aD 0) (aG bA aO))) bA) (aG (oC g (cM g (mV T) T.m_qy T.F_qy.kp T.B_qy (aG (aD 0) (aG bA aO))) bA) (aG (Y3 (cM g (mV T) T.m_qy T.F_qy.kp T.B_qy (aG (aD 0) (aG bA aO))) bA) aO))))) (bC (cV (i:=9) jZ (iE (aD 9) (gC (aG (NS g (cR (aD 6) (aD 7)) (cR (aD 6) (aD 8))) (aG (oC g (cR (aD 6) (aD 7)) (cR (aD 6) (aD 8))) aO))))) (bB (dW (fU (cR (aD 9) (aD 4))) (bB (pA (xN (aD 5) (gF (aG (cR (aD 3) (aD 7)) (aG (cR (aD 3) (aD 8)) aO)))))) dU))))))) (bC (dW (kN g (aD 4) bA) (bC (cV (i:=5) jZ (gC aO)) (bB (jR g.own g.calm (lF rfl T.z_range (aG (aD 2) aO)) (cC (i:=7) jZ) (bB (cV (i:=5) jZ (iE (aD 5) (kH (gU g.calm (gG (N:=["_law_j","_law_i","_law_marks"]) (cap:=[none,some 7,some 6]) (os:=(aX vD)) (oN:=Ao)) (lF rfl T.z_range (aG (aD 2) aO)) (λ_ _ _=>(cC (i:=0) z0y)) (λ_ _ _=>(kJ (NT (cZ g) (cR (aD 2) (aD 1)) (cR (aD 2) (aD 0))))) (λ_ _ _=>(gF (aG (aD 1) (aG (aD 0) aO)))))))))))) dU) (bB (bW (gF (aG (aD 2) (aG (JQ rfl T.z_tuple (aG (cM g (z27 T) T.m_qh T.F_qh.kp T.B_qh (aG (aD 5) aO)) aO)) aO)))))))))))))
theorem z2a:Ay Aq ["_law_order_here"] (aX vE):=dC
theorem z2b (T:Tx K mg G A):Bd P w K mg base (bR P w base) 1 A.f_qv A.fd_qv ["_law_order_here"] (cN G F_qv):=dI (k:=0) T.F_qv z2a T.hK λ_ _ _ _ _ _ _ g=>(bC (cV (i:=1) sC (pT 3)) (bC (jR g.own g.calm (lF rfl T.z_range (aG (cR (aD 0) bA) aO)) (cC (i:=2) sC) (bC (cV (i:=3) sC (gC aO)) (bC (jR g.own g.calm (mJ (aD 1)) (cC (i:=4) sC) (bB (cV (i:=3) sC (iE (aD 3) (kH (gU g.calm (gG (N:=["_law_thing","_law_row"]) (cap:=[none,some 4]) (os:=(aX vE)) (oN:=Aq)) (lF rfl T.z_range (aG (cR (aD 0) bA) aO)) (λ_ _ _=>(cC (i:=0) OD)) (λ_ _ _=>(kJ (mQ (cZ g) (aD 0) (aD 1)))) (λ_ _ _=>(iE (aD 1) (gF (aG (aD 0) aO)))))))))) (bB (cV (i:=1) sC (aD 3)))))) (bB (bW (kH (gU g.calm (gG (N:=["_law_row","_law_order_here"]) (cap:=[none,some 0]) (os:=(aX vE)) (oN:=Aq)) (mJ (aD 1)) (λ_ _ _=>(cC (i:=0) OE)) (λ_ _ _=>(kJ (kN (cZ g) (kH (gU (cZ g).calm (gG (N:=["_law_a","_law_b","_law_row"]) (cap:=[none,none,some 0]) (os:={ kind:=.function,names:=[(".0",.local),("_law_row",.cell),("_law_order_here",.cell)],isGenerator:=false,isCoroutine:=false }) (oN:=["_law_row","_law_order_here"])) (pD (cR (aD 1) bA)) (λ_ _ _=>(jF (cZ (cZ g)).calm (eG (cC (i:=0) zK) (eG (cC (i:=1) zK) jE)))) (λ_ _ _=>(kJ (Y7 (uO (aD 2) (aD 0)) (uO (aD 2) (aD 1))))) (λ_ _ _=>bA))) (gC aO)))) (λ_ _ _=>(aD 0))))))))
theorem z2c:Ay ["_law_order_here","_law_found","_law_a","_law_b"] ["_law_order_here"] (aX EJ):=dC
theorem OI (T:Tx K mg G A):Bd P w K mg base (bR P w base) 1 A.f_qk A.fd_qk ["_law_order_here"] (cN G F_qk):=dI (k:=0) T.F_qk z2c T.hK λ_ _ _ _ _ _ _ g=>(bC (cV (i:=1) ET (gC aO)) (bC (jR g.own g.calm (lF rfl T.z_range (aG (cR (aD 0) bA) aO)) (cC (i:=2) ET) (bB (jR g.own g.calm (JU rfl T.z_range (aG (iE (aD 2) bA) (aG (cR (aD 0) bA) aO))) (cC (i:=3) ET) (bB (dW (F' (tO (mQ g (gF (aG (aD 2) (aG (aD 3) aO))) (cR (aD 0) bA)) (tN (mQ g (gF (aG (aD 3) (aG (aD 2) aO))) (cR (aD 0) bA))))) (bB (pA (xN (aD 1) (gF (aG (aD 2) (aG (aD 3) aO)))))) dU))))) (bB (bW (aD 1)))))
theorem z2d:Ay ["_law_order_here","_law_row"] ["_law_order_here","_law_row"] (aX zG):=dC
theorem z2e (T:Tx K mg G A):Bd P w K mg base (bR P w base) 2 A.f_qx A.fd_qx ["_law_order_here","_law_row"] (cN G F_qx):=dI (k:=1) T.F_qx z2d T.hK λ_ _ _ _ _ _ _ g=>(bB (bW (Z1 g.calm rfl T.z_max (aG (iE (pT 2) (kH (gU g.calm (gG (N:=["_law_a","_law_b","_law_row"]) (cap:=[none,none,some 1]) (os:=(aX zG)) (oN:=["_law_order_here","_law_row"])) (mJ (cM g (OI T) T.m_qk T.F_qk.kp T.B_qk (aG (aD 0) aO))) (λ_ _ _=>(jF (cZ g).calm (eG (cC (i:=0) zK) (eG (cC (i:=1) zK) jE)))) (λ_ _ _=>nY) (λ_ _ _=>(WM rfl T.z_abs (aG (oA (uO (aD 2) (aD 0)) (uO (aD 2) (aD 1))) aO)))))) aO))))
theorem z2f:Ay ["_law_thing"] ["_law_thing"] (aX EK):=dC
theorem OJ (T:Tx K mg G A):Bd P w K mg base (bR P w base) 1 A.f_qp A.fd_qp ["_law_thing"] (cN G F_qp):=dI (k:=0) T.F_qp z2f T.hK λ_ _ _ _ _ _ _ g=>(bB (bW (kF (LO rfl T.z_isinstance rfl T.z_int (aD 0)) (kZ (BI (xX rfl T.z_isinstance rfl T.z_bool (aD 0)))))))
theorem z2g:Ay ["_law_order_here","_law_row","_law_left"] ["_law_order_here","_law_row"] (aX vF):=dC
theorem z2h (T:Tx K mg G A):Bd P w K mg base (bR P w base) 1 A.f_qd A.fd_qd ["_law_order_here","_law_row"] (cN G F_qd):=dI (k:=0) T.F_qd z2g T.hK λ_ _ _ _ _ _ _ g=>(bC (c8 (i:=2) z0z rfl g.calm (gG (N:=["_law_thing","_law_row"]) (cap:=[none,some 1]) (os:=(aX vF)) (oN:=["_law_order_here","_law_row","_law_left"])) (lF rfl T.z_range (aG (cR (aD 0) bA) aO)) (λ_ _ _=>(cC (i:=0) OD)) (λ_ _ _=>(kJ (mQ (cZ g) (aD 0) (aD 1)))) (λ_ _ _=>(aD 0))) (bB (bW (kH (gU g.calm (gG (N:=["_law_thing","_law_order_here","_law_row"]) (cap:=[none,some 0,some 1]) (os:=(aX vF)) (oN:=["_law_order_here","_law_row","_law_left"])) (mJ (aD 2)) (λ_ _ _=>(cC (i:=0) z10)) (λ_ _ _=>(kJ (kN (cZ g) (kH (gU (cZ g).calm (gG (N:=["_law_a","_law_b","_law_thing","_law_row"]) (cap:=[none,none,some 0,some 2]) (os:={ kind:=.function,names:=[(".0",.local),("_law_thing",.cell),("_law_order_here",.cell),("_law_row",.cell)],isGenerator:=false,isCoroutine:=false }) (oN:=["_law_thing","_law_order_here","_law_row"])) (pD (cR (aD 1) bA)) (λ_ _ _=>(jF (cZ (cZ g)).calm (eG (cC (i:=0) OF) (eG (cC (i:=1) OF) jE)))) (λ_ _ _=>(kJ (F' (tO (kN (cZ (cZ g)) (aD 1) (aD 2)) (tN (mQ (cZ (cZ g)) (aD 0) (aD 3))))))) (λ_ _ _=>(aD 0)))) (gC aO)))) (λ_ _ _=>(aD 0)))))))
theorem z2i:Ay ["_law_order_here","_law_a","_law_b"] ["_law_order_here","_law_a","_law_b"] (aX EL):=dC
theorem z2j (T:Tx K mg G A):Bd P w K mg base (bR P w base) 2 A.f_qu A.fd_qu ["_law_order_here","_law_a","_law_b"] (cN G F_qu):=dI (k:=1) T.F_qu z2i T.hK λ_ _ _ _ _ _ _ g=>(bB (bW (L0 g (gF (aG (JR g.calm rfl T.z_min (aG (aD 1) (aG (aD 2) aO))) (aG (tS g.calm rfl T.z_max (aG (aD 1) (aG (aD 2) aO))) aO))) (cM g (OI T) T.m_qk T.F_qk.kp T.B_qk (aG (aD 0) aO)))))
theorem z2k:Ay Ap Ap (aX EM):=dC
theorem z2l (T:Tx K mg G A):Bd P w K mg base (bR P w base) 3 A.f_q4 A.fd_q4 Ap (cN G F_q4):=dI (k:=2) T.F_q4 z2k T.hK λ_ _ _ _ _ _ _ g=>(bC (dW (F' (iS (hZ (fU (cM g (OJ T) T.m_qp T.F_qp.kp T.B_qp (aG (aD 2) aO)))) (iS (hZ (fU (cM g (OJ T) T.m_qp T.F_qp.kp T.B_qp (aG (aD 3) aO)))) (iS (mQ g (aD 2) (aD 4)) (iS (a9 g (aD 3) (aD 4)) (mF (hZ (ZA bA (aD 3) (cR (aD 0) bA))))))))) (bB (bW gB)) dU) (bB (bW (kF (cM g (z2j T) T.m_qu T.F_qu.kp T.B_qu (aG (aD 0) (aG (aD 2) (aG (aD 3) aO)))) (kZ (Y4 (oA (oA (jW rfl T.z_len (aG (aD 4) aO)) bA) (uO (aD 4) (aD 2))) (aD 1)))))))
theorem z2m:Ay As Au (aX EN):=dC
theorem OK (T:Tx K mg G A):∀n,Bd P w K mg base (bR P w base) (3+1*n) A.f_qm A.fd_qm Au (cN G (F_qm n))
 |0=>CJ
 |n+1=>by have okS:=OK T n;exact dI (k:=3+1*n+0) (N:=As) (mb:=yV (F_qm n)) T.F_qm z2m T.hK λ_ _ _ _ _ _ _ g=>(bC (dW (F' (iS (hZ (fU (qM rfl T.z_isinstance rfl T.z_tuple (aD 2)))) (iS (kN g (aD 2) (gF aO)) (mF (hZ (fU (ZM rfl T.z_isinstance rfl T.z_str (cR (aD 2) bA)))))))) (bB (bW gB)) dU) (bC (dW (kN g (cR (aD 2) bA) oX) (bB (bW (kF (oC g (jW rfl T.z_len (aG (aD 2) aO)) bA) (kZ z0n)))) dU) (bC (dW (kN g (cR (aD 2) bA) oX) (bB (bW (kF (oC g (jW rfl T.z_len (aG (aD 2) aO)) bA) (kZ (pE g (z2l T) (by omega) rfl T.m_q4 T.F_q4.kp T.B_q4 (aG (aD 0) (aG (aD 1) (aG (cR (aD 2) bA) (aG (cR (aD 2) bA) (aG (aD 3) aO)))))))))) dU) (bC (cV (i:=4) EU (pE g (z2h T) (by omega) rfl T.m_qd T.F_qd.kp T.B_qd (aG (aD 0) (aG (aD 3) aO)))) (bC (dW (F' (iS (lL g (cR (aD 2) bA) oX) (iS (lL g (jW rfl T.z_len (aG (aD 2) aO)) bA) (mF (hZ (fU (qM rfl T.z_isinstance rfl T.z_tuple (cR (aD 2) bA)))))))) (bB (bW gB)) dU) (bC (dW (F' (iS (kN g (aD 4) (gC aO)) (mF (lL g (jW rfl T.z_len (aG (aD 4) aO)) (jW rfl T.z_len (aG (cR (aD 2) bA) aO)))))) (bB (bW gB)) dU) (bC (jR g.own g.calm (z0m rfl T.z_zip (aG (cR (aD 2) bA) (aG (aD 4) aO))) (jF g.calm (eG (cC (i:=5) EU) (eG (cC (i:=6) EU) jE))) (bB (dW (hZ (fU (pE g okS (aj _) rfl T.m_qm T.F_qm.kp T.B_qm (aG (aD 0) (aG (aD 1) (aG (aD 5) (aG (iE (aD 3) (gF (aG (aD 6) aO))) aO))))))) (bB (bW gB)) dU))) (bB (bW gB)))))))))
theorem z2n:Ay ["_law_state_here","_law_some"] ["_law_state_here"] (aX EO):=dC
theorem z2o (T:Tx K mg G A):Bd P w K mg base (bR P w base) 2 A.f_qb A.fd_qb ["_law_state_here"] (cN G F_qb):=z0g (k:=1) T.F_qb z2n T.hK λ_ _ _ _ _ _ _ g=>(DN (z0f 5 (i:=1) EV rfl (by first|exact .inl rfl|exact .inr rfl)) (DN (N1 5 (i:=1) EV rfl (by first|exact .inl rfl|exact .inr rfl) (aD 1)) (DN (N1 5 (i:=1) EV rfl (by first|exact .inl rfl|exact .inr rfl) (aD 1)) (z0e (SW.mk (bW (cR (aD 1) (cM g (mV T) T.m_qy T.F_qy.kp T.B_qy (aG (aD 0) (aG bA aO))))))))))
theorem z2p:Ay ["_law_found","_law_due"] ["_law_found","_law_due"] (aX zH):=dC
theorem OL (T:Tx K mg G A):∀n,Bd P w K mg base (bR P w base) n A.f_qw A.fd_qw ["_law_found","_law_due"] (cN G (F_qw n))
 |0=>CJ
 |n+1=>by have okS:=OL T n;exact dI (N:=["_law_found","_law_due"]) (mb:=gN (F_qw n)) T.F_qw z2p T.hK λ_ _ _ _ _ _ _ g=>(bC (dW (fU (ZO rfl T.z_isinstance rfl T.z_tuple rfl T.z_list (aD 1))) (bC (dW (F' (iS (lL g (qM rfl T.z_isinstance rfl T.z_tuple (aD 0)) (qM rfl T.z_isinstance rfl T.z_tuple (aD 1))) (mF (lL g (LP rfl T.z_isinstance rfl T.z_list (aD 0)) (LP rfl T.z_isinstance rfl T.z_list (aD 1)))))) (bB (bW gB)) dU) (bC (dW (lL g (jW rfl T.z_len (aG (aD 0) aO)) (jW rfl T.z_len (aG (aD 1) aO))) (bB (bW gB)) dU) (bB (bW (tZ g.calm rfl T.z_all (gU g.calm (gG (N:=["_law_one","_law_other"]) (cap:=[none,none]) (os:=(aX zH)) (oN:=["_law_found","_law_due"])) (KS rfl T.z_zip (aG (aD 0) (aG (aD 1) aO))) (λ_ _ _=>(jF (cZ g).calm (eG (cC (i:=0) OG) (eG (cC (i:=1) OG) jE)))) (λ_ _ _=>nY) (λ_ _ _=>(pE (cZ g) okS (aj _) rfl T.m_qw T.F_qw.kp T.B_qw (aG (aD 0) (aG (aD 1) aO)))))))))) dU) (bB (bW (kF (oC g (aD 0) (aD 1)) (kZ (oC g (xX rfl T.z_isinstance rfl T.z_bool (aD 0)) (xX rfl T.z_isinstance rfl T.z_bool (aD 1))))))))
theorem z2q:Ay ["_law_call","_law_error","e","_law_marks"] ["_law_call"] (aX qT):=dC
theorem z2r {k:Nat}(T:Tx K mg G A) (cdv:af) (Ar:bu) (outer:List Env) (s:ag) (H:Hp) (E₀ E:XK) (g:Good (gJ (bR P w base) P w K mg base ["_law_call","_law_error","e","_law_marks"] "_law_refused" (aX qT) A.f_qf cdv Ar outer s H E₀) G E k):jQ (gJ (bR P w base) P w K mg base ["_law_call","_law_error","e","_law_marks"] "_law_refused" (aX qT) A.f_qf cdv Ar outer s H E₀) G E ((jN qT).drop 2) kR:=(bC (cV (i:=3) zL (gC (aG (lN rfl T.z_isinstance rfl T.n_NoOrder (aD 1) (λ_ h=>by cases h) T.kt0) (aG (lN rfl T.z_isinstance rfl T.n_NoNumber (aD 1) (λ_ h=>by cases h) T.kt1) (aG (lN rfl T.z_isinstance rfl T.n_NoPairs (aD 1) (λ_ h=>by cases h) T.kt2) aO))))) (bC (cV (i:=3) zL (iE (aD 3) (gC (aG (lN rfl T.z_isinstance rfl T.n_Round (aD 1) (λ_ h=>by cases h) T.kt3) (aG (lN rfl T.z_isinstance rfl T.n_NoThing (aD 1) (λ_ h=>by cases h) T.kt4) (aG (lN rfl T.z_isinstance rfl T.n_NoRow (aD 1) (λ_ h=>by cases h) T.kt5) aO)))))) (bC (cV (i:=3) zL (iE (aD 3) (gC (aG (lN rfl T.z_isinstance rfl T.n_TooMany (aD 1) (λ_ h=>by cases h) T.kt6) (aG (lN rfl T.z_isinstance rfl T.n_TooFew (aD 1) (λ_ h=>by cases h) T.kt7) (aG (lN rfl T.z_isinstance rfl T.n_NoText (aD 1) (λ_ h=>by cases h) T.kt8) aO)))))) (bC (cV (i:=3) zL (iE (aD 3) (gC (aG (lN rfl T.z_isinstance rfl T.n_NoLine (aD 1) (λ_ h=>by cases h) T.kt9) (aG (lN rfl T.z_isinstance rfl T.n_NoDeed (aD 1) (λ_ h=>by cases h) T.kt10) aO))))) (bC (dW (hZ (fU (ZP rfl T.z_isinstance rfl T.z_ValueError (aD 1) (λ_ h=>by cases h) T.ktV))) (bB (bW lZ)) dU) (bB (bW (kH (gU g.calm (gG (N:=["_law_k","_law_marks"]) (cap:=[none,some 3]) (os:=(aX qT)) (oN:=["_law_call","_law_error","e","_law_marks"])) (lF rfl T.z_range (aG bA aO)) (λ_ _ _=>(cC (i:=0) z11)) (λ_ _ _=>(kJ (fU (cR (aD 1) (aD 0))))) (λ_ _ _=>(aD 0)))))))))))
theorem OM {k:Nat}{Nl:Aj}{params:mm}{body:bj}{scope:gu}{me:M Dv}(T:Tx K mg G A) (LS:Bu Nl scope) (hb:∀(cl:List (Str×ah)) (pm cdv ct:af),bindArgs (pz "<lambda>" G.lq params body scope cl pm cdv ct) ⟨[],[]⟩=pure [])
  (Br:∀(f:ah) (cdv:af) (cl:List (Str×ah)) (A:bu) (outer:List Env) (s:ag) (H:Hp) (E₀ E:XK),Good (jT P w K mg base Nl G.lq scope f cdv cl A outer s H E₀) G E k->aJ (jT P w K mg base Nl G.lq scope f cdv cl A outer s H E₀) G E body me):
  Bd P w K mg base (bR P w base) (k+2) A.f_qf A.fd_qf ["_law_call"] (xR G base Nl params body scope me 4 11 kR):=
 YF T.F_qf z2q T.hK rfl rfl rfl rfl rfl rfl rfl (by decide) (by decide) (by decide) (by decide) (by decide) (λ_ _=>rfl) (λ_ _=>rfl) (λ_ _=>rfl) rfl T.n_NearError T.e1 T.e2 T.e3 T.e4 LS hb Br (z2r T)
theorem z2s:Ay An ["_law_script"] (aX rY):=dC
theorem z2t (T:Tx K mg G A) (hT:∀μ n H k t a,G.clo μ n H k t a) (hC:lx base A.cc A.P) (hB:mM mg base):Bd P w K mg base (bR P w base) 24 A.f_qB A.fd_qB ["_law_script"] (cN G (F_qB G.scr)):=ZQ (k:=23) (N:=An) (mb:=yZ G.scr) T.F_qB z2s T.hK λcdv Ar outer s H E₀ E hcd g=>(bC (jR g.own g.calm (lF rfl T.z_range (aG (tS g.calm rfl T.z_max (aG bA (aG (JR g.calm rfl T.z_min (aG (JO rfl T.z_len (aG (aD 0) aO)) (aG bA aO))) aO))) aO)) (cC (i:=1) pU) (bC (cV (i:=2) pU (cM g (z22 T) T.m_qn T.F_qn.kp T.B_qn (aG (aD 0) (aG (aD 1) aO)))) (bC (cV (i:=3) pU (cM g (z29 T) T.m_ql T.F_ql.kp T.B_ql (aG (aD 2) (aG bA aO)))) (bC (cV (i:=4) pU (Z2 g.calm rfl T.z_min (aG (kH (gU g.calm (gG (N:=["_law_row","_law_order_here"]) (cap:=[none,some 3]) (os:=(aX rY)) (oN:=An)) (mJ (cM g (z2b T) T.m_qv T.F_qv.kp T.B_qv (aG (aD 3) aO))) (λ_ _ _=>(cC (i:=0) OE)) (λ_ _ _=>nY) (λ_ _ _=>(cM (cZ g) (z2e T) T.m_qx T.F_qx.kp T.B_qx (aG (aD 1) (aG (aD 0) aO)))))) aO))) (bC (jR g.own g.calm (mJ (gC (aG (tS g.calm rfl T.z_max (aG bA (aG (oA (aD 4) bA) aO))) (aG (tS g.calm rfl T.z_max (aG bA (aG (oA (aD 4) bA) aO))) (aG (aD 4) (aG (cM g (mV T) T.m_qy T.F_qy.kp T.B_qy (aG (aD 2) (aG bA aO))) aO)))))) (cC (i:=5) pU) (bC (cV (i:=6) pU (cM g (zM T) T.m_q3 T.F_q3.kp T.B_q3 (aG (aD 3) (aG (aD 5) aO)))) (bC (dW (F' (iS (lL g (b9 (aD 6) lZ) (Y2 (aD 4) (aD 5))) (mF (hZ (fU (cM g (OL T 20) T.m_qw T.F_qw.kp T.B_qw (aG (cM g (zM T) T.m_q3 T.F_q3.kp T.B_q3 (aG (aD 3) (aG (aD 5) aO))) (aG (aD 6) aO)))))))) (bB (bW gB)) dU) (bB (dW (F' (tO (L7 (aD 6) lZ) (tN (hZ (fU (cM g (OK T 8) T.m_qm T.F_qm.kp T.B_qm (aG (aD 3) (aG (aD 5) (aG (aD 6) (aG (gF aO) aO)))))))))) (bB (bW gB)) dU))))) (bC (cV (i:=7) pU (cR (gC (aG (CI bA) (aG bA (aG gB (aG lZ (aG oX (aG (pT 2) aO))))))) (cM g (mV T) T.m_qy T.F_qy.kp T.B_qy (aG (aD 2) (aG bA aO))))) (bC (cV (i:=8) pU (cM g (z2o T) T.m_qb T.F_qb.kp T.B_qb (aG (aD 2) aO))) (bC (dW (lL g (LQ (Nl:=["_law_order_here","_law_bad"]) (caps:=[3,7]) (me:=yW) (os:=aX rY) (oN:=An) g (j:=20+2) (by decide) (λ_=>rfl) (λbase _ _=>OM (k:=20) T ⟨rfl,rfl,rfl,by decide +kernel,by decide +kernel,by decide +kernel⟩ (λ_ _ _ _=>rfl) (λ_ _ _ _ _ _ _ _ _ g=>(cM g (zM T) T.m_q3 T.F_q3.kp T.B_q3 (aG (aD 0) (aG (aD 1) aO))))) rfl T.m_qf T.F_qf.kp T.B_qf rfl T.lq T.tab (hcd.symm.trans T.code) hC hB ⟨rfl,rfl,rfl,by decide +kernel,by decide +kernel,by decide +kernel⟩ rfl rfl (by decide +kernel) rfl (by decide +kernel)) (pT 2)) (bB (bW gB)) dU) (bB (dW (lL g (LQ (Nl:=["_law_none","_law_bad"]) (caps:=[8,7]) (me:=yX) (os:=aX rY) (oN:=An) g (j:=20+2) (by decide) (λ_=>rfl) (λbase _ _=>OM (k:=20) T ⟨rfl,rfl,rfl,by decide +kernel,by decide +kernel,by decide +kernel⟩ (λ_ _ _ _=>rfl) (λ_ _ _ _ _ _ _ _ _ g=>(cM g (zM T) T.m_q3 T.F_q3.kp T.B_q3 (aG (aD 0) (aG (aD 1) aO))))) rfl T.m_qf T.F_qf.kp T.B_qf rfl T.lq T.tab (hcd.symm.trans T.code) hC hB ⟨rfl,rfl,rfl,by decide +kernel,by decide +kernel,by decide +kernel⟩ rfl rfl (by decide +kernel) rfl (by decide +kernel)) (pT 2)) (bB (bW gB)) dU)))))))))) (bB (bW gB)))
end
end L2.Mr.K09
namespace L2.Mr.K10
open L2.Mr.Com
def mU:MS:=(aH (aL (m2 aN (aA 0) (mC (.int 1))) (aE 3)) (aM (cP (m2 cJ (aA 1) (aA 2)) (cP (m2 (bP true) (aK (aB (aA 1) (aB (aA 2) aC))) (aA 3)) (m2 (bP true) (aK (aB (aA 2) (aB (aA 1) aC))) (aA 3))))))
def F_qz:Ak:=aV 3 4 (mU)
def qR:MS:=(aH (aL (aA 0) (cH 2 (aY (aE 2) (aY (aE 3) cK)))) (aH (aL (bU (bT (bK fI (aA 3)) [none,none,some 1] (cH 2 (aY (aE 0) (aY (aE 1) cK))) (mB (m2 (bP true) (aA 0) (aA 2))) (bM (aA 1)))) (aE 4)) (aM (bU (bT (aR cQ (aB (aA 2) aC)) [none,some 1,some 4] (aE 0) (eC (mB (m2 (bP true) (aA 0) (aA 1))) (mB (m2 (bP true) (aA 0) (aA 2)))) (bM (aA 0)))))))
def F_q8:Ak:=aV 2 5 (qR)
def DR:MS:=(aH (aW (mB (m2 fP (aF (f1 cF) (aB (aA 2) aC)) (aA 1))) (aM (mC .non)) bE) (aH (aL (m2 aN (aA 2) (m2 eI (m1 lJ (mC (.int 1))) (aA 1))) (aE 3)) (aH (cU (aR cQ (aB (m2 aN (aA 0) (mC (.int 0))) aC)) (aE 4) (aW (eC (mB (m2 (bP true) (aA 4) (aA 2))) (bN (aF F_qz (aB (aA 0) (aB (aA 3) (aB (aA 4) aC)))))) (aM (aK (aB (mC (.str "far")) (aB (aA 3) (aB (aA 4) aC))))) bE)) (aM (mC .non)))))
def F_q9:Ak:=aV 3 5 (DR)
def mb_qt (Fs:Ak):MS:=(aH (aL (aF F_q9 (aB (aA 0) (aB (aA 1) (aB (aA 2) aC)))) (aE 3)) (aH (aW (cO (mB (m2 (fW true) (aA 3) (mC .non))) (mB (m2 bD (aF (f1 cF) (aB (aA 2) aC)) (m2 aN (aA 0) (mC (.int 0)))))) (aM (aA 3)) bE) (aH (aL (aS aC) (aE 4)) (aH (cU (bK cB (aF F_q8 (aB (aA 0) (aB (aA 2) aC)))) (aE 5) (aH (aL (aF Fs (aB (aA 0) (aB (aA 1) (aB (m2 bO (aA 2) (aK (aB (aA 5) aC))) aC)))) (aE 6)) (aH (aW (mB (m2 (fW false) (aA 6) (mC .non))) (aM (mC .non)) bE) (cX (gX (aA 4) (aA 6)))))) (aM (aK (aB (mC (.str "next")) (aB (aF (f1 iT) (aB (aA 4) aC)) aC))))))))
def F_qt:Nat->Ak
 |0=>λ_ _=>.bad
 |n+1=>aV 3 7 (mb_qt (F_qt n))
end L2.Mr.K10
namespace L2.Mr
section
variable{X:Cx}{G:Cfg}{E:XK}{c P:ah}{lpos:Pos}{k t:Nat}
end
section
variable{G:Cfg}{env:Env}{t0:Nat}{ls:Nat->Option Lm}{μ:Nat->ah}{h:Hs}{H:Hp}
end
section
variable{P:bh}{w:cm}{K:aq}{mg:Str->Option af}{base:cu}{N:Aj}{f:ah}{G:Cfg}{k:Nat}{ls:Nat->Option Lm}
end
section
variable{G:Cfg}
end
section
variable{X:Cx}{G:Cfg}{E:XK}{k:Nat}{q x y:Str}{p p2 py pos ps:Pos}{fr:ah}{fdr:bo}{n ncl j t:Nat}{mb:MS}{ls:Nat->Option Lm}{lc:Nat->Option (Ai×M Dv)}{sc:gu}{iter:bj}{mi:M Src}
end
section
variable{X:Cx}{G:Cfg}{E:XK}{a b:bj}{elts:List bj}{kk:Nat}{tp p pos:Pos}{ta:TA}{ms:M Al }
end
open PySem.Calls
section
variable{X:Cx}{G:Cfg}{E:XK}{o e i:bj}{mo me mi:M Dv}{ml:M Al }{pos apos cpos:Pos}
end
section
variable{X:Cx}{G:Cfg}{E:XK}{c P:ah}{lpos:Pos}{k t:Nat}{ls:Nat->Option Lm}{os:gu}{oN:Aj}
variable{q x y:Str}{p p2 py pos ps:Pos}{fr:ah}{fdr:bo}{n ncl j:Nat}{mb:MS}{lc:Nat->Option (Ai×M Dv)}{sc:gu}{iter:bj}{mi:M Src}
end
end L2.Mr
namespace L2.Mr.Sam
open L2.Mr.Com hiding F_qw gN
end L2.Mr.Sam
namespace L2.Mr
section
variable{X:Cx}{G:Cfg}{E:XK}{a b e o:bj}{ma mb me mo:M Dv}{pos p cpos apos:Pos}
end
section
variable{X:Cx}{G:Cfg}{E:XK}{a b c e o:bj}{ma mb me mo:M Dv}{mt:M Bool}{pos p2:Pos}
end
section
variable{X:Cx}{G:Cfg}{E:XK}{e o:bj}{me mo:M Dv}{cpos apos:Pos}
end
section
variable{X:Cx}{G:Cfg}{E:XK}{e:bj}{es:List bj}{aR:M Al }{p pos:Pos}
end
section
variable{X:Cx}{G:Cfg}{E:XK}{pos:Pos}
end
section
variable{X:Cx}{G:Cfg}{E:XK}{e:bj}{mo me:M Dv}{apos cpos np:Pos}{y:Str}
end
end L2.Mr
namespace L2.Mr.K06
open L2.Mr.Com hiding F_qw gN
open L2.Mr.Sam
end L2.Mr.K06
namespace L2.Mr.K05
open L2.Mr.Com
def qQ:MS:=(aW (cD (bN (aF F_q5 (aB (aA 0) aC)))) (tX 0 (aB (mC (.str "this is no order")) aC)) bE)
def F_qs:Ak:=aV 1 1 (qQ)
def mU:MS:=(aH (aL (m2 aN (aA 0) (mC (.int 1))) (aE 3)) (aM (cP (m2 cJ (aA 1) (aA 2)) (cP (m2 (bP true) (aK (aB (aA 1) (aB (aA 2) aC))) (aA 3)) (m2 (bP true) (aK (aB (aA 2) (aB (aA 1) aC))) (aA 3))))))
def F_qz:Ak:=aV 3 4 (mU)
def qS:MS:=(aH (aL (aS aC) (aE 1)) (aH (cU (aR cQ (aB (m2 aN (aA 0) (mC (.int 0))) aC)) (aE 2) (cU (aR jG (aB (m2 bO (aA 2) (mC (.int 1))) (aB (m2 aN (aA 0) (mC (.int 0))) aC))) (aE 3) (aW (eC (mB (m2 (bP true) (aK (aB (aA 2) (aB (aA 3) aC))) (m2 aN (aA 0) (mC (.int 1))))) (mB (m2 (bP true) (aK (aB (aA 3) (aB (aA 2) aC))) (m2 aN (aA 0) (mC (.int 1)))))) (cX (gX (aA 1) (aK (aB (aA 2) (aB (aA 3) aC))))) bE))) (aM (aA 1))))
def F_qk:Ak:=aV 1 4 (qS)
def vB:MS:=(aM (aF (f1 (jX gM)) (aB (m2 bO (aS (aB (mC (.int 0)) aC)) (bU (bT (bK cB (aF F_qk (aB (aA 0) aC))) [none,none,some 1] (cH 2 (aY (aE 0) (aY (aE 1) cK))) eK (bM (aF (f1 oY) (aB (m2 eI (eY (aA 2) (aA 0)) (eY (aA 2) (aA 1))) aC)))))) aC)))
def F_qx:Ak:=aV 2 2 (vB)
end L2.Mr.K05
namespace L2.Mr.K04
open L2.Mr.Com hiding F_qw gN
open L2.Mr.Sam
def qR:MS:=(aH (aL (aA 0) (cH 2 (aY (aE 2) (aY (aE 3) cK)))) (aH (aL (bU (bT (bK fI (aA 3)) [none,none,some 1] (cH 2 (aY (aE 0) (aY (aE 1) cK))) (mB (m2 (bP true) (aA 0) (aA 2))) (bM (aA 1)))) (aE 4)) (aM (bU (bT (aR cQ (aB (aA 2) aC)) [none,some 1,some 4] (aE 0) (eC (mB (m2 (bP true) (aA 0) (aA 1))) (mB (m2 (bP true) (aA 0) (aA 2)))) (bM (aA 0)))))))
def F_q8:Ak:=aV 2 5 (qR)
def vA:MS:=(aH (aL (aS (aB (aK aC) aC)) (aE 1)) (aH (cU (aR cQ (aB (m2 aN (aA 0) (mC (.int 0))) aC)) (aE 2) (aH (aL (aS aC) (aE 3)) (aH (cU (bK cB (aA 1)) (aE 4) (aL (m2 bO (aA 3) (bU (bT (aR cQ (aB (m2 aN (aA 0) (mC (.int 0))) aC)) [none,some 4] (aE 0) (mB (m2 (bP true) (aA 0) (aA 1))) (bM (m2 bO (aA 1) (aK (aB (aA 0) aC))))))) (aE 3))) (aL (aA 3) (aE 1))))) (aM (bU (bT (bK cB (aA 1)) [none,some 0] (aE 0) (mB (m2 bD (bU (bT (bK fI (m2 aN (aA 1) (mC (.int 1)))) [none,none,some 0] (cH 2 (aY (aE 0) (aY (aE 1) cK))) (mB (m2 kM (eY (aA 2) (aA 0)) (eY (aA 2) (aA 1)))) (bM (mC (.int 1))))) (aS aC))) (bM (aA 0)))))))
def F_qv:Ak:=aV 1 5 (vA)
end L2.Mr.K04
namespace L2.Mr
section
variable{H:Hs}{j:Nat}{up up1:Ah}{b v:Int}{ρ:Ev}{x:Nat}
end
section
variable{d:Dv}{r:Int}{i j:Nat}{fs:Ah}
end
theorem ON:∀xs ys:Ah,fS (xs.map Fx) (ys.map Fx)=decide (xs=ys)
 | [],[]=>by simp[fS]
 | [],y::ys=>by simp[fS]
 |x::xs,[]=>by simp[fS]
 |x::xs,y::ys=>by simp only[dk,fS,ON xs ys,bI];rw[cz];simp
theorem eq_ints {H:Hs}{i j:Nat}{xs ys:Ah}(ei:getL H i=some (xs.map Fc)) (ej:getL H j=some (ys.map Fc)):bD (.ref i) (.ref j) H=.ok (.bl (decide (xs=ys))) H:=by
 have p:∀(i:Nat) (xs:Ah),getL H i=some (xs.map Fc)->bQ bY H (.ref i)=some (.lst (xs.map Fx)):=λi xs e=>by show bQ (28+1+1) H (.ref i)=_;rw[bQ];simp only[e,uQ]
 unfold bD;rw[p i xs ei,p j ys ej];simp only[bI,ON]
section
variable{d:Dv}{n r:Int}{ps qs:wo}{Fl:Ak}
end
theorem zN {α:Type}{src:Src}{sg:dP}{t:M Bool}{m:MC}(xs:List α) (out:α->Al) (S:Ev->Hs->Prop)
  (fin:∀ρ h,S ρ h->src.fin h=true)
  (step:∀k (hk:k<xs.length) ρ h,S ρ h->∃d ρ1,src.get k h=some d/\sg d ρ=some ρ1 /\
   ((∃h2,t ρ1 h=.ok false h2/\out xs[k]=[]/\S ρ1 h2)∨∃h2,t ρ1 h=.ok true h2/\∀acc:Al,acc.length+(out xs[k]).length<=900000->∃ρ3 h3,m ρ1 h2 acc=.ok (ρ3,acc++out xs[k]) h3/\S ρ3 h3)):
  ∀(f k:Nat) (ρ:Ev) (h:Hs) (acc:Al),f+k=xs.length->S ρ h->acc.length+((xs.drop k).flatMap out).length<=900000->∃ρ' h',gS src sg t m f k ρ h acc=.ok (ρ',acc++(xs.drop k).flatMap out) h'/\S ρ' h'
 |0,k,ρ,h,acc,e,s,hl=>by have:xs.drop k=[]:=List.drop_eq_nil_of_le (by omega);exact⟨ρ,h,by simp[gS,fin ρ h s,this],s⟩
 |f+1,k,ρ,h,acc,e,s,hl=>by
  have hk:k<xs.length:=by omega
  obtain⟨d,ρ1,e1,e2,e3⟩:=step k hk ρ h s;rw[yg hk,iq]at hl ⊢;rw[bq]at hl
  rcases e3 with⟨h2,e3,e4,s2⟩|⟨h2,e3,e4⟩
  ·obtain⟨ρ',h',e5,s5⟩:=zN xs out S fin step f (k+1) ρ1 h2 acc (by omega) s2 (by omega);exact⟨ρ',h',by simp[gS,e1,e2,e3,e4,e5],s5⟩
  ·obtain⟨ρ3,h3,e6,s3⟩:=e4 acc (by omega);obtain⟨ρ',h',e5,s5⟩:=zN xs out S fin step f (k+1) ρ3 h3 (acc++out xs[k]) (by omega) s3 (by rw[bq];omega);exact⟨ρ',h',by simp[gS,e1,e2,e3,e6,e5],s5⟩
theorem vG {α:Type}{mi:M Src}{cap:List (Option Nat)}{src:Src}{sg:dP}{t:M Bool}{m:MC}{ρ:Ev}{H H1:Hs}(xs:List α) (out:α->Al) (S:Ev->Hs->Prop)
  (hi:mi ρ H=.ok src H1) (hn:src.n=xs.length) (s0:S (jS cap ρ) H1) (fin:∀ρ h,S ρ h->src.fin h=true)
  (step:∀k (hk:k<xs.length) ρ h,S ρ h->∃d ρ1,src.get k h=some d/\sg d ρ=some ρ1 /\
   ((∃h2,t ρ1 h=.ok false h2/\out xs[k]=[]/\S ρ1 h2)∨∃h2,t ρ1 h=.ok true h2/\∀acc:Al,acc.length+(out xs[k]).length<=900000->∃ρ3 h3,m ρ1 h2 acc=.ok (ρ3,acc++out xs[k]) h3/\S ρ3 h3))
  (hl:(xs.flatMap out).length<=900000):∃ρ' H',bT mi cap sg t m ρ H=.ok (xs.flatMap out) H'/\S ρ' H':=by
 obtain⟨ρ',h',e,s⟩:=zN xs out S fin step xs.length 0 (jS cap ρ) H1 [] (by omega) s0 (by simpa using hl);refine⟨ρ',h', ?_,s⟩;unfold bT;rw[hi,Rs.bind_ok,hn,e];simp
theorem vH {e:M Dv}{ρ:Ev}{h h1:Hs}{d:Dv}{acc:Al}(he:e ρ h=.ok d h1) (hl:acc.length+[d].length<=900000):bM e ρ h acc=.ok (ρ,acc++[d]) h1:=by
 have:acc.length<1000000:=by simp at hl;omega
 simp[bM,he,this]
theorem iG {α:Type}{mi:M Src}{cap:List (Option Nat)}{src:Src}{sg:dP}{t:M Bool}{e:M Dv}{ρ:Ev}{H H1:Hs}(xs:List α) (g:α->Am) (S:Ev->Prop)
  (hi:mi ρ H=.ok src H1) (hn:src.n=xs.length) (s0:S (jS cap ρ)) (fin:src.fin H1=true)
  (step:∀k (hk:k<xs.length) ρ,S ρ->∃d ρ1,src.get k H1=some d/\sg d ρ=some ρ1/\S ρ1/\match g xs[k]with
   |none=>t ρ1 H1=.ok false H1
   |some v=>t ρ1 H1=.ok true H1/\e ρ1 H1=.ok v H1)
  (hl:xs.length<=900000):bT mi cap sg t (bM e) ρ H=.ok (xs.filterMap g) H1:=by
 have fm:∀l:List α,l.flatMap (λx=>(g x).toList)=l.filterMap g:=λl=>by
  induction l with
  |nil=>rfl
  |cons x l ih=>rw[iq,ih,bw];cases g x <;> rfl
 have len:(xs.filterMap g).length<=xs.length:=nh g xs;obtain⟨ρ',H',h,_,rfl⟩:=vG (mi:=mi) (cap:=cap) (src:=src) (sg:=sg) (t:=t) (m:=bM e) (ρ:=ρ) (H:=H) (H1:=H1) xs (λx=>(g x).toList) (λρ h=>S ρ/\h=H1) hi hn ⟨s0,rfl⟩ (λρ h s=>by rw[s.2];exact fin)
  (λk hk ρ h ⟨s,e1⟩=>by
   subst e1;obtain⟨d,ρ1,e1,e2,s1,e3⟩:=step k hk ρ s;refine⟨d,ρ1,e1,e2, ?_⟩
   cases q:g xs[k]with
   |none=>rw[q]at e3;exact .inl ⟨h,e3,rfl,s1,rfl⟩
   |some v=>rw[q]at e3;exact .inr ⟨h,e3.1,λacc hl=>⟨ρ1,h,vH e3.2 hl,s1,rfl⟩⟩) (by rw[fm];omega)
 rw[h,fm]
theorem z2u {α β:Type}{mi mj:M Src}{cap:List (Option Nat)}{src:Src}{sg sg2:dP}{t2:M Bool}{e:M Dv}{ρ:Ev}{H H1:Hs}(xs:List α) (ys:α->List β) (g:α->β->Am) (S:Ev->Prop)
  (hi:mi ρ H=.ok src H1) (hn:src.n=xs.length) (s0:S (jS cap ρ)) (fin:src.fin H1=true)
  (step:∀k (hk:k<xs.length) ρ,S ρ->∃(d:Dv) (ρ1:Ev) (src2:Src) (S2:Ev->Prop),src.get k H1=some d/\sg d ρ=some ρ1/\S2 ρ1/\(∀ρ,S2 ρ->S ρ)/\mj ρ1 H1=.ok src2 H1/\src2.n=(ys xs[k]).length/\src2.fin H1=true /\
   ∀j (hj:j<(ys xs[k]).length) ρ,S2 ρ->∃d ρ2,src2.get j H1=some d/\sg2 d ρ=some ρ2/\S2 ρ2/\match g xs[k] (ys xs[k])[j]with
    |none=>t2 ρ2 H1=.ok false H1
    |some v=>t2 ρ2 H1=.ok true H1/\e ρ2 H1=.ok v H1)
  (hl:(xs.flatMap λx=>(ys x).filterMap (g x)).length<=900000):bT mi cap sg eK (nX mj sg2 t2 (bM e)) ρ H=.ok (xs.flatMap λx=>(ys x).filterMap (g x)) H1:=by
 have fm:∀(x:α) (l:List β),l.flatMap (λy=>(g x y).toList)=l.filterMap (g x):=λx l=>by
  induction l with
  |nil=>rfl
  |cons y l ih=>rw[iq,ih,bw];cases g x y <;> rfl
 obtain⟨ρ',H',h,_,rfl⟩:=vG (mi:=mi) (cap:=cap) (src:=src) (sg:=sg) (t:=eK) (m:=nX mj sg2 t2 (bM e)) (ρ:=ρ) (H:=H) (H1:=H1) xs (λx=>(ys x).filterMap (g x)) (λρ h=>S ρ/\h=H1) hi hn ⟨s0,rfl⟩ (λρ h s=>by rw[s.2];exact fin)
  (λk hk ρ h ⟨s,e1⟩=>by
   subst e1;obtain⟨d,ρ1,src2,S2,e1,e2,s1,sS,e3,e4,e5,e6⟩:=step k hk ρ s;refine⟨d,ρ1,e1,e2,.inr ⟨h,rfl,λacc hl=>?_⟩⟩;obtain⟨ρ3,h3,r,s3,rfl⟩:=zN (src:=src2) (sg:=sg2) (t:=t2) (m:=bM e) (ys xs[k]) (λy=>(g xs[k] y).toList) (λρ hh=>S2 ρ/\hh=h) (λρ hh s=>by rw[s.2];exact e5)
    (λj hj ρ hh ⟨s,e1⟩=>by
     subst e1;obtain⟨d,ρ2,z1,z2,z3,z4⟩:=e6 j hj ρ s;refine⟨d,ρ2,z1,z2, ?_⟩
     cases q:g xs[k] (ys xs[k])[j]with
     |none=>rw[q]at z4;exact .inl ⟨hh,z4,rfl,z3,rfl⟩
     |some v=>rw[q]at z4;exact .inr ⟨hh,z4.1,λacc hl=>⟨ρ2,hh,vH z4.2 hl,z3,rfl⟩⟩) (ys xs[k]).length 0 ρ1 h acc (by omega) ⟨s1,rfl⟩ (by rw[List.drop_zero,fm];exact hl)
   refine⟨ρ3,h3, ?_,sS ρ3 s3,rfl⟩;unfold nX;rw[e3];dsimp only;rw[e4,r,List.drop_zero,fm]) hl
 exact h
theorem z2v {c:M Bool}{b:MS}{f:Nat}{ρ:Ev}{h h1:Hs}(e:c ρ h=.ok false h1):iV c b (f+1) ρ h=.nx ρ h1:=by show(c ρ h).thenS _=_;rw[e];rfl
theorem OO {c:M Bool}{b:MS}{f:Nat}{ρ ρ2:Ev}{h h1 h2:Hs}(e:c ρ h=.ok true h1) (q:b ρ h1=.nx ρ2 h2):iV c b (f+1) ρ h=iV c b f ρ2 h2:=by show(c ρ h).thenS _=_;rw[e];simp[Rs.thenS,q]
theorem z2w {c:M Bool}{b:MS}{f:Nat}{ρ:Ev}{d:Dv}{h h1 h2:Hs}(e:c ρ h=.ok true h1) (q:b ρ h1=.rt d h2):iV c b (f+1) ρ h=.rt d h2:=by show(c ρ h).thenS _=_;rw[e];simp[Rs.thenS,q]
theorem zO:∀bs:List Bool,bF pH (bs.map Fy)=some bs
 | []=>rfl
 |b::bs=>by rw[dk,bF,zO bs];rfl
end L2.Mr
namespace L2.Mr.Com
def aQ (n:Nat) (ps:wo):Dv:=.tup [.int n,.tup (ps.map aI)]
theorem OP {n:Nat}{ps:wo}(H:Hs):aN (aQ n ps) (.int 0) H=.ok (.int n) H:=rfl
theorem zP {n:Nat}{ps:wo}(H:Hs):aN (aQ n ps) (.int 1) H=.ok (.tup (ps.map aI)) H:=rfl
theorem sD {α:Type}{ml:M Al }{ρ:Ev}{H H1:Hs}{xs:List α}{f:α->Bool}(h:ml ρ H=.ok (xs.filterMap λx=>some (.bl (f x))) H1):mL lI ml ρ H=.ok (.bl (xs.all f)) H1:=by
 have e:(xs.filterMap λx=>some (Fy (f x)))=(xs.map f).map Fy:=by simp
 unfold mL;rw[h,Rs.bind_ok,e];unfold lI;rw[zO];simp[List.all_map]
theorem z2x {α:Type}{ml:M Al }{ρ:Ev}{H H1:Hs}{xs:List α}{f:α->Bool}(h:ml ρ H=.ok (xs.filterMap λx=>some (.bl (f x))) H1):mL tY ml ρ H=.ok (.bl (xs.any f)) H1:=by
 have e:(xs.filterMap λx=>some (Fy (f x)))=(xs.map f).map Fy:=by simp
 unfold mL;rw[h,Rs.bind_ok,e];unfold tY;rw[zO];simp[tu]
section
variable{H:Hs}{n x:Int}{ps:wo}
theorem OQ:F_q7 [.int x] H=.ok (.bl true) H:=by simp[F_q7,DH,aV,bX,aM,cP,m1,aA,bG,gW,qK,kP,qB,bJ]
theorem zQ {lo hi:Int}:F_qr [.int x,.int lo,.int hi] H=.ok (.bl (decide (lo<=x)&&decide (x<=hi))) H:=by
 by_cases h:lo<=x
 ·simp[F_qr,yO,aV,bX,aM,cP,aF,aB,aA,aC,OQ,jO,fP,iC,h,bJ]
 ·simp[F_qr,yO,aV,bX,aM,cP,aF,aB,aA,aC,OQ,jO,fP,iC,h,bJ]
def eX (n x:Int):Bool:=decide (0<=x)&&decide (x<=n - 1)
theorem z2y:F_q6 [.int n,.int x] H=.ok (.bl (eX n x)) H:=by simp[F_q6,DI,aV,bX,aM,aF,aB,aA,aC,mC,m2,eI,iC,zQ,bJ,eX]
theorem z2z {xs:Ah}(hl:xs.length<=1000):F_qq [.int n,.tup (xs.map Fc)] H=.ok (.bl (xs.all (eX n))) H:=by have h:bT (bK fI (aA 1)) [none,some 0] (aE 0) eK (bM (aF F_q6 (aB (aA 1) (aB (aA 0) aC)))) [some (.int n),some (.tup (xs.map Fc))] H=.ok (xs.filterMap λx=>some (.bl (eX n x))) H:=iG xs (λx=>some (.bl (eX n x))) (λρ=>∃a,ρ=[a,some (.int n)]) rfl (by simp[dX]) ⟨_,rfl⟩ rfl (λk hk ρ ⟨a,e⟩=>by subst e;exact⟨.int xs[k],_,by simp[dX,hk],rfl,⟨_,rfl⟩,rfl,by simp[aF,aB,aA,aC,z2y]⟩) (by omega);simp[F_qq,yP,aV,bX,aM,cP,m1,bG,aA,gW,gL,sD h,bJ]
def mW (n:Int) (p:Int×Int):Bool:=eX n p.1&&eX n p.2
theorem z30 (p:Int×Int):F_qA [.int n,aI p] H=.ok (.bl (mW n p)) H:=by
 have h:F_qq [.int n,aI p] H=.ok (.bl (mW n p)) H:=by have:=z2z (H:=H) (n:=n) (xs:=[p.1,p.2]) (by simp);simpa[aI,mW]using this
 have hlen:f1 cF [aI p] H=.ok (.int 2) H:=rfl
 cases q:mW n p with
 |false=>simp[F_qA,rX,aV,bX,aM,cP,aF,aB,aA,aC,h,q,bJ]
 |true=>simp[F_qA,rX,aV,bX,aM,cP,aF,aB,aA,aC,h,q,bJ,m2,hlen,mC,bD,bY,bQ,bI]
theorem z31 (hl:ps.length<=1000):F_q0 [.int n,.tup (ps.map aI)] H=.ok (.bl (ps.all (mW n))) H:=by have h:bT (bK fI (aA 1)) [none,some 0] (aE 0) eK (bM (aF F_qA (aB (aA 1) (aB (aA 0) aC)))) [some (.int n),some (.tup (ps.map aI))] H=.ok (ps.filterMap λp=>some (.bl (mW n p))) H:=iG ps (λp=>some (.bl (mW n p))) (λρ=>∃a,ρ=[a,some (.int n)]) rfl (by simp[dX]) ⟨_,rfl⟩ rfl (λk hk ρ ⟨a,e⟩=>by subst e;exact⟨aI ps[k],_,by simp[dX,hk],rfl,⟨_,rfl⟩,rfl,by simp[aF,aB,aA,aC,z30]⟩) (by omega);simp[F_q0,DJ,aV,bX,aM,sD h,bJ]
theorem z32 (hl:ps.length<=1000):F_q1 [.tup (ps.map aI)] H=.ok (.bl (ps.any λp=>decide (p.1=p.2))) H:=by have h:bT (bK fI (aA 0)) [none,none] (cH 2 (aY (aE 0) (aY (aE 1) cK))) eK (bM (m2 bD (aA 0) (aA 1))) [some (.tup (ps.map aI))] H=.ok (ps.filterMap λp=>some (.bl (decide (p.1=p.2)))) H:=iG ps (λp=>some (.bl (decide (p.1=p.2)))) (λρ=>∃a b,ρ=[a,b]) rfl (by simp[dX]) ⟨_,_,rfl⟩ rfl (λk hk ρ ⟨a,b,e⟩=>by subst e;refine⟨aI ps[k],[some (.int ps[k].1),some (.int ps[k].2)],by simp[dX,hk],rfl,⟨_,_,rfl⟩,rfl, ?_⟩;simp[m2,aA,bD,bY,bQ,bI];rw[cz];simp) (by omega);simp[F_q1,NY,aV,bX,aM,z2x h,bJ]
theorem z33 (p q:Int×Int):hV (aI p) (aI q) H=.ok (.bl (eU p q)) H:=by simp only[hV,aI,bF,iN,NQ];rw[<-uV];rfl
def mX (ps:wo):Bool:=(ps.zip (ps.drop 1)).all λq=>eU q.1 q.2
theorem Dl:∀{ps:wo},mX ps=true↔fX eU ps
 | []=>by simp[mX,fX]
 | [p]=>by simp[mX,fX]
 |p::q::r=>by
  have ih:=Dl (ps:=q::r);have e:mX (p::q::r)=(eU p q&&mX (q::r)):=by simp[mX]
  rw[e,da,ih];constructor
  ·rintro ⟨h1,h2⟩
   refine fw.mpr ⟨λz hz=>?_,h2⟩
   rcases ba.mp hz with rfl|hz
   ·exact h1
   ·exact Cz.tr _ _ _ h1 ((fw.mp h2).1 z hz)
  ·intro h;have:=fw.mp h;exact⟨this.1 q (by simp),this.2⟩
theorem z34 (ds:Al):pM ds (some 1) none=ds.drop 1:=by
 unfold pM;rw[show HT.sIx ds.length 0 (some 1)=min 1 ds.length from HT.sIx_nat ds.length 0 1,HT.sIx_none]
 cases ds with
 |nil=>rfl
 |cons a r=>simp
theorem z35 (hl:ps.length<=1000):F_q2 [.tup (ps.map aI)] H=.ok (.bl (mX ps)) H:=by
 have hi:aR pK (aB (aA 0) (aB (uZ (aA 0) (uG (mC (.int 1))) uF) aC)) [some (.tup (ps.map aI))] H=.ok (pJ (ps.map aI) ((ps.drop 1).map aI)) H:=by simp[aR,aB,aA,uZ,uG,mC,LK,uF,yN,aC,pK,z34,vf]
 have hz:((ps.map aI).zip ((ps.drop 1).map aI)).map (λq=>Fw [q.1,q.2])=(ps.zip (ps.drop 1)).map λq=>Fw [aI q.1,aI q.2]:=by rw[List.zip_map,jo];rfl
 have h:bT (aR pK (aB (aA 0) (aB (uZ (aA 0) (uG (mC (.int 1))) uF) aC))) [none,none] (cH 2 (aY (aE 0) (aY (aE 1) cK))) eK (bM (m2 hV (aA 0) (aA 1))) [some (.tup (ps.map aI))] H=.ok ((ps.zip (ps.drop 1)).filterMap λq=>some (.bl (eU q.1 q.2))) H:=
  iG (ps.zip (ps.drop 1)) (λq=>some (.bl (eU q.1 q.2))) (λρ=>∃a b,ρ=[a,b]) hi (by simp[pJ,dX]) ⟨_,_,rfl⟩ rfl (λk hk ρ ⟨a,b,e⟩=>by
   subst e;refine⟨.tup [aI (ps.zip (ps.drop 1))[k].1,aI (ps.zip (ps.drop 1))[k].2],[some (aI (ps.zip (ps.drop 1))[k].1),some (aI (ps.zip (ps.drop 1))[k].2)], ?_,rfl,⟨_,_,rfl⟩,rfl, ?_⟩
   ·show(((ps.map aI).zip ((ps.drop 1).map aI)).map (λq=>Fw [q.1,q.2]))[k]?=_;rw[hz,dw,aw hk];rfl
   ·simp only[m2,aA];exact z33 _ _) (by rw[List.length_zip];omega)
 simp[F_q2,NX,aV,bX,aM,sD h,bJ,mX]
def vI (ps:wo):Bool:=ps.all λp=>ps.all λq=>!decide (p.2=q.1)||decide ((p.1,q.2)∈ps)
theorem z36 (hl:ps.length<=900):F_qj [.tup (ps.map aI)] H=.ok (.bl (vI ps)) H:=by
 let g:Int×Int->Int×Int->Am:=λp q=>if p.2=q.1 then some (.bl (decide ((p.1,q.2)∈ps)))else none
 have h:bT (bK fI (aA 0)) [none,none,none,none,some 0] (cH 2 (aY (aE 0) (aY (aE 1) cK))) eK (nX (bK fI (aA 4)) (cH 2 (aY (aE 2) (aY (aE 3) cK))) (mB (m2 bD (aA 1) (aA 2))) (bM (m2 (bP false) (aK (aB (aA 0) (aB (aA 3) aC))) (aA 4)))) [some (.tup (ps.map aI))] H=.ok (ps.flatMap λp=>ps.filterMap (g p)) H:=
  z2u ps (λ_=>ps) g (λρ=>∃a b c d,ρ=[a,b,c,d,some (.tup (ps.map aI))]) rfl (by simp[dX]) ⟨_,_,_,_,rfl⟩ rfl (λk hk ρ ⟨a,b,c,d,e⟩=>by
   subst e;refine⟨aI ps[k],[some (.int ps[k].1),some (.int ps[k].2),c,d,some (.tup (ps.map aI))],dX (ps.map aI),λρ=>∃c d,ρ=[some (.int ps[k].1),some (.int ps[k].2),c,d,some (.tup (ps.map aI))],by simp[dX,hk],rfl,⟨_,_,rfl⟩,λρ ⟨c,d,e⟩=>⟨_,_,_,_,e⟩,rfl,by simp[dX],rfl,λj hj ρ ⟨c,d,e⟩=>?_⟩;subst e;refine⟨aI ps[j],[some (.int ps[k].1),some (.int ps[k].2),some (.int ps[j].1),some (.int ps[j].2),some (.tup (ps.map aI))],by simp[dX,hj],rfl,⟨_,_,rfl⟩, ?_⟩;have te:mB (m2 bD (aA 1) (aA 2)) [some (.int ps[k].1),some (.int ps[k].2),some (.int ps[j].1),some (.int ps[j].2),some (.tup (ps.map aI))] H=.ok (decide (ps[k].2=ps[j].1)) H:=by simp[mB,m2,aA,bD,bY,bQ,bI,dZ];rw[cz];simp
   by_cases c1:ps[k].2=ps[j].1
   ·rw[decide_eq_true c1]at te;have hg:g ps[k] ps[j]=some (.bl (decide ((ps[k].1,ps[j].2)∈ps))):=if_pos c1;rw[hg];refine⟨te, ?_⟩;have hx:aK (aB (aA 0) (aB (aA 3) aC)) [some (.int ps[k].1),some (.int ps[k].2),some (.int ps[j].1),some (.int ps[j].2),some (.tup (ps.map aI))] H=.ok (aI (ps[k].1,ps[j].2)) H:=rfl;unfold m2;rw[hx,Rs.bind_ok];show(Ft (Fw (ps.map aI)) H).bind _=_;rw[Rs.bind_ok,oH];rfl
   ·rw[decide_eq_false c1]at te;have hg:g ps[k] ps[j]=none:=if_neg c1;rw[hg];exact te) (by
   have:∀l:wo,(l.flatMap λp=>ps.filterMap (g p)).length<=l.length*ps.length:=λl=>by
    induction l with
    |nil=>simp
    |cons p l ih=>rw[iq,bq,cg,wc];have:=nh (g p) ps;omega
   have h2:=this ps;have h3:ps.length*ps.length<=900*900:=mr hl hl;omega)
 have hb:(ps.flatMap λp=>ps.filterMap (g p))=(ps.flatMap λp=>ps.filterMap λq=>if p.2=q.1 then some (decide ((p.1,q.2)∈ps))else none).map Fy:=by
  rw[List.map_flatMap]
  congr 1
  funext p
  rw[List.map_filterMap]
  congr 1
  funext q
  show(if p.2=q.1 then some (Fy (decide ((p.1,q.2)∈ps)))else none)=_
  split <;> rfl
 have Bz:mL lI (bT (bK fI (aA 0)) [none,none,none,none,some 0] (cH 2 (aY (aE 0) (aY (aE 1) cK))) eK (nX (bK fI (aA 4)) (cH 2 (aY (aE 2) (aY (aE 3) cK))) (mB (m2 bD (aA 1) (aA 2))) (bM (m2 (bP false) (aK (aB (aA 0) (aB (aA 3) aC))) (aA 4))))) [some (.tup (ps.map aI))] H=.ok (.bl (vI ps)) H:=by
  unfold mL;rw[h,Rs.bind_ok,hb];unfold lI;rw[zO];dsimp only
  congr 2
  rw[cz];unfold vI;simp only[fi,kh,jv,id];constructor
  ·intro h p hp q hq
   by_cases c:p.2=q.1
   ·have:=h (decide ((p.1,q.2)∈ps)) ⟨p,hp,q,hq,if_pos c⟩;simp[c,this]
   ·simp[c]
  ·rintro h b ⟨p,hp,q,hq,e⟩
   have:=h p hp q hq
   by_cases c:p.2=q.1
   ·rw[if_pos c]at e;cases e;simpa[c]using this
   ·rw[if_neg c]at e;cases e
 simp[F_qj,NZ,aV,bX,aM,Bz,bJ]
def sE (n:Int) (ps:wo):Bool:=decide (1<=n)&&decide (n<=6)&&ps.all (mW n)&&mX ps&&!(ps.any λp=>decide (p.1=p.2))&&vI ps
theorem OR {n:Int}(hl:ps.length<=900):F_q5 [.tup [.int n,.tup (ps.map aI)]] H=.ok (.bl (sE n ps)) H:=by
 have b:=zQ (H:=H) (x:=n) (lo:=1) (hi:=6);have p1:=z31 (H:=H) (n:=n) (ps:=ps) (by omega);have p2:=z35 (H:=H) (ps:=ps) (by omega);have p3:=z32 (H:=H) (ps:=ps) (by omega);have p4:=z36 (H:=H) (ps:=ps) hl;have hlen:f1 cF [.tup [.int n,.tup (ps.map aI)]] H=.ok (.int 2) H:=rfl;unfold sE;generalize (decide (1<=n)&&decide (n<=6))=c0 at b ⊢;generalize ps.all (mW n)=c1 at p1 ⊢;generalize mX ps=c2 at p2 ⊢;generalize (ps.any λp=>decide (p.1=p.2))=c3 at p3 ⊢;generalize vI ps=c4 at p4 ⊢
 cases c0 <;> cases c1 <;> cases c2 <;> cases c3 <;> cases c4 <;>
  simp[F_q5,qP,aV,bX,aH,aW,cO,cD,bN,m1,bG,aA,gW,gL,fT,mB,m2,aF,aB,aC,hlen,mC,cJ,bY,bQ,bI,dZ,bE,aL,cH,aY,aE,cK,b,p1,p2,p3,p4,aM,cP,qB,bJ]
end
structure A' (n:Nat) (ps:wo):Prop where
 n1:1<=n
 n6:n<=6
 rng:∀p∈ps,0<=p.1/\p.1<n/\0<=p.2/\p.2<n
 rise:fX eU ps
 irr:∀p∈ps,p.1≠p.2
 tr:∀p∈ps,∀q∈ps,p.2=q.1->(p.1,q.2)∈ps
section
variable{n:Nat}{ps:wo}{H:Hs}
def EX (n:Nat):wo:=(bp n).flatMap λa:Nat=>(bp n).map λb:Nat=>((a:Int),(b:Int))
theorem z37 (n:Nat):(EX n).length=n*n:=by
 unfold EX;have:∀l:Ai,(l.flatMap λa:Nat=>(bp n).map λb:Nat=>((a:Int),(b:Int))).length=l.length*n:=λl=>by
  induction l with
  |nil=>simp
  |cons a l ih=>rw[iq,bq,ih,cg,wc];simp;omega
 rw[this];simp
theorem z38 {p:Int×Int}(h:0<=p.1/\p.1<n/\0<=p.2/\p.2<n):p∈EX n:=by obtain⟨a,b⟩:=p;simp only at h;refine kh.mpr ⟨a.toNat,br.mpr (by omega),cf.mpr ⟨b.toNat,br.mpr (by omega), ?_⟩⟩;simp;omega
theorem vJ (hr:fX eU ps) (hp:∀p∈ps,0<=p.1/\p.1<n/\0<=p.2/\p.2<n):ps.length<=n*n:=by rw[<-z37 n];exact(uU Cz hr).length_le_of_subset λp h=>z38 (hp p h)
theorem A'.len (o:A' n ps):ps.length<=36:=by have h1:=vJ o.rise o.rng;have h2:n*n<=6*6:=mr o.n6 o.n6;omega
theorem A'.b (o:A' n ps):sE n ps=true:=by
 have h1:=o.n1;have h6:=o.n6;unfold sE;simp only[da,decide_eq_true_eq,jy];refine⟨⟨⟨⟨⟨by omega,by omega⟩, ?_⟩,Dl.mpr o.rise⟩, ?_⟩, ?_⟩
 ·refine fi.mpr λp hp=>?_;have:=o.rng p hp;simp[mW,eX];omega
 ·refine List.any_eq_false.mpr λp hp=>?_;simpa using o.irr p hp
 ·refine fi.mpr λp hp=>fi.mpr λq hq=>?_
  by_cases c:p.2=q.1
  ·simp[c,o.tr p hp q hq c]
  ·simp[c]
theorem z39 (o:A' n ps):F_q5 [aQ n ps] H=.ok (.bl true) H:=by have:=OR (H:=H) (n:=(n:Int)) (ps:=ps) (by have:=o.len;omega);rw[o.b]at this;exact this
end
theorem z3a (H:Hs) (n:Nat) (a:Int) (b:Bool) (m:Int) (h0:0<m) (h1:m<18446744073709551616) (e:getL H n=some [.int a,.bl b]):
  ∃r a',0<=r/\r<m/\F_qy [.ref n,.int m] H=.ok (.int r) (H.set n (.lst [.int a',.bl b])):=by
 cases b with
 |true=>refine⟨a % m,a / m,Int.emod_nonneg _ (by omega),Int.emod_lt_of_pos _ h0, ?_⟩;simp[F_qy,DK,aV,bX,aH,aW,bN,m2,aA,mC,aN,gD,gR,e,jP,gK,fR,fT,aL,mP,mG,rJ,h0,aE,uA,uM,uL,h1,xP,aM,bJ]
 |false=>
  have q1:∀ys,getL (H.set n (.lst ys)) n=some ys:=λys=>oF e;generalize hs:(a*48271+29) % 2147483647=s;have s0:0<=s:=by omega
  have s1:s<2147483647:=by omega
  generalize ht:(s*s+39373*s+7) % 2147483629=t;have t0:0<=t:=by omega
  have t1:t<2147483629:=by omega
  generalize hu:(t*t+16807*t) % 2147483587=u;refine⟨u / 8 % m,s,Int.emod_nonneg _ (by omega),Int.emod_lt_of_pos _ h0, ?_⟩;have w1:iK s=true:=by simp[iK];omega
  have w2:iK t=true:=by simp[iK];omega
  have w3:iK 48271=true:=by decide
  have w4:iK 39373=true:=by decide
  have w5:iK 16807=true:=by decide
  simp[F_qy,DK,aV,bX,aH,aW,bN,m2,aA,mC,aN,gD,gR,e,jP,gK,fR,fT,aL,mP,mG,rJ,h0,aE,uA,uM,uL,h1,xP,aM,bJ,bE,bO,lC,qI,xC,w1,w2,w3,w4,w5,q1,hs,ht,hu]
def St (n:Nat) (H:Hs):Prop:=∃a b,getL H n=some [.int a,.bl b]
theorem St.fr {n:Nat}{S:Ai}{H H':Hs}(s:St n H) (f:Fr S H H') (h:n∉S):St n H':=let ⟨a,b,e⟩:=s;⟨a,b,f.getL e h⟩
theorem mY {H:Hs}{n:Nat}(m:Int) (s:St n H) (h0:0<m:=by decide) (h1:m<18446744073709551616:=by decide):
  ∃r H',0<=r/\r<m/\F_qy [.ref n,.int m] H=.ok (.int r) H'/\Fr [n] H H'/\St n H':=by
 obtain⟨a,b,e⟩:=s;obtain⟨r,a',r0,r1,ht⟩:=z3a H n a b m h0 h1 e;exact⟨r,_,r0,r1,ht,Fz,a',b,oF e⟩
theorem z3b (scr:Ah) (k:Nat) (h:Hs):∃H',F_qn scr [.scr,.int k] h=.ok (.ref h.length) H'/\Fr [] h H'/\St h.length H':=by
 have cell:∃c,F_qe scr [.scr,.int k] h=.ok (.int c) h:=by
  by_cases hk:k<scr.length
  ·refine⟨scr[k], ?_⟩;have Dy:(k:Int)<scr.length:=by omega
   simp[F_qe,yQ,aV,bX,aH,aW,mB,m2,aA,mC,hV,aF,f1,iL,fV,aB,aC,dZ,Dy,hk,gR,jP,gK,fR,aM,bJ]
  ·refine⟨0, ?_⟩;have Dy:¬ (k:Int)<scr.length:=by omega
   simp[F_qe,yQ,aV,bX,aH,aW,mB,m2,aA,mC,hV,aF,f1,iL,fV,aB,aC,dZ,Dy,hk,gR,jP,gK,fR,aM,bJ,bE]
 obtain⟨c,hc⟩:=cell;have fin:∀a b,Fr [] h (h++[Fd [.int a,.bl b]])/\St h.length (h++[Fd [.int a,.bl b]]):=λa b=>⟨Fe,a,b,by rw[ZV];rfl⟩
 by_cases hg:c>=1000000000000000000
 ·refine⟨_, ?_,fin (c - 1000000000000000000) true⟩;simp[F_qn,yR,aV,bX,aH,aL,aF,aB,aA,aC,hc,aE,aW,mB,m2,qJ,iC,uH,mG,tP,mC,dZ,hg,aM,aS,eI,lim,bJ]
 ·refine⟨_, ?_,fin (c % 2147483647) false⟩;simp[F_qn,yR,aV,bX,aH,aL,aF,aB,aA,aC,hc,aE,aW,mB,m2,qJ,iC,uH,mG,tP,mC,dZ,hg,aM,aS,eI,lim,bJ,bE,mP,rJ]
theorem St.lt {st:Nat}{H:Hs}(s:St st H):st<H.length:=let ⟨_,_,e⟩:=s;oG e
theorem z3c {H:Hs}{q:Nat}{ks:Ah}(e:getL H q=some (ks.map Fc)):cJ (.ref q) (.ref H.length) (H++[.lst []])=.ok (.bl (!ks.isEmpty)) (H++[.lst []]):=by
 have p1:bQ bY (H++[.lst []]) (.ref q)=some (.lst (ks.map Fx)):=by show bQ (28+1+1) (H++[.lst []]) (.ref q)=_;rw[bQ];simp only[iX (l:=[.lst []]) e,uQ]
 have p2:bQ bY (H++[.lst []]) (.ref H.length)=some (.lst []):=by
  show bQ (28+1+1) (H++[.lst []]) (.ref H.length)=_;rw[bQ];have:getL (H++[.lst []]) H.length=some []:=by simp[getL]
  simp only[this];rfl
 unfold cJ;rw[p1,p2]
 cases ks <;> simp[bI,fS]
def zR:M Bool:=mB (m2 cJ (aA 2) (aS aC))
def zS:MS:=cX (gX (aA 3) (uE (aA 2) (aF F_qy (aB (aA 0) (aB (aF (f1 cF) (aB (aA 2) aC)) aC)))))
theorem z3d:DL=aH (aL (aF (f1 lO) (aB (aA 1) aC)) (aE 2)) (aH (aL (aS aC) (aE 3)) (aH (iV zR zS 40) (aM (aA 3)))):=rfl
section
variable{st a b:Nat}{d:Dv}
theorem OS (Dk:a≠b) (has:a≠st) (hbs:b≠st):∀(f:Nat) (ls fs:Ah) (H:Hs),ls.length<f->ls.length+fs.length<=100->getL H a=some (ls.map Fc)->getL H b=some (fs.map Fc)->St st H->
  ∃(H':Hs) (ys:Ah),iV zR zS f [some (.ref st),some d,some (.ref a),some (.ref b)] H=.nx [some (.ref st),some d,some (.ref a),some (.ref b)] H'/\getL H' b=some (ys.map Fc)/\ys.Perm (fs++ls)/\St st H'/\Fr [st,a,b] H H'
 |0,ls,fs,H,h,_,_,_,_=>by omega
 |f+1,ls,fs,H,h,hl,ea,eb,s=>by
  have tc:zR [some (.ref st),some d,some (.ref a),some (.ref b)] H=.ok (!ls.isEmpty) (H++[.lst []]):=by simp[zR,mB,m2,aA,aS,aC,lim,z3c ea,dZ]
  have ea1:=iX (l:=[Fd []]) ea;have eb1:=iX (l:=[Fd []]) eb;have g1:Fr [st,a,b] H (H++[Fd []]):=Fe;have s1:=s.fr (Fe (S:=[]) (l:=[Fd []])) (by simp);generalize H++[Fd []]=H1 at tc ea1 eb1 g1 s1
  cases hls:ls with
  |nil=>subst hls;refine⟨H1,fs, ?_,eb1,by simp,s1,g1⟩;exact z2v tc
  |cons x r=>
   have hne:ls.isEmpty=false:=by rw[hls];rfl
   have hpos:(0:Int)<ls.length:=by rw[hls];simp
   obtain⟨k,H2,k0,k1,ht,f2,s2⟩:=mY (ls.length:Int) s1 hpos (by omega);have ea2:=f2.getL ea1 (by simpa using has);have eb2:=f2.getL eb1 (by simpa using hbs);have hk:k.toNat<ls.length:=by omega
   have ixk:fR (ls.map Fc).length k=some k.toNat:=by unfold fR;rw[if_pos k0,bc,if_pos k1]
   have getk:(ls.map Fc)[k.toNat]?=some (.int ls[k.toNat]):=by simp[hk]
   have hlen:f1 cF [.ref a] H1=.ok (.int ls.length) H1:=by show(if gD (.ref a)=true then iL [] (.ref a) H1 else .bad)=_;simp[gD,iL,fV,ea1]
   have hz:(ls.map Fc).length<=1000000:=by rw[bc];omega
   have pop:xV (.ref a) (.int k) H2=.ok (.int ls[k.toNat]) (H2.set a (.lst ((ls.eraseIdx k.toNat).map Fc))):=by
    simp only[xV,ea2,ixk,getk,hz,if_true];have em:(ls.map Fc).eraseIdx k.toNat=(ls.eraseIdx k.toNat).map Fc:=by rw[wd,wd,lg,yn,vf]
    rw[em]
   have eb3:getL (H2.set a (.lst ((ls.eraseIdx k.toNat).map Fc))) b=some (fs.map Fc):=by rw[uP Dk];exact eb2
   have ea3:getL (H2.set a (.lst ((ls.eraseIdx k.toNat).map Fc))) a=some ((ls.eraseIdx k.toNat).map Fc):=oF ea2;have f3:Fr [st,a,b] H2 (H2.set a (.lst ((ls.eraseIdx k.toNat).map Fc))):=Fz.mono (by simp);have s3:St st (H2.set a (.lst ((ls.eraseIdx k.toNat).map Fc))):=s2.fr Fz (by simpa using cx has);generalize hH3:H2.set a (.lst ((ls.eraseIdx k.toNat).map Fc))=H3 at pop eb3 ea3 f3 s3;have hfl:(fs.map Fc).length<1000000:=by rw[bc];omega
   have body:zS [some (.ref st),some d,some (.ref a),some (.ref b)] H1=.nx [some (.ref st),some d,some (.ref a),some (.ref b)] (H3.set b (.lst ((fs++[ls[k.toNat]]).map Fc))):=by
    have isA:jH (.ref a) H1=true:=by simp[jH,ea1]
    have isB:jH (.ref b) H1=true:=by simp[jH,eb1]
    have hpop:uE (aA 2) (aF F_qy (aB (aA 0) (aB (aF (f1 cF) (aB (aA 2) aC)) aC))) [some (.ref st),some d,some (.ref a),some (.ref b)] H1=.ok (.int ls[k.toNat]) H3:=by simp[uE,aA,isA,aF,aB,aC,hlen,ht,pop]
    have happ:pI (.ref b) (.int ls[k.toNat]) H3=.ok .non (H3.set b (.lst ((fs++[ls[k.toNat]]).map Fc))):=by simp only[pI,eb3,hfl,if_true,lg];rfl
    simp[zS,cX,gX,aA,isB,hpop,happ]
   have Ec:(ls.eraseIdx k.toNat).length=ls.length - 1:=xu hk;obtain⟨H',ys,w,e',pm,s',f'⟩:=OS Dk has hbs f (ls.eraseIdx k.toNat) (fs++[ls[k.toNat]]) (H3.set b (.lst ((fs++[ls[k.toNat]]).map Fc))) (by omega) (by rw[bq];simp;omega) (by rw[uP (cx Dk)];exact ea3) (oF eb3) (s3.fr Fz (by simpa using cx hbs));refine⟨H',ys, ?_,e', ?_,s', ?_⟩
   ·rw[hne]at tc;rw[OO tc body];exact w
   ·rw[<-hls];refine pm.trans ?_;rw[rn];refine xv fs ?_;have:=SR.erase_perm ls k.toNat hk;simpa using this
   ·exact(((g1.trans f2 (by simp)).trans f3 (by simp)).trans (T:=[b]) Fz (by simp)).trans f' (by simp)
theorem z3e {H:Hs}{j:Nat}{xs:Ah}(s:St st H) (e:getL H j=some (xs.map Fc)) (hl:xs.length<=20):∃(i:Nat) (ys:Ah) (H':Hs),F_qc [.ref st,.ref j] H=.ok (.ref i) H'/\getL H' i=some (ys.map Fc)/\ys.Perm xs/\H.length<=i/\St st H'/\Fr [st] H H':=by
 have lt:=s.lt;have w0:aL (aF (f1 lO) (aB (aA 1) aC)) (aE 2) [some (.ref st),some (.ref j),none,none] H=.nx [some (.ref st),some (.ref j),some (.ref H.length),none] (H++[.lst (xs.map Fc)]):=by simp[aL,aF,f1,lO,gD,rK,fV,aB,aA,aC,e,aE]
 have w1:aL (aS aC) (aE 3) [some (.ref st),some (.ref j),some (.ref H.length),none] (H++[.lst (xs.map Fc)])=.nx [some (.ref st),some (.ref j),some (.ref H.length),some (.ref (H.length+1))] (H++[.lst (xs.map Fc)]++[.lst []]):=by simp[aL,aS,aC,lim,aE]
 have ea:getL (H++[.lst (xs.map Fc)]++[.lst []]) H.length=some (xs.map Fc):=iX (by simp[getL]);have eb:getL (H++[.lst (xs.map Fc)]++[.lst []]) (H.length+1)=some (([]:Ah).map Fc):=by simp[getL]
 have f0:Fr [st] H (H++[.lst (xs.map Fc)]++[.lst []]):=Ga (T:=[]) Fe Fe (by simp);have s0:St st (H++[.lst (xs.map Fc)]++[.lst []]):=(s.fr (Fe (S:=[]) (l:=[.lst (xs.map Fc)])) (by simp)).fr (Fe (S:=[])) (by simp);obtain⟨H',ys,w2,e2,pm,s2,f2⟩:=OS (st:=st) (a:=H.length) (b:=H.length+1) (d:=.ref j) (by omega) (by omega) (by omega) 40 xs [] _ (by omega) (by simp;omega) ea eb s0;refine⟨H.length+1,ys,H', ?_,e2,by simpa using pm,by omega,s2,f0.trans f2 (by simp)⟩;show bJ (DL [some (.ref st),some (.ref j),none,none] H)=_;rw[z3d,bH w0,bH w1,bH w2];rfl
end
def eV (ps:wo) (p:Int×Int):wo:=(ps.filter λq=>decide (p.2=q.1)).map λq=>(p.1,q.2)
def eQ (ps:wo):wo:=eO eU (ps++ps.flatMap (eV ps))
def vK:Nat->wo->Option wo 
 |0,_=>none
 |f+1,ps=>if eQ ps=ps then some ps else vK f (eQ ps)
def oP (n:Nat) (ps:wo):Prop:=∀p∈ps,0<=p.1/\p.1<n/\0<=p.2/\p.2<n
def Tr (ps:wo):Prop:=∀p∈ps,∀q∈ps,p.2=q.1->(p.1,q.2)∈ps
theorem z3f {ps:wo}{p r:Int×Int}:r∈eV ps p↔∃q∈ps,p.2=q.1/\r=(p.1,q.2):=by
 simp only[eV,cf,gb,decide_eq_true_eq];constructor
 ·rintro ⟨q,⟨h1,h2⟩,h3⟩;exact⟨q,h1,h2,h3.symm⟩
 ·rintro ⟨q,h1,h2,h3⟩;exact⟨q,⟨h1,h2⟩,h3.symm⟩
theorem step_mem {ps:wo}{r:Int×Int}:r∈eQ ps↔r∈ps∨∃p∈ps,∃q∈ps,p.2=q.1/\r=(p.1,q.2):=by unfold eQ;rw[oJ Cz,cy,kh];simp only[z3f]
theorem EY {n:Nat}{ps:wo}(h:oP n ps):oP n (eQ ps):=λr hr=>by
 rcases step_mem.mp hr with hr|⟨p,hp,q,hq,_,rfl⟩
 ·exact h r hr
 ·exact⟨(h p hp).1,(h p hp).2.1,(h q hq).2.2.1,(h q hq).2.2.2⟩
theorem vL (ps:wo):fX eU (eQ ps):=uT Cz _
theorem z3g {ps:wo}(hr:fX eU ps):eQ ps=ps↔Tr ps:=by
 constructor
 ·intro h p hp q hq e;rw[<-h];exact step_mem.mpr (.inr ⟨p,hp,q,hq,e,rfl⟩)
 ·intro h;refine CW Cz (vL ps) hr λr=>?_;rw[step_mem];constructor
  ·rintro (hr|⟨p,hp,q,hq,e,rfl⟩)
   ·exact hr
   ·exact h p hp q hq e
  ·exact λh=>.inl h
theorem z3h {ps:wo}(hr:fX eU ps) (hne:eQ ps≠ps):ps.length<(eQ ps).length:=by
 have nd:=uU Cz hr;have sub:∀r∈ps,r∈eQ ps:=λr h=>step_mem.mpr (.inl h);have h1:=nd.length_le_of_subset sub
 rcases jc ps.length (eQ ps).length with h|h
 ·exact h
 ·exfalso
  apply hne
  have sub2:∀r∈eQ ps,r∈ps:=λr hr'=>by
   by_cases hm:r∈ps
   ·exact hm
   ·exfalso
    have nd2:(r::ps).Nodup:=ji.mpr ⟨hm,nd⟩;have:=nd2.length_le_of_subset (l₂:=eQ ps) λx hx=>by
     rcases ba.mp hx with rfl|hx
     ·exact hr'
     ·exact sub x hx
    simp at this;omega
  exact CW Cz (vL ps) hr λr=>⟨sub2 r,sub r⟩
theorem OT {n:Nat}(hn:n<=6):∀(f:Nat) (ps:wo),fX eU ps->oP n ps->36<f+ps.length->∃cs,vK f ps=some cs/\fX eU cs/\oP n cs/\Tr cs/\(∀p∈ps,p∈cs)/\∀R:Int->Int->Prop,(∀a b c,R a b->R b c->R a c)->(∀p∈ps,R p.1 p.2)->∀p∈cs,R p.1 p.2
 |0,ps,hr,hi,h=>by have h1:=vJ hr hi;have h2:n*n<=6*6:=mr hn hn;omega
 |f+1,ps,hr,hi,h=>by
  unfold vK
  split
  ·rename_i e;exact⟨ps,rfl,hr,hi,(z3g hr).mp e,λp hp=>hp,λR _ h=>h⟩
  ·rename_i e;have:=z3h hr e;obtain⟨cs,h1,h2,h3,h4,h5,h6⟩:=OT hn f (eQ ps) (vL ps) (EY hi) (by omega);refine⟨cs,h1,h2,h3,h4,λp hp=>h5 p (step_mem.mpr (.inl hp)),λR ht hR=>h6 R ht λr hr'=>?_⟩
   rcases step_mem.mp hr' with hr'|⟨p,hp,q,hq,e,rfl⟩
   ·exact hR r hr'
   ·refine ht _ p.2 _ (hR p hp) ?_;rw[e];exact hR q hq
theorem EZ {α:Type}{f:α->Dv}{H:Hs}{i k:Nat}{xs:List α}(e:getL H i=some (xs.map f)) (hk:k<xs.length):(cA i xs.length).get k H=some (f xs[k]):=by simp[cA,e,hk]
theorem E1 {α:Type}{f:α->Dv}{H:Hs}{i:Nat}{xs:List α}(e:getL H i=some (xs.map f)):(cA i xs.length).fin H=true:=by simp[cA,e]
theorem OU:∀ps:wo,bF rV (ps.map aI)=some (ps.map jY)
 | []=>rfl
 |p::ps=>by rw[dk,bF,OU ps];rfl
theorem z3i (ps:wo):yM (ps.map jY)=true:=by simp[yM,jY]
theorem z3j (ps:wo):(ps.map jY).map yL=ps.map aI:=by rw[jo];rfl
section
variable{H:Hs}{ps:wo}{d:Dv}
theorem OV (h:qO d H=some (ps.map jY)) (hl:(eO eU ps).length<64):mS d H=.ok (.ref H.length) (H++[.lst ((eO eU ps).map aI)]):=by unfold mS;rw[h];dsimp only;rw[ML uV,bc,if_pos (by rw[z3i];simpa using hl),z3j]
theorem z3k {i j:Nat}{ps qs:wo}(ei:getL H i=some (ps.map aI)) (ej:getL H j=some (qs.map aI)):bD (.ref i) (.ref j) H=.ok (.bl (decide (ps=qs))) H:=by
 have p:∀(i:Nat) (ps:wo),getL H i=some (ps.map aI)->bQ bY H (.ref i)=some (.lst (ps.map iP)):=λi ps e=>by show bQ (27+2+1) H (.ref i)=_;rw[bQ];simp only[e,yA]
 have dq:∀ps qs:wo,fS (ps.map iP) (qs.map iP)=decide (ps=qs):=λps=>by
  induction ps with
  |nil=>intro qs;cases qs <;> simp[fS]
  |cons p ps ih=>
   intro qs
   cases qs with
   |nil=>simp[fS]
   |cons q qs=>simp only[dk,fS,CS,ih];rw[cz];simp
 unfold bD;rw[p i ps ei,p j qs ej];simp only[bI,dq]
def sF:M Al :=bT (bK cB (aA 1)) [none,none,some 3,some 4] (cH 2 (aY (aE 0) (aY (aE 1) cK))) (mB (m2 bD (aA 3) (aA 0))) (bM (aK (aB (aA 2) (aB (aA 1) aC))))
def sG:MS:=aH (aL (aF (f1 lO) (aB (aA 1) aC)) (aE 2)) (aH (cU (bK cB (aA 1)) (cH 2 (aY (aE 3) (aY (aE 4) cK))) (cX (qH (aA 2) sF))) (aH (aL (aF (f1 mS) (aB (aA 2) aC)) (aE 2)) (aH (aW (mB (m2 bD (aA 2) (aA 1))) (aM (aA 1)) bE) (aL (aA 2) (aE 1)))))
theorem z3l:jI=aH (aL (aF (f1 mS) (aB (aA 0) aC)) (aE 1)) (iV (bN (mC (.bl true))) sG 40):=rfl
theorem z3m {x0 x2:Am}{i:Nat}{p:Int×Int}(hl:ps.length<=1000) (e:getL H i=some (ps.map aI)):sF [x0,some (.ref i),x2,some (.int p.1),some (.int p.2)] H=.ok ((eV ps p).map aI) H:=by
 have hi:bK cB (aA 1) [x0,some (.ref i),x2,some (.int p.1),some (.int p.2)] H=.ok (cA i ps.length) H:=by simp[bK,aA,cB,e]
 have h:sF [x0,some (.ref i),x2,some (.int p.1),some (.int p.2)] H=.ok (ps.filterMap λq=>if p.2=q.1 then some (aI (p.1,q.2))else none) H:=
  iG ps (λq=>if p.2=q.1 then some (aI (p.1,q.2))else none) (λρ=>∃a b,ρ=[a,b,some (.int p.1),some (.int p.2)]) hi rfl ⟨_,_,rfl⟩ (by simp[cA,e]) (λk hk ρ ⟨a,b,er⟩=>by
   subst er;refine⟨aI ps[k],[some (.int ps[k].1),some (.int ps[k].2),some (.int p.1),some (.int p.2)],by simp[cA,e,hk],rfl,⟨_,_,rfl⟩, ?_⟩;have te:mB (m2 bD (aA 3) (aA 0)) [some (.int ps[k].1),some (.int ps[k].2),some (.int p.1),some (.int p.2)] H=.ok (decide (p.2=ps[k].1)) H:=by simp[mB,m2,aA,bD,bY,bQ,bI,dZ];rw[cz];simp
   by_cases c:p.2=ps[k].1
   ·rw[if_pos c];rw[decide_eq_true c]at te;exact⟨te,rfl⟩
   ·rw[if_neg c];rw[decide_eq_false c]at te;exact te) (by omega)
 rw[h]
 congr 1
 unfold eV;rw[jo];have:∀l:wo,l.filterMap (λq=>if p.2=q.1 then some (aI (p.1,q.2))else none)=(l.filter λq=>decide (p.2=q.1)).map (aI∘λq=>(p.1,q.2)):=λl=>by
  induction l with
  |nil=>rfl
  |cons q l ih=>
   rw[bw,jb,ih]
   by_cases c:p.2=q.1 <;> simp[c]
 exact this ps
theorem OW (ps:wo) (p:Int×Int):(eV ps p).length<=ps.length:=by unfold eV;rw[bc];exact ie _ _
theorem OX (ps:wo):∀l:wo,(l.flatMap (eV ps)).length<=l.length*ps.length
 | []=>by simp
 |p::l=>by have h1:=OW ps p;have h2:=OX ps l;rw[iq,bq,cg,wc];omega
theorem z3n {x0 x3 x4:Am}{i j:Nat}(Cr:i≠j) (hl:ps.length<=40) (ei:getL H i=some (ps.map aI)) (ej:getL H j=some (ps.map aI)):
  ∃y3 y4,cU (bK cB (aA 1)) (cH 2 (aY (aE 3) (aY (aE 4) cK))) (cX (qH (aA 2) sF)) [x0,some (.ref i),some (.ref j),x3,x4] H=.nx [x0,some (.ref i),some (.ref j),y3,y4] (H.set j (.lst ((ps++ps.flatMap (eV ps)).map aI))):=by
 have hi:bK cB (aA 1) [x0,some (.ref i),some (.ref j),x3,x4] H=.ok (cA i ps.length) H:=by simp[bK,aA,cB,ei]
 have self:H.set j (.lst (ps.map aI))=H:=by
  apply nv
  intro k
  by_cases hk:j=k
  ·subst hk;rw[df (oG ej),dO ej]
  ·rw[du hk]
 obtain⟨ρ',H',h1,y3,y4,h2,h3⟩:=pP (b:=cX (qH (aA 2) sF)) (sg:=cH 2 (aY (aE 3) (aY (aE 4) cK))) hi (λk ρ H'=>∃(y3 y4:Am),ρ=[x0,some (.ref i),some (.ref j),y3,y4]/\H'=H.set j (.lst ((ps++(ps.take k).flatMap (eV ps)).map aI)))
  (λk ρ H' hk ⟨y3,y4,e1,e2⟩=>by
   subst e1;subst e2;have Dy:k<ps.length:=hk;have ei':getL (H.set j (.lst ((ps++(ps.take k).flatMap (eV ps)).map aI))) i=some (ps.map aI):=by rw[uP (cx Cr)];exact ei
   have ej':getL (H.set j (.lst ((ps++(ps.take k).flatMap (eV ps)).map aI))) j=some ((ps++(ps.take k).flatMap (eV ps)).map aI):=oF ej;have hlen:(ps++(ps.take k).flatMap (eV ps)).length<=40+40*40:=by have h1:=OX ps (ps.take k);have h2:(ps.take k).length*ps.length<=40*40:=mr (by rw[iz];omega) hl;rw[bq];omega
   have hf:=OW ps ps[k];refine⟨aI ps[k],[x0,some (.ref i),some (.ref j),some (.int ps[k].1),some (.int ps[k].2)],[x0,some (.ref i),some (.ref j),some (.int ps[k].1),some (.int ps[k].2)],_,EZ ei' Dy,rfl, ?_,_,_,rfl,rfl⟩;have hc:=z3m (x0:=x0) (x2:=some (.ref j)) (p:=ps[k]) (by omega) ei';generalize hG:H.set j (.lst ((ps++(ps.take k).flatMap (eV ps)).map aI))=G at ei' ej' hc;have isJ:jH (.ref j) G=true:=by simp[jH,ej']
   have hz:((ps++(ps.take k).flatMap (eV ps)).map aI).length+((eV ps ps[k]).map aI).length<=1000000:=by rw[bc,bc];omega
   have hx:xO (.ref j) ((eV ps ps[k]).map aI) G=.ok .non (G.set j (.lst ((ps++(ps.take (k+1)).flatMap (eV ps)).map aI))):=by unfold xO;simp only[ej',lim,hz,if_true];rw[og Dy,List.flatMap_append,<-lg];simp[rn]
   have:qH (aA 2) sF [x0,some (.ref i),some (.ref j),some (.int ps[k].1),some (.int ps[k].2)] G=.ok .non (G.set j (.lst ((ps++(ps.take (k+1)).flatMap (eV ps)).map aI))):=by unfold qH;show(Ft (Dv.ref j) G).bind _=_;rw[Rs.bind_ok,if_pos isJ,hc,Rs.bind_ok,hx]
   unfold cX;rw[this,<-hG,List.set_set];rfl)
  (λρ H' ⟨_,_,_,e2⟩=>by
   subst e2;have ei':getL (H.set j (.lst ((ps++(ps.take (cA i ps.length).n).flatMap (eV ps)).map aI))) i=some (ps.map aI):=by rw[uP (cx Cr)];exact ei
   exact E1 ei') ⟨x3,x4,rfl,by simp[self]⟩
 refine⟨y3,y4, ?_⟩;rw[h1,h2,h3];simp[cA]
end
section
variable{H:Hs}{ps:wo}
theorem OY {i:Nat}(e:getL H i=some (ps.map aI)):qO (.ref i) H=some (ps.map jY):=by simp only[qO,e,OU]
theorem E2 {x0 x2 x3 x4:Am}{i:Nat}(hl:ps.length<=40) (hs:(eQ ps).length<64) (e:getL H i=some (ps.map aI)):
  ∃H',Fr [] H H'/\getL H' i=some (ps.map aI)/\if eQ ps=ps then sG [x0,some (.ref i),x2,x3,x4] H=.rt (.ref i) H' else ∃(j:Nat) (y2 y3 y4:Am),sG [x0,some (.ref i),x2,x3,x4] H=.nx [x0,some (.ref j),y2,y3,y4] H'/\getL H' j=some ((eQ ps).map aI):=by
 have li:=oG e;have w0:aL (aF (f1 lO) (aB (aA 1) aC)) (aE 2) [x0,some (.ref i),x2,x3,x4] H=.nx [x0,some (.ref i),some (.ref H.length),x3,x4] (H++[.lst (ps.map aI)]):=by simp[aL,aF,f1,lO,gD,rK,fV,aB,aA,aC,e,aE]
 have ei:=iX (l:=[Fd (ps.map aI)]) e;have ej:getL (H++[Fd (ps.map aI)]) H.length=some (ps.map aI):=by simp[getL]
 have f0:Fr [] H (H++[Fd (ps.map aI)]):=Fe;generalize H++[Fd (ps.map aI)]=H0 at w0 ei ej f0;obtain⟨y3,y4,w1⟩:=z3n (x0:=x0) (x3:=x3) (x4:=x4) (i:=i) (j:=H.length) (by omega) hl ei ej;have ei1:getL (H0.set H.length (.lst ((ps++ps.flatMap (eV ps)).map aI))) i=some (ps.map aI):=by rw[uP (by omega)];exact ei
 have ej1:getL (H0.set H.length (.lst ((ps++ps.flatMap (eV ps)).map aI))) H.length=some ((ps++ps.flatMap (eV ps)).map aI):=oF ej;have f1':Fr [] H (H0.set H.length (.lst ((ps++ps.flatMap (eV ps)).map aI))):=f0.trans (T:=[H.length]) Fz (by simp);generalize H0.set H.length (.lst ((ps++ps.flatMap (eV ps)).map aI))=H1 at w1 ei1 ej1 f1';have w2:aL (aF (f1 mS) (aB (aA 2) aC)) (aE 2) [x0,some (.ref i),some (.ref H.length),y3,y4] H1=.nx [x0,some (.ref i),some (.ref H1.length),y3,y4] (H1++[.lst ((eQ ps).map aI)]):=by have hq:=OV (OY ej1) hs;simp[aL,aF,f1,aB,aA,aC,hq,aE,eQ]
 have ei2:=iX (l:=[Fd ((eQ ps).map aI)]) ei1;have ej2:getL (H1++[Fd ((eQ ps).map aI)]) H1.length=some ((eQ ps).map aI):=by simp[getL]
 have f2:Fr [] H (H1++[Fd ((eQ ps).map aI)]):=f1'.trans (T:=[]) Fe (by simp);generalize hH2:H1++[Fd ((eQ ps).map aI)]=H2 at w2 ei2 ej2 f2;have t:mB (m2 bD (aA 2) (aA 1)) [x0,some (.ref i),some (.ref H1.length),y3,y4] H2=.ok (decide (eQ ps=ps)) H2:=by simp[mB,m2,aA,z3k ej2 ei2,dZ]
 refine⟨H2,f2,ei2, ?_⟩
 by_cases c:eQ ps=ps
 ·rw[if_pos c];unfold sG;rw[bH w0,bH w1,bH w2];unfold aH;rw[pO (t.trans (by rw[decide_eq_true c]))];rfl
 ·rw[if_neg c];refine⟨H1.length,some (.ref H1.length),y3,y4, ?_,ej2⟩;unfold sG;rw[bH w0,bH w1,bH w2,bH (ρ1:=[x0,some (.ref i),some (.ref H1.length),y3,y4]) (h1:=H2) (by rw[iO (t.trans (by rw[decide_eq_false c]))];rfl)];rfl
theorem OZ {n:Nat}(hn:n<=6) {cs:wo}:∀(f:Nat) (ps:wo) (H:Hs) (i:Nat) (x0 x2 x3 x4:Am),fX eU ps->oP n ps->vK f ps=some cs->getL H i=some (ps.map aI)->
  ∃(j:Nat) (H':Hs),iV (bN (mC (.bl true))) sG f [x0,some (.ref i),x2,x3,x4] H=.rt (.ref j) H'/\getL H' j=some (cs.map aI)/\Fr [] H H'
 |0,ps,H,i,x0,x2,x3,x4,hr,hi,h,e=>by cases h
 |f+1,ps,H,i,x0,x2,x3,x4,hr,hi,h,e=>by
  have sq:n*n<=6*6:=mr hn hn;have l1:=vJ hr hi;have l2:=vJ (vL ps) (EY hi);obtain⟨H1,f1,e1,c1⟩:=E2 (x0:=x0) (x2:=x2) (x3:=x3) (x4:=x4) (by omega) (by omega) e;have tt:bN (mC (.bl true)) [x0,some (.ref i),x2,x3,x4] H=.ok true H:=rfl;unfold vK at h
  split at h
  ·rename_i c;cases h;rw[if_pos c]at c1;exact⟨i,H1,z2w tt c1,e1,f1⟩
  ·rename_i c;rw[if_neg c]at c1;obtain⟨j,y2,y3,y4,c2,ej⟩:=c1;obtain⟨k,H2,w,ek,f2⟩:=OZ hn f (eQ ps) H1 j x0 y2 y3 y4 (vL ps) (EY hi) h ej;exact⟨k,H2,by rw[OO tt c2];exact w,ek,f1.trans f2 (by simp)⟩
def O2 (n:Nat) (ps cs:wo):Prop:=fX eU cs/\oP n cs/\Tr cs/\(∀p∈ps,p∈cs)/\∀R:Int->Int->Prop,(∀a b c,R a b->R b c->R a c)->(∀p∈ps,R p.1 p.2)->∀p∈cs,R p.1 p.2
theorem z3o {n:Nat}{d:Dv}(hn:n<=6) (hi:oP n ps) (h:qO d H=some (ps.map jY)):∃(cs:wo) (j:Nat) (H':Hs),O2 n ps cs/\F_qh [d] H=.ok (.ref j) H'/\getL H' j=some (cs.map aI)/\Fr [] H H':=by
 have hs:oP n (eO eU ps):=λp hp=>hi p ((oJ Cz p ps).mp hp);have hr:=uT Cz ps;have sq:n*n<=6*6:=mr hn hn;have l1:=vJ hr hs;obtain⟨cs,c1,c2,c3,c4,c5,c6⟩:=OT hn 40 _ hr hs (by omega);have w0:aL (aF (f1 mS) (aB (aA 0) aC)) (aE 1) [some d,none,none,none,none] H=.nx [some d,some (.ref H.length),none,none,none] (H++[.lst ((eO eU ps).map aI)]):=by have hq:=OV h (by omega);simp[aL,aF,f1,aB,aA,aC,hq,aE]
 obtain⟨j,H',w1,ej,f1'⟩:=OZ hn 40 (eO eU ps) (H++[.lst ((eO eU ps).map aI)]) H.length (some d) none none none hr hs c1 (by simp[getL]);refine⟨cs,j,H',⟨c2,c3,c4,λp hp=>c5 p ((oJ Cz p ps).mpr hp),λR ht hR=>c6 R ht λp hp=>hR p ((oJ Cz p ps).mp hp)⟩, ?_,ej,(Fe (S:=[]) (l:=[.lst ((eO eU ps).map aI)])).trans f1' (by simp)⟩;show bJ (jI [some d,none,none,none,none] H)=_;rw[z3l,bH w0,w1];rfl
end
theorem qU {H:Hs}{i k:Nat}{xs:Ah}(e:getL H i=some (xs.map Fc)) (hk:k<xs.length):aN (.ref i) (.int (k:Int)) H=.ok (.int xs[k]) H:=by
 have h1:fR (xs.map Fc).length (k:Int)=some k:=by unfold fR;rw[bc,if_pos (by omega),if_pos (by omega)];simp
 have h2:gK (xs.map Fc) (k:Int)=some (.int xs[k]):=by unfold gK;rw[h1];simp[hk]
 simp only[aN,gD,gR,e,jP,h2,if_true]
theorem eq_int (x y:Int) (H:Hs):bD (.int x) (.int y) H=.ok (.bl (x==y)) H:=by simp[bD,bY,bQ,bI]
theorem E3:∀{ys:Ah},ys.Nodup->∀i (h:i<ys.length),fK ys[i] ys=some i
 | [],_,i,h=>by simp at h
 |y::ys,nd,0,h=>by simp[fK]
 |y::ys,nd,i+1,h=>by
  have h1:=ji.mp nd;have hi:i<ys.length:=by simpa using h
  have ne:y≠ys[i]:=λz=>h1.1 (by rw[z];exact cj hi);simp[fK,ne,E3 h1.2 i hi]
def zT (n:Nat) (ps:wo):Prop:=oP n ps/\∃f:Int->Int,∀p∈ps,f p.1<f p.2
theorem z3p {n:Nat}{ps cs:wo}(n1:1<=n) (n6:n<=6) (g:zT n ps) (c:O2 n ps cs):A' n cs:=by obtain⟨h1,h2,h3,h4,h5⟩:=c;obtain⟨_,f,hf⟩:=g;refine⟨n1,n6,h2,h1,λp hp e=>?_,h3⟩;have:=h5 (λa b=>f a<f b) (λa b c x y=>by omega) hf p hp;rw[e]at this;omega
section
variable{st ir ip im n:Nat}{ys ms:Ah}{w:Int}{d1:Dv}
def E4:MS:=aL (aS (aB (m2 bD (aF F_qy (aB (aA 0) (aB (mC (.int 6)) aC))) (mC (.int 0))) (aB (m2 bD (aF F_qy (aB (aA 0) (aB (mC (.int 2)) aC))) (mC (.int 0))) (aB (m2 kM (aF F_qy (aB (aA 0) (aB (mC (.int 4)) aC))) (mC (.int 0))) aC)))) (aE 9)
def E5:MS:=aL (m2 bO (aA 9) (aS (aB (m2 hV (m2 aN (aA 6) (aA 7)) (m2 aN (aA 6) (aA 8))) (aB (m2 bD (m2 aN (aA 6) (aA 7)) (m2 aN (aA 6) (aA 8))) aC)))) (aE 9)
def oB:MS:=aH E4 (aH E5 (aW (bN (m2 aN (aA 9) (aA 4))) (cX (gX (aA 5) (aK (aB (m2 aN (aA 3) (aA 7)) (aB (m2 aN (aA 3) (aA 8)) aC))))) bE))
structure Std (st ir im:Nat) (ys ms:Ah) (H:Hs):Prop where
 s:St st H
 r:getL H ir=some (ys.map Fc)
 m:getL H im=some (ms.map Fc)
theorem Std.fr {H H':Hs}{S:Ai}(h:Std st ir im ys ms H) (f:Fr S H H') (s':St st H') (h1:ir∉S) (h2:im∉S):Std st ir im ys ms H':=⟨s',f.getL h.r h1,f.getL h.m h2⟩
theorem mZ {H:Hs}{x9:Am}{ps:wo}{i j:Nat}(D:Std st ir im ys ms H) (ep:getL H ip=some (ps.map aI)) (hw:0<=w/\w<5) (hi:i<n) (hj:j<n) (hy:ys.length=n) (hm:ms.length=n) (hl:ps.length<=1000)
  (h1:ir≠st) (h2:im≠st) (h3:ip≠st) (h4:ir≠ip) (h5:im≠ip):
  ∃(Dq:Am) (H':Hs) (Bq:wo),oB [some (.ref st),some d1,some (.int n),some (.ref ir),some (.int w),some (.ref ip),some (.ref im),some (.int i),some (.int j),x9] H=.nx [some (.ref st),some d1,some (.int n),some (.ref ir),some (.int w),some (.ref ip),some (.ref im),some (.int i),some (.int j),Dq] H'/\getL H' ip=some (Bq.map aI)/\(Bq=ps∨Bq=ps++[(ys.getD i 0,ys.getD j 0)])/\Std st ir im ys ms H'/\Fr [st,ip] H H':=by
 obtain⟨r0,H0,_,_,t0,f0,s0⟩:=mY 6 D.s;obtain⟨r1,H1,_,_,t1,f1,s1⟩:=mY 2 s0;obtain⟨r2,H2,_,_,t2,f2,s2⟩:=mY 4 s1;have f02:Fr [st] H H2:=(f0.trans f1 (by simp)).trans f2 (by simp);have D2:=D.fr f02 s2 (by simpa using h1) (by simpa using h2);have ep2:=f02.getL ep (by simpa using h3);have w1:E4 [some (.ref st),some d1,some (.int n),some (.ref ir),some (.int w),some (.ref ip),some (.ref im),some (.int i),some (.int j),x9] H=.nx [some (.ref st),some d1,some (.int n),some (.ref ir),some (.int w),some (.ref ip),some (.ref im),some (.int i),some (.int j),some (.ref H2.length)] (H2++[.lst [.bl (r0==0),.bl (r1==0),.bl (decide (r2>0))]]):=by simp[E4,aL,aS,aB,m2,aF,aA,mC,aC,t0,t1,t2,eq_int,kM,iC,lim,aE]
 have fA:Fr [] H2 (H2++[.lst [.bl (r0==0),.bl (r1==0),.bl (decide (r2>0))]]):=Fe;have eA:getL (H2++[.lst [.bl (r0==0),.bl (r1==0),.bl (decide (r2>0))]]) H2.length=some [.bl (r0==0),.bl (r1==0),.bl (decide (r2>0))]:=by simp[getL]
 have DA:=D2.fr fA (s2.fr fA (by simp)) (by simp) (by simp);have epA:=fA.getL ep2 (by simp);have fHA:Fr [st] H (H2++[.lst [.bl (r0==0),.bl (r1==0),.bl (decide (r2>0))]]):=f02.trans fA (by simp);generalize H2++[Fd [.bl (r0==0),.bl (r1==0),.bl (decide (r2>0))]]=HA at w1 fA eA DA epA fHA;have hmi:=qU DA.m (k:=i) (by omega);have hmj:=qU DA.m (k:=j) (by omega);have eA':=iX (l:=[Fd [.bl (decide (ms[i]<ms[j])),.bl (ms[i]==ms[j])]]) eA;have eB:getL (HA++[Fd [.bl (decide (ms[i]<ms[j])),.bl (ms[i]==ms[j])]]) HA.length=some [.bl (decide (ms[i]<ms[j])),.bl (ms[i]==ms[j])]:=by simp[getL]
 have w2:E5 [some (.ref st),some d1,some (.int n),some (.ref ir),some (.int w),some (.ref ip),some (.ref im),some (.int i),some (.int j),some (.ref H2.length)] HA=.nx [some (.ref st),some d1,some (.int n),some (.ref ir),some (.int w),some (.ref ip),some (.ref im),some (.int i),some (.int j),some (.ref (HA.length+1))] (HA++[.lst [.bl (decide (ms[i]<ms[j])),.bl (ms[i]==ms[j])]]++[.lst [.bl (r0==0),.bl (r1==0),.bl (decide (r2>0)),.bl (decide (ms[i]<ms[j])),.bl (ms[i]==ms[j])]]):=by simp[E5,aL,m2,aS,aB,aA,hmi,hmj,hV,eq_int,aC,lim,bO,lC,eA',eB,aE]
 have fB:Fr [] HA (HA++[.lst [.bl (decide (ms[i]<ms[j])),.bl (ms[i]==ms[j])]]++[.lst [.bl (r0==0),.bl (r1==0),.bl (decide (r2>0)),.bl (decide (ms[i]<ms[j])),.bl (ms[i]==ms[j])]]):=Ga (T:=[]) Fe Fe (by simp);have eN:getL (HA++[.lst [.bl (decide (ms[i]<ms[j])),.bl (ms[i]==ms[j])]]++[.lst [.bl (r0==0),.bl (r1==0),.bl (decide (r2>0)),.bl (decide (ms[i]<ms[j])),.bl (ms[i]==ms[j])]]) (HA.length+1)=some [.bl (r0==0),.bl (r1==0),.bl (decide (r2>0)),.bl (decide (ms[i]<ms[j])),.bl (ms[i]==ms[j])]:=by simp[getL]
 have DB:=DA.fr fB (DA.s.fr fB (by simp)) (by simp) (by simp);have epB:=fB.getL epA (by simp);have fHB:=fHA.trans fB (by simp);generalize HA++[Fd [.bl (decide (ms[i]<ms[j])),.bl (ms[i]==ms[j])]]++[Fd [.bl (r0==0),.bl (r1==0),.bl (decide (r2>0)),.bl (decide (ms[i]<ms[j])),.bl (ms[i]==ms[j])]]=HB at w2 fB eN DB epB fHB;have near:∃b,aN (.ref (HA.length+1)) (.int w) HB=.ok (.bl b) HB:=by
  have hw':w=0∨w=1∨w=2∨w=3∨w=4:=by omega
  rcases hw' with rfl|rfl|rfl|rfl|rfl
  ·exact⟨_,by simp only[aN,gD,gR,eN];rfl⟩
  ·exact⟨_,by simp only[aN,gD,gR,eN];rfl⟩
  ·exact⟨_,by simp only[aN,gD,gR,eN];rfl⟩
  ·exact⟨_,by simp only[aN,gD,gR,eN];rfl⟩
  ·exact⟨_,by simp only[aN,gD,gR,eN];rfl⟩
 obtain⟨b,hb⟩:=near;have t:bN (m2 aN (aA 9) (aA 4)) [some (.ref st),some d1,some (.int n),some (.ref ir),some (.int w),some (.ref ip),some (.ref im),some (.int i),some (.int j),some (.ref (HA.length+1))] HB=.ok b HB:=by simp[bN,m2,aA,hb,fT]
 cases b with
 |false=>refine⟨some (.ref (HA.length+1)),HB,ps, ?_,epB,.inl rfl,DB,fHB.mono (by simp)⟩;unfold oB;rw[bH w1,bH w2,iO t];rfl
 |true=>
  have hyi:=qU DB.r (k:=i) (by omega);have hyj:=qU DB.r (k:=j) (by omega);have gi:ys[i]=ys.getD i 0:=by simp[show i<ys.length by omega]
  have gj:ys[j]=ys.getD j 0:=by simp[show j<ys.length by omega]
  rw[gi]at hyi;rw[gj]at hyj;generalize ys.getD i 0=va at hyi ⊢;generalize ys.getD j 0=vb at hyj ⊢;have hz:(ps.map aI).length<1000000:=by rw[bc];omega
  have fC:Fr [ip] HB (HB.set ip (.lst ((ps++[(va,vb)]).map aI))):=Fz;refine⟨some (.ref (HA.length+1)),HB.set ip (.lst ((ps++[(va,vb)]).map aI)),ps++[(va,vb)], ?_,oF epB,.inr rfl,DB.fr fC (DB.s.fr fC (by simpa using cx h3)) (by simpa using h4) (by simpa using h5),(fHB.mono (T:=[st,ip]) (by simp)).trans fC (by simp)⟩;unfold oB;rw[bH w1,bH w2,pO t];have isP':jH (.ref ip) HB=true:=by simp[jH,epB]
  have happ:pI (.ref ip) (.tup [.int (va),.int (vb)]) HB=.ok .non (HB.set ip (.lst ((ps++[(va,vb)]).map aI))):=by simp only[pI,epB,hz,if_true,lg];rfl
  simp[cX,gX,aA,isP',aK,aB,m2,hyi,hyj,aC,lim,happ]
end
theorem E6 {m:Int}(h0:0<=m) (h:m<=100):lE m=true:=by
 have h1:(-4611686018427387904:Int)<=m:=by omega
 have h2:m<4611686018427387904:=by omega
 unfold lE;rw[decide_eq_true h1,decide_eq_true h2];rfl
theorem zU {H:Hs}{j:Int}(h0:0<=j) (h1:j<=100):cQ [.int j] H=.ok (cT 0 j) H:=by simp only[cQ,E6 h0 h1,if_true]
theorem O3 {H:Hs}{i j:Int}(h0:0<=i) (h1:i<=100) (h2:0<=j) (h3:j<=100):jG [.int i,.int j] H=.ok (cT i j) H:=by simp only[jG,E6 h0 h1,E6 h2 h3,and_self,if_true]
def sH (ys:Ah) (n:Nat) (ps:wo):Prop:=∀p∈ps,∃i j,i<j/\j<n/\p=(ys.getD i 0,ys.getD j 0)
section
variable{st ir ip im n:Nat}{ys ms:Ah}{w:Int}{d1:Dv}
abbrev cI (st ir ip im n:Nat) (w:Int) (d1:Dv) (x7 x8 x9:Am):Ev:=[some (.ref st),some d1,some (.int n),some (.ref ir),some (.int w),some (.ref ip),some (.ref im),x7,x8,x9]
def kA:MS:=cU (aR jG (aB (m2 bO (aA 7) (mC (.int 1))) (aB (aA 2) aC))) (aE 8) oB
theorem nA {H:Hs}{x8 x9:Am}{ps:wo}{i:Nat}(D:Std st ir im ys ms H) (ep:getL H ip=some (ps.map aI)) (hw:0<=w/\w<5) (hi:i<n) (hn:n<=6) (hy:ys.length=n) (hm:ms.length=n) (hl:ps.length<=500) (hb:sH ys n ps)
  (h1:ir≠st) (h2:im≠st) (h3:ip≠st) (h4:ir≠ip) (h5:im≠ip):
  ∃(En Dq:Am) (H':Hs) (Bq:wo),kA (cI st ir ip im n w d1 (some (.int i)) x8 x9) H=.nx (cI st ir ip im n w d1 (some (.int i)) En Dq) H'/\getL H' ip=some (Bq.map aI)/\sH ys n Bq/\Bq.length<=ps.length+6/\Std st ir im ys ms H'/\Fr [st,ip] H H':=by
 have hi0:aR jG (aB (m2 bO (aA 7) (mC (.int 1))) (aB (aA 2) aC)) (cI st ir ip im n w d1 (some (.int i)) x8 x9) H=.ok (cT ((i:Int)+1) n) H:=by have q:aB (m2 bO (aA 7) (mC (.int 1))) (aB (aA 2) aC) (cI st ir ip im n w d1 (some (.int i)) x8 x9) H=.ok [.int ((i:Int)+1),.int n] H:=rfl;unfold aR;rw[q,Rs.bind_ok];exact O3 (by omega) (by omega) (by omega) (by omega)
 have hN:(cT ((i:Int)+1) (n:Int)).n=n - (i+1):=by show((n:Int) - ((i:Int)+1)).toNat=_;omega
 obtain⟨ρ',H',r1,En,Dq,Bq,e1,e2,e3,e4,e5,e6⟩:=pP (b:=oB) (sg:=aE 8) hi0 (λk ρ H'=>∃(En Dq:Am) (Bq:wo),ρ=cI st ir ip im n w d1 (some (.int i)) En Dq/\getL H' ip=some (Bq.map aI)/\sH ys n Bq/\Bq.length<=ps.length+k/\Std st ir im ys ms H'/\Fr [st,ip] H H')
  (λk ρ H' hk ⟨En,Dq,Bq,e1,e2,e3,e4,e5,e6⟩=>by
   subst e1;rw[hN]at hk;have hj:i+1+k<n:=by omega
   obtain⟨x9n,H2,ps2,b1,b2,b3,b4,b5⟩:=mZ (x9:=Dq) (w:=w) (d1:=d1) (ip:=ip) (n:=n) (i:=i) (j:=i+1+k) e5 e2 hw hi hj hy hm (by omega) h1 h2 h3 h4 h5;have ej:(((i+1+k:Nat)):Int)=(i:Int)+1+(k:Int):=by omega
   rw[ej]at b1;refine⟨.int ((i:Int)+1+(k:Int)),cI st ir ip im n w d1 (some (.int i)) (some (.int ((i:Int)+1+(k:Int)))) Dq,_,H2,rfl,rfl,b1,_,_,ps2,rfl,b2, ?_, ?_,b4,e6.trans b5 λj hj=>.inl hj⟩
   ·rcases b3 with rfl|rfl
    ·exact e3
    ·intro p hp
     rcases cy.mp hp with hp|hp
     ·exact e3 p hp
     ·rw[dj.mp hp];exact⟨i,i+1+k,by omega,hj,rfl⟩
   ·rcases b3 with rfl|rfl
    ·omega
    ·rw[bq];simp;omega) (λ_ _ _=>rfl) ⟨x8,x9,ps,rfl,ep,hb,by omega,D,Fh⟩
 rw[hN]at e4;exact⟨En,Dq,H',Bq,by unfold kA;rw[r1,e1],e2,e3,by omega,e5,e6⟩
def kS:MS:=cU (aR cQ (aB (aA 2) aC)) (aE 7) kA
theorem nB {H:Hs}{x7 x8 x9:Am}(D:Std st ir im ys ms H) (ep:getL H ip=some (([]:wo).map aI)) (hw:0<=w/\w<5) (hn:n<=6) (hy:ys.length=n) (hm:ms.length=n)
  (h1:ir≠st) (h2:im≠st) (h3:ip≠st) (h4:ir≠ip) (h5:im≠ip):
  ∃(x7' En Dq:Am) (H':Hs) (Bq:wo),kS (cI st ir ip im n w d1 x7 x8 x9) H=.nx (cI st ir ip im n w d1 x7' En Dq) H'/\getL H' ip=some (Bq.map aI)/\sH ys n Bq/\Std st ir im ys ms H'/\Fr [st,ip] H H':=by
 have hi0:aR cQ (aB (aA 2) aC) (cI st ir ip im n w d1 x7 x8 x9) H=.ok (cT 0 n) H:=by have q:aB (aA 2) aC (cI st ir ip im n w d1 x7 x8 x9) H=.ok [.int n] H:=rfl;unfold aR;rw[q,Rs.bind_ok];exact zU (by omega) (by omega)
 have hN:(cT 0 (n:Int)).n=n:=by simp[cT]
 obtain⟨ρ',H',r1,x7',En,Dq,Bq,e1,e2,e3,e4,e5,e6⟩:=pP (b:=kA) (sg:=aE 7) hi0 (λk ρ H'=>∃(x7' En Dq:Am) (Bq:wo),ρ=cI st ir ip im n w d1 x7' En Dq/\getL H' ip=some (Bq.map aI)/\sH ys n Bq/\Bq.length<=6*k/\Std st ir im ys ms H'/\Fr [st,ip] H H')
  (λk ρ H' hk ⟨x7',En,Dq,Bq,e1,e2,e3,e4,e5,e6⟩=>by
   subst e1;rw[hN]at hk;obtain⟨x8n,x9n,H2,ps2,b1,b2,b3,b4,b5,b6⟩:=nA (x8:=En) (x9:=Dq) (w:=w) (d1:=d1) (ip:=ip) (n:=n) (i:=k) e5 e2 hw hk hn hy hm (by omega) e3 h1 h2 h3 h4 h5;have ek:(0:Int)+(k:Int)=(k:Int):=by omega
   refine⟨.int (0+(k:Int)),cI st ir ip im n w d1 (some (.int k)) En Dq,_,H2,rfl,by rw[ek];rfl,b1,_,_,_,ps2,rfl,b2,b3,by omega,b5,e6.trans b6 λj hj=>.inl hj⟩) (λ_ _ _=>rfl) ⟨x7,x8,x9,[],rfl,ep,λp hp=>by simp at hp,by simp,D,Fh⟩
 exact⟨x7',En,Dq,H',Bq,by unfold kS;rw[r1,e1],e2,e3,e5,e6⟩
theorem z3q (pm:ys.Perm (bS n)) {ps:wo}(h:sH ys n ps):zT n ps:=by
 have hl:ys.length=n:=by rw[pm.length_eq];simp[bS]
 have nd:ys.Nodup:=by refine pm.nodup_iff.mpr ?_;unfold bS;simp only[gh];refine List.Pairwise.map _ ?_ (sr (n:=n));intro a b h e;exact h (by omega)
 have mem:∀i,i<n->0<=ys.getD i 0/\ys.getD i 0<n:=λi hi=>by have hm:ys.getD i 0∈bS n:=pm.mem_iff.mp (by simp[show i<ys.length by omega]);simp only[bS,cf,br,gh]at hm;obtain⟨k,hk,e⟩:=hm;omega
 refine⟨λp hp=>?_,λa=>((fK a ys).getD 0:Nat),λp hp=>?_⟩
 ·obtain⟨i,j,Cr,hj,rfl⟩:=h p hp;exact⟨(mem i (by omega)).1,(mem i (by omega)).2,(mem j hj).1,(mem j hj).2⟩
 ·obtain⟨i,j,Cr,hj,rfl⟩:=h p hp;have hi':i<ys.length:=by omega
  have hj':j<ys.length:=by omega
  have e1:ys.getD i 0=ys[i]:=by simp[hi']
  have e2:ys.getD j 0=ys[j]:=by simp[hj']
  simp only[e1,e2,E3 nd i hi',E3 nd j hj',Option.getD_some];omega
def E7 (ms:Ah) (n:Nat) (ps:wo):Prop:=∀p∈ps,∃i j:Nat,i<n/\j<n/\ms.getD i 0<ms.getD j 0/\p=((i:Int),(j:Int))
theorem z3r {ps:wo}(h:E7 ms n ps):zT n ps:=by
 refine⟨λp hp=>?_,λa=>ms.getD a.toNat 0,λp hp=>?_⟩
 ·obtain⟨i,j,hi,hj,_,rfl⟩:=h p hp;exact⟨by simp,by simpa using hi,by simp,by simpa using hj⟩
 ·obtain⟨i,j,hi,hj,hlt,rfl⟩:=h p hp;simpa using hlt
def zV:M Al :=bT (aR cQ (aB (aA 2) aC)) [none,some 7,some 6] (aE 0) (mB (m2 hV (m2 aN (aA 2) (aA 1)) (m2 aN (aA 2) (aA 0)))) (bM (aK (aB (aA 1) (aB (aA 0) aC))))
def vM:MS:=aL (m2 bO (aA 5) (bU zV)) (aE 5)
def hW (ms:Ah) (n i:Nat):wo:=(bp n).filterMap λj=>if ms.getD i 0<ms.getD j 0 then some ((i:Int),(j:Int))else none
theorem z3s {H:Hs}{x8 x9:Am}{i:Nat}(em:getL H im=some (ms.map Fc)) (hi:i<n) (hn:n<=6) (hm:ms.length=n):
  zV (cI st ir ip im n w d1 (some (.int i)) x8 x9) H=.ok ((hW ms n i).map aI) H:=by
 have hi0:aR cQ (aB (aA 2) aC) (cI st ir ip im n w d1 (some (.int i)) x8 x9) H=.ok (cT 0 n) H:=by have q:aB (aA 2) aC (cI st ir ip im n w d1 (some (.int i)) x8 x9) H=.ok [.int n] H:=rfl;unfold aR;rw[q,Rs.bind_ok];exact zU (by omega) (by omega)
 have h:zV (cI st ir ip im n w d1 (some (.int i)) x8 x9) H=.ok ((bp n).filterMap λj=>if ms.getD i 0<ms.getD j 0 then some (aI ((i:Int),(j:Int)))else none) H:=
  iG (bp n) (λj=>if ms.getD i 0<ms.getD j 0 then some (aI ((i:Int),(j:Int)))else none) (λρ=>∃a,ρ=[a,some (.int i),some (.ref im)]) hi0 (by simp[cT]) ⟨_,rfl⟩ rfl (λk hk ρ ⟨a,er⟩=>by
   subst er;have Dy:k<n:=by simpa using hk
   have gk:(bp n)[k]=k:=by simp
   rw[gk];have ek:(0:Int)+(k:Int)=(k:Int):=by omega
   refine⟨.int (0+(k:Int)),[some (.int k),some (.int i),some (.ref im)],rfl,by rw[ek];rfl,⟨_,rfl⟩, ?_⟩;have x1:=qU em (k:=i) (by omega);have x2:=qU em (k:=k) (by omega);have g1:ms[i]=ms.getD i 0:=by simp[show i<ms.length by omega]
   have g2:ms[k]=ms.getD k 0:=by simp[show k<ms.length by omega]
   rw[g1]at x1;rw[g2]at x2;generalize ms.getD i 0=va at x1 ⊢;generalize ms.getD k 0=vb at x2 ⊢;have te:mB (m2 hV (m2 aN (aA 2) (aA 1)) (m2 aN (aA 2) (aA 0))) [some (.int k),some (.int i),some (.ref im)] H=.ok (decide (va<vb)) H:=by simp[mB,m2,aA,x1,x2,hV,dZ]
   by_cases c:va<vb
   ·rw[if_pos c];rw[decide_eq_true c]at te;exact⟨te,rfl⟩
   ·rw[if_neg c];rw[decide_eq_false c]at te;exact te) (by simp;omega)
 have e:((bp n).filterMap λj=>if ms.getD i 0<ms.getD j 0 then some (aI ((i:Int),(j:Int)))else none)=(hW ms n i).map aI:=by
  unfold hW;rw[List.map_filterMap];refine NW _ λj _=>?_
  split <;> rfl
 rw[h,e]
theorem z3t {H:Hs}{ip0:Nat}{x7 x8 x9:Am}(D:Std st ir im ys ms H) (ep:getL H ip0=some (([]:wo).map aI)) (hn:n<=6) (hm:ms.length=n):
  ∃(Ep:Nat) (x7':Am) (H':Hs) (Bq:wo),cU (aR cQ (aB (aA 2) aC)) (aE 7) vM (cI st ir ip0 im n w d1 x7 x8 x9) H=.nx (cI st ir Ep im n w d1 x7' x8 x9) H'/\getL H' Ep=some (Bq.map aI)/\E7 ms n Bq/\Fr [] H H':=by
 have hi0:aR cQ (aB (aA 2) aC) (cI st ir ip0 im n w d1 x7 x8 x9) H=.ok (cT 0 n) H:=by have q:aB (aA 2) aC (cI st ir ip0 im n w d1 x7 x8 x9) H=.ok [.int n] H:=rfl;unfold aR;rw[q,Rs.bind_ok];exact zU (by omega) (by omega)
 have hN:(cT 0 (n:Int)).n=n:=by simp[cT]
 obtain⟨ρ',H',r1,Ep,x7',Bq,e1,e2,e3,e4,e5⟩:=pP (b:=vM) (sg:=aE 7) hi0 (λk ρ H'=>∃(Ep:Nat) (x7':Am) (Bq:wo),ρ=cI st ir Ep im n w d1 x7' x8 x9/\getL H' Ep=some (Bq.map aI)/\E7 ms n Bq/\Bq.length<=6*k/\Fr [] H H')
  (λk ρ H' hk ⟨Ep,x7',Bq,e1,e2,e3,e4,e5⟩=>by
   subst e1;rw[hN]at hk;have em:=e5.getL D.m (by simp);have hc:=z3s (st:=st) (ir:=ir) (ip:=Ep) (w:=w) (d1:=d1) (x8:=x8) (x9:=x9) em hk hn hm;have hrl:(hW ms n k).length<=6:=by have:=nh (λj=>if ms.getD k 0<ms.getD j 0 then some ((k:Int),(j:Int))else none) (bp n);unfold hW;rw[ly]at this;omega
   have ek:(0:Int)+(k:Int)=(k:Int):=by omega
   have ep1:=iX (l:=[Fd ((hW ms n k).map aI)]) e2;have eq1:getL (H'++[Fd ((hW ms n k).map aI)]) H'.length=some ((hW ms n k).map aI):=by simp[getL]
   have hz:(Bq.map aI).length+((hW ms n k).map aI).length<=1000000:=by rw[bc,bc];omega
   have hb:vM (cI st ir Ep im n w d1 (some (.int k)) x8 x9) H'=.nx (cI st ir (H'.length+1) im n w d1 (some (.int k)) x8 x9) (H'++[Fd ((hW ms n k).map aI)]++[Fd ((Bq++hW ms n k).map aI)]):=by
    have ha:bO (.ref Ep) (.ref H'.length) (H'++[Fd ((hW ms n k).map aI)])=.ok (.ref (H'.length+1)) (H'++[Fd ((hW ms n k).map aI)]++[Fd ((Bq++hW ms n k).map aI)]):=by show lC (.ref Ep) (.ref H'.length) (H'++[Fd ((hW ms n k).map aI)])=_;simp only[lC,ep1,eq1,lim,hz,if_true];simp
    have hal:bU zV (cI st ir Ep im n w d1 (some (.int k)) x8 x9) H'=.ok (.ref H'.length) (H'++[Fd ((hW ms n k).map aI)]):=by unfold bU;rw[hc];rfl
    unfold vM aL m2;show((Ft (Dv.ref Ep) H').bind _).thenS _=_;rw[Rs.bind_ok,hal,Rs.bind_ok,ha];rfl
   refine⟨.int (0+(k:Int)),cI st ir Ep im n w d1 (some (.int k)) x8 x9,_,_,rfl,by rw[ek];rfl,hb,H'.length+1,_,Bq++hW ms n k,rfl,by simp[getL], ?_,by rw[bq];omega,e5.trans (Ga (T:=[]) (Fe (S:=[])) Fe (by simp)) (by simp)⟩;intro p hp
   rcases cy.mp hp with hp|hp
   ·exact e3 p hp
   ·unfold hW at hp;obtain⟨j,hj,e⟩:=jv.mp hp
    split at e
    ·rename_i c;cases e;exact⟨k,j,hk,br.mp hj,c,rfl⟩
    ·cases e) (λ_ _ _=>rfl) ⟨ip0,x7,[],rfl,ep,λp hp=>by simp at hp,by simp,Fh⟩
 exact⟨Ep,x7',H',Bq,by rw[r1,e1],e2,e3,e5⟩
end
def o1:MS:=aL (m2 eI (aA 1) (m2 aN (aS (aB (mC (.int 0)) (aB (mC (.int 0)) (aB (mC (.int 1)) (aB (mC (.int 2)) (aB (mC (.int 0)) (aB (mC (.int 3)) (aB (mC (.int 1)) (aB (mC (.int 4)) aC))))))))) (aF F_qy (aB (aA 0) (aB (mC (.int 8)) aC))))) (aE 2)
def o2:MS:=aL (aF iD (aB (mC (.int 1)) (aB (aA 2) aC))) (aE 2)
def o3:MS:=aL (aF F_qc (aB (aA 0) (aB (aF (f1 rW) (aB (aA 2) aC)) aC))) (aE 3)
def o4:MS:=aL (aF F_qy (aB (aA 0) (aB (mC (.int 5)) aC))) (aE 4)
def o5:MS:=aL (aS aC) (aE 5)
def kT:M Al :=bT (bK cB (aA 3)) [none,some 0] (aE 0) eK (bM (aF F_qy (aB (aA 1) (aB (mC (.int 3)) aC))))
def o6:MS:=aL (bU kT) (aE 6)
def o8:MS:=aW (mB (m2 bD (aA 4) (mC (.int 3)))) (aH (aL (aS aC) (aE 5)) (cU (aR cQ (aB (aA 2) aC)) (aE 7) vM)) bE
def o9:MS:=aM (aK (aB (aA 2) (aB (aF (f1 iT) (aB (aF F_qh (aB (aA 5) aC)) aC)) aC)))
theorem nE:jJ=aH o1 (aH o2 (aH o3 (aH o4 (aH o5 (aH o6 (aH kS (aH o8 o9))))))):=rfl
section
variable{st:Nat}
theorem nF {H:Hs}{m:Int}{x2 x3 x4 x5 x6 x7 x8 x9:Am}(s:St st H):∃(v:Int) (H':Hs),0<=v/\v<=4/\o1 [some (.ref st),some (.int m),x2,x3,x4,x5,x6,x7,x8,x9] H=.nx [some (.ref st),some (.int m),some (.int (m - v)),x3,x4,x5,x6,x7,x8,x9] H'/\St st H'/\Fr [st] H H':=by
 have fA:Fr [] H (H++[Fd [.int 0,.int 0,.int 1,.int 2,.int 0,.int 3,.int 1,.int 4]]):=Fe;have eA:getL (H++[Fd [.int 0,.int 0,.int 1,.int 2,.int 0,.int 3,.int 1,.int 4]]) H.length=some (([0,0,1,2,0,3,1,4]:Ah).map Fc):=by simp[getL]
 have sA:=s.fr fA (by simp);have lt:=s.lt;have hd:aS (aB (mC (.int 0)) (aB (mC (.int 0)) (aB (mC (.int 1)) (aB (mC (.int 2)) (aB (mC (.int 0)) (aB (mC (.int 3)) (aB (mC (.int 1)) (aB (mC (.int 4)) aC)))))))) [some (.ref st),some (.int m),x2,x3,x4,x5,x6,x7,x8,x9] H=.ok (.ref H.length) (H++[Fd [.int 0,.int 0,.int 1,.int 2,.int 0,.int 3,.int 1,.int 4]]):=rfl;generalize H++[Fd [.int 0,.int 0,.int 1,.int 2,.int 0,.int 3,.int 1,.int 4]]=HA at fA eA sA hd;obtain⟨r,H1,r0,r1,t1,f1,s1⟩:=mY 8 sA;have e1:=f1.getL eA (by simp;omega);obtain⟨k,rfl⟩:∃k:Nat,r=k:=⟨r.toNat,by omega⟩
 have hk:k<8:=by omega
 have hx:=qU e1 (k:=k) (by simpa using hk);have hv:0<=([0,0,1,2,0,3,1,4]:Ah)[k]/\([0,0,1,2,0,3,1,4]:Ah)[k]<=4:=by
  match k,hk with
  |0,_=>simp
  |1,_=>simp
  |2,_=>simp
  |3,_=>simp
  |4,_=>simp
  |5,_=>simp
  |6,_=>simp
  |7,_=>simp
 generalize ([0,0,1,2,0,3,1,4]:Ah)[k]=v at hx hv;refine⟨v,H1,hv.1,hv.2, ?_,s1,fA.mono (T:=[st]) (by simp) |>.trans f1 (by simp)⟩;have ht:aF F_qy (aB (aA 0) (aB (mC (.int 8)) aC)) [some (.ref st),some (.int m),x2,x3,x4,x5,x6,x7,x8,x9] HA=.ok (.int k) H1:=by simp[aF,aB,aA,mC,aC,t1]
 unfold o1 aL m2;show((Ft (Fc m) H).bind _).thenS _=_;rw[Rs.bind_ok,hd,Rs.bind_ok,ht,Rs.bind_ok,hx,Rs.bind_ok];rfl
theorem nG {H:Hs}{ir:Nat}{ys:Ah}{x1 x2 x4 x5 x6 x7 x8 x9:Am}(s:St st H) (er:getL H ir=some (ys.map Fc)) (hrs:ir≠st) (hl:ys.length<=100):∃(ms:Ah) (H':Hs),ms.length=ys.length/\o6 [some (.ref st),x1,x2,some (.ref ir),x4,x5,x6,x7,x8,x9] H=.nx [some (.ref st),x1,x2,some (.ref ir),x4,x5,some (.ref H'.length),x7,x8,x9] (H'++[.lst (ms.map Fc)])/\St st H'/\Fr [st] H H':=by
 have hi:bK cB (aA 3) [some (.ref st),x1,x2,some (.ref ir),x4,x5,x6,x7,x8,x9] H=.ok (cA ir ys.length) H:=by simp[bK,aA,cB,er]
 obtain⟨ρ',H',Ex,h1,a,ms,h2,h3,h4,h5,h6⟩:=CP (src:=cA ir ys.length) (sg:=aE 0) (t:=eK) (m:=bM (aF F_qy (aB (aA 1) (aB (mC (.int 3)) aC))))
  (λk ρ H' acc=>∃(a:Am) (ms:Ah),ρ=[a,some (.ref st)]/\acc=ms.map Fc/\ms.length=k/\St st H'/\Fr [st] H H')
  (λk ρ H' acc hk ⟨a,ms,e1,e2,e3,e4,e5⟩=>by
   subst e1;subst e2;have Dy:k<ys.length:=hk;obtain⟨r,H1,r0,r1,t1,f1,s1⟩:=mY 3 e4;have er':=e5.getL er (by simpa using hrs);refine⟨.int ys[k],[some (.int ys[k]),some (.ref st)],EZ er' Dy,rfl,.inr ⟨H',[some (.int ys[k]),some (.ref st)],(ms++[r]).map Fc,H1,rfl, ?_,_,ms++[r],rfl,rfl,by simp[e3],s1,e5.trans f1 (by simp)⟩⟩;have hz:ms.length<1000000:=by omega
   simp[bM,aF,aB,aA,mC,aC,t1,hz]) (λρ H' acc ⟨_,_,_,_,_,_,e5⟩=>E1 (e5.getL er (by simpa using hrs))) ys.length 0 [none,some (.ref st)] H [] (by simp[cA]) ⟨none,[],rfl,rfl,rfl,s,Fh⟩
 refine⟨ms,H',h4, ?_,h5,h6⟩;have hc:kT [some (.ref st),x1,x2,some (.ref ir),x4,x5,x6,x7,x8,x9] H=.ok (ms.map Fc) H':=by unfold kT bT;rw[hi,Rs.bind_ok];have hcap:jS [none,some 0] [some (.ref st),x1,x2,some (.ref ir),x4,x5,x6,x7,x8,x9]=[none,some (.ref st)]:=rfl;rw[hcap,show(cA ir ys.length).n=ys.length from rfl,h1];dsimp only;rw[h3]
 unfold o6 aL bU;rw[hc];rfl
theorem nI {H:Hs}(s:St st H):∃(n:Nat) (cs:wo) (H':Hs),F_ql [.ref st,.int 6] H=.ok (aQ n cs) H'/\A' n cs/\St st H'/\Fr [st] H H':=by
 have lt:=s.lt;obtain⟨v,H1,v0,v1,w1,s1,f1'⟩:=nF (m:=6) (x2:=none) (x3:=none) (x4:=none) (x5:=none) (x6:=none) (x7:=none) (x8:=none) (x9:=none) s;obtain⟨n,hn⟩:∃n:Nat,(6:Int) - v=n:=⟨(6 - v).toNat,by omega⟩
 have n1:1<=n:=by omega
 have n6:n<=6:=by omega
 rw[hn]at w1;have w2:o2 [some (.ref st),some (.int 6),some (.int n),none,none,none,none,none,none,none] H1=.nx [some (.ref st),some (.int 6),some (.int n),none,none,none,none,none,none,none] H1:=by
  have hm:iD [.int 1,.int (n:Int)] H1=.ok (.int n) H1:=by
   show Ft (Fc (if(n:Int)>1 then(n:Int)else 1)) H1=_
   split
   ·rfl
   ·rw[show(1:Int)=n by omega]
  simp[o2,aL,aF,aB,mC,aA,aC,hm,aE]
 have hL:rW (.int n) H1=.ok (.ref H1.length) (H1++[.lst ((bS n).map Fc)]):=by
  have c:(decide (0<=(n:Int))&&decide ((n:Int)<=1000))=true:=by simp;omega
  simp only[rW,c,if_true]
 have fL:Fr [] H1 (H1++[Fd ((bS n).map Fc)]):=Fe;obtain⟨ir,ys,H2,t2,er,pm,hir,s2,f2⟩:=z3e (s1.fr fL (by simp)) (j:=H1.length) (xs:=bS n) (by simp[getL]) (by simp[bS];omega);have l1:=s1.lt;have hir':H1.length+1<=ir:=by simpa using hir
 have w3:o3 [some (.ref st),some (.int 6),some (.int n),none,none,none,none,none,none,none] H1=.nx [some (.ref st),some (.int 6),some (.int n),some (.ref ir),none,none,none,none,none,none] H2:=by simp[o3,aL,aF,aB,aA,aC,f1,hL,t2,aE]
 have hy:ys.length=n:=by rw[pm.length_eq];simp[bS]
 obtain⟨w,H3,w0,w5,t3,f3,s3⟩:=mY 5 s2;have er3:=f3.getL er (by simp;omega);have w4:o4 [some (.ref st),some (.int 6),some (.int n),some (.ref ir),none,none,none,none,none,none] H2=.nx [some (.ref st),some (.int 6),some (.int n),some (.ref ir),some (.int w),none,none,none,none,none] H3:=by simp[o4,aL,aF,aB,aA,mC,aC,t3,aE]
 have w5':o5 [some (.ref st),some (.int 6),some (.int n),some (.ref ir),some (.int w),none,none,none,none,none] H3=.nx [some (.ref st),some (.int 6),some (.int n),some (.ref ir),some (.int w),some (.ref H3.length),none,none,none,none] (H3++[.lst []]):=rfl;have fM:Fr [] H3 (H3++[Fd []]):=Fe;have eP:getL (H3++[Fd []]) H3.length=some (([]:wo).map aI):=by simp[getL]
 have l2:=oG er;have l3:=oG er3;have l4:=s3.lt;obtain⟨ms,H4,hm,w6,s4,f4⟩:=nG (x1:=some (.int 6)) (x2:=some (.int n)) (x4:=some (.int w)) (x5:=some (.ref H3.length)) (x6:=none) (x7:=none) (x8:=none) (x9:=none) (s3.fr fM (by simp)) (fM.getL er3 (by simp)) (by omega) (by omega);have eP4:=f4.getL eP (by simp;omega);have er4:=f4.getL (fM.getL er3 (by simp)) (by simp;omega);have hle:H3.length+1<=H4.length:=by have:=f4.le;simpa using this
 have fN:Fr [] H4 (H4++[Fd (ms.map Fc)]):=Fe;have D:Std st ir H4.length ys ms (H4++[Fd (ms.map Fc)]):=⟨s4.fr fN (by simp),fN.getL er4 (by simp),by simp[getL]⟩
 obtain⟨x7,x8,x9,H5,ps,w7,eP5,hb,D5,f5⟩:=nB (d1:=.int 6) (w:=w) (ip:=H3.length) (n:=n) (x7:=none) (x8:=none) (x9:=none) D (fN.getL eP4 (by simp)) ⟨w0,w5⟩ n6 hy (by omega) (by omega) (by omega) (by omega) (by omega) (by omega);have fall:Fr [st] H H5:=by
  have g1:Fr [st] H H2:=(f1'.trans fL (by simp)).trans f2 (by simp);have g2:Fr [st] H (H3++[Fd []]):=(g1.trans f3 (by simp)).trans fM (by simp);have g3:Fr [st] H (H4++[Fd (ms.map Fc)]):=(g2.trans f4 (by simp)).trans fN (by simp);refine g3.trans f5 λj hj=>?_
  rcases ba.mp hj with rfl|hj
  ·exact .inl (by simp)
  ·rw[dj.mp hj];have:=f1'.le;have:=f2.le;have:=f3.le;right;omega
 have fin:∀(q:Nat) (y7:Am) (H6:Hs) (qs:wo),getL H6 q=some (qs.map aI)->zT n qs->Fr [] H5 H6->o8 (cI st ir H3.length H4.length n w (.int 6) x7 x8 x9) H5=.nx (cI st ir q H4.length n w (.int 6) y7 x8 x9) H6->
   ∃(cs:wo) (H':Hs),F_ql [.ref st,.int 6] H=.ok (aQ n cs) H'/\A' n cs/\St st H'/\Fr [st] H H':=λq y7 H6 qs eq6 g6 f6 w8=>by
  obtain⟨cs,j,H7,hc,tc,ec,f7⟩:=z3o n6 g6.1 (OY eq6);refine⟨cs,H7, ?_,z3p n1 n6 g6 hc,(D5.s.fr f6 (by simp)).fr f7 (by simp),(fall.trans f6 (by simp)).trans f7 (by simp)⟩;have w9:o9 (cI st ir q H4.length n w (.int 6) y7 x8 x9) H6=.rt (aQ n cs) H7:=by
   have h1:aF F_qh (aB (aA 5) aC) (cI st ir q H4.length n w (.int 6) y7 x8 x9) H6=.ok (.ref j) H7:=by simp[aF,aB,aA,aC,tc]
   have h2:aF (f1 iT) (aB (aF F_qh (aB (aA 5) aC)) aC) (cI st ir q H4.length n w (.int 6) y7 x8 x9) H6=.ok (.tup (cs.map aI)) H7:=by
    have h0:aB (aF F_qh (aB (aA 5) aC)) aC (cI st ir q H4.length n w (.int 6) y7 x8 x9) H6=.ok [.ref j] H7:=by show(aF F_qh (aB (aA 5) aC) (cI st ir q H4.length n w (.int 6) y7 x8 x9) H6).bind _=_;rw[h1];rfl
    show(aB (aF F_qh (aB (aA 5) aC)) aC (cI st ir q H4.length n w (.int 6) y7 x8 x9) H6).bind _=_;rw[h0];simp[f1,iT,ec]
   unfold o9 aM aK;rw[show aB (aA 2) (aB (aF (f1 iT) (aB (aF F_qh (aB (aA 5) aC)) aC)) aC) (cI st ir q H4.length n w (.int 6) y7 x8 x9) H6=.ok [.int n,.tup (cs.map aI)] H7 by unfold aB;show((Ft (Fc n) H6).bind _)=_;rw[Rs.bind_ok];show((aF (f1 iT) (aB (aF F_qh (aB (aA 5) aC)) aC) (cI st ir q H4.length n w (.int 6) y7 x8 x9) H6).bind _).bind _=_;rw[h2];rfl];rfl
  show bJ (jJ [some (.ref st),some (.int 6),none,none,none,none,none,none,none,none] H)=_;rw[nE,bH w1,bH w2,bH w3,bH w4,bH w5',bH w6,bH w7,bH w8,w9];rfl
 have t8:mB (m2 bD (aA 4) (mC (.int 3))) (cI st ir H3.length H4.length n w (.int 6) x7 x8 x9) H5=.ok (w==3) H5:=by simp[mB,m2,aA,mC,eq_int,dZ]
 by_cases h3:w=3
 ·have fQ:Fr [] H5 (H5++[Fd []]):=Fe;obtain⟨q,y7,H6,qs,k1,k2,k3,k4⟩:=z3t (st:=st) (ir:=ir) (im:=H4.length) (n:=n) (w:=w) (d1:=.int 6) (ip0:=H5.length) (x7:=x7) (x8:=x8) (x9:=x9) (D5.fr fQ (D5.s.fr fQ (by simp)) (by simp) (by simp)) (by simp[getL]) n6 (by omega);obtain⟨cs,H',r⟩:=fin q y7 H6 qs k2 (z3r k3) (fQ.trans k4 (by simp)) (by unfold o8;have wA:aL (aS aC) (aE 5) (cI st ir H3.length H4.length n w (.int 6) x7 x8 x9) H5=.nx (cI st ir H5.length H4.length n w (.int 6) x7 x8 x9) (H5++[Fd []]):=rfl;rw[pO (t8.trans (by rw[h3];rfl)),bH wA,k1]);exact⟨n,cs,H',r⟩
 ·obtain⟨cs,H',r⟩:=fin H3.length x7 H5 ps eP5 (z3q pm hb) Fh (by
   unfold o8;have:(w==3)=false:=by simpa using h3
   rw[iO (t8.trans (by rw[this]))];rfl)
  exact⟨n,cs,H',r⟩
end
end L2.Mr.Com
namespace L2
section
variable{X:Cx}{D:ah}
end
section
variable{X:Cx}
end
end L2
namespace L2.Mr
section
variable{M:xc}{A:bu}{E:af->ag->Prop}{s:ag}{base:cu}{env:Env}{outer:List Env}{L e T:ah}{C a0:af}{Q:Unit->ag->Prop}
end
section
variable{P:bh}{w:cm}{M:xc}{A:bu}{E:af->ag->Prop}{s:ag}{H H0:Hp}{base:cu}{env:Env}{outer:List Env}{L e:ah}{C:af}{Q:Unit->ag->Prop}
end
section
variable{P:bh}{w:cm}{K:aq}{mg:Str->Option af}{base:cu}{N:Aj}{qual:Str}{scope:gu}{f:ah}{cdv:af}{A:bu}{outer:List Env}{s0:ag}{H0:Hp}{E0:XK}{G:Cfg}{E:XK}{k:Nat}
end
section
variable{G:Cfg}
end
section
variable{X:Cx}{G:Cfg}{E:XK}{elt tg iter:bj}{ifs:List bj}{sc:gu}{ps pos:Pos}{mi:M Src}{st:dP}{test:M Bool}{me:M Dv}{N:Aj}{cap:List (Option Nat)}
end
section
variable{P:bh}{w:cm}{K:aq}{mg:Str->Option af}{base:cu}{N:Aj}{qual:Str}{f:ah}{G:Cfg}{k:Nat}
end
end L2.Mr
namespace L2.Mr.Cod
open L2.Mr.Com
def qQ:MS:=(aW (cD (bN (aF F_q5 (aB (aA 0) aC)))) (tX 0 (aB (mC (.str "this is no order")) aC)) bE)
def F_qs:Ak:=aV 1 1 (qQ)
def mU:MS:=(aH (aL (m2 aN (aA 0) (mC (.int 1))) (aE 3)) (aM (cP (m2 cJ (aA 1) (aA 2)) (cP (m2 (bP true) (aK (aB (aA 1) (aB (aA 2) aC))) (aA 3)) (m2 (bP true) (aK (aB (aA 2) (aB (aA 1) aC))) (aA 3))))))
def F_qz:Ak:=aV 3 4 (mU)
def qS:MS:=(aH (aL (aS aC) (aE 1)) (aH (cU (aR cQ (aB (m2 aN (aA 0) (mC (.int 0))) aC)) (aE 2) (cU (aR jG (aB (m2 bO (aA 2) (mC (.int 1))) (aB (m2 aN (aA 0) (mC (.int 0))) aC))) (aE 3) (aW (eC (mB (m2 (bP true) (aK (aB (aA 2) (aB (aA 3) aC))) (m2 aN (aA 0) (mC (.int 1))))) (mB (m2 (bP true) (aK (aB (aA 3) (aB (aA 2) aC))) (m2 aN (aA 0) (mC (.int 1)))))) (cX (gX (aA 1) (aK (aB (aA 2) (aB (aA 3) aC))))) bE))) (aM (aA 1))))
def F_qk:Ak:=aV 1 4 (qS)
open L2.Mr.Com hiding jI F_qh jJ F_ql jK F_qb
section
variable{st n:Nat}
end
section
variable{n i:Nat}{H:Hs}{S:wo}{m a b:Int}{x0 x1 x3 x4 x5:Am}
end
open L2.Mr.Com hiding jI F_qh jJ F_ql jK F_qb oB mZ nA nB kA kS o1 o2 o3 o4 o5 o6 kT o8 o9 nE nF nG nI cI
section
variable{st ip im n:Nat}{ys ms:Ah}{w:Int}{d1:Dv}
end
section
variable{st:Nat}
end
end L2.Mr.Cod
namespace L2.Mr.K01
open L2.Mr.Com
end L2.Mr.K01
namespace L2.Mr.Com
def T0 (H:Hs):Dv->Prop
 | .ref i=>∃xs,getL H i=some xs
 | .exc _=>False
 | .scr=>False
 |_=>True
def TK:Nat->Hs->Dv->Prop
 |0,H,d=>T0 H d
 |k+1,H,d=>T0 H d/\∀ds,d=.tup ds->ds.length<=500/\∀x∈ds,TK k H x
theorem TK.t0:∀{k:Nat}{H:Hs}{d:Dv},TK k H d->T0 H d
 |0,_,_,h=>h
 |_+1,_,_,h=>h.1
theorem TK.tup {k:Nat}{H:Hs}{ds:Al}(hl:ds.length<=500) (h:∀x∈ds,TK k H x):TK (k+1) H (.tup ds):=⟨trivial,λ_ e=>by cases e;exact⟨hl,h⟩⟩
theorem TK.of {k:Nat}{H:Hs}{d:Dv}(h0:T0 H d) (h:∀ds,d≠.tup ds):TK k H d:=by
 cases k with
 |zero=>exact h0
 |succ k=>exact⟨h0,λds e=>absurd e (h ds)⟩
theorem T0.fr {st:Nat}{H H':Hs}{d:Dv}(h:T0 H d) (f:Fr [st] H H') (s:St st H'):T0 H' d:=by
 cases d with
 |ref i=>
  obtain⟨xs,e⟩:=h
  by_cases c:i=st
  ·subst c;obtain⟨a,b,e⟩:=s;exact⟨_,e⟩
  ·exact⟨xs,f.getL e (by simpa using c)⟩
 |_=>exact h
theorem TK.fr {st:Nat}{H H':Hs}(f:Fr [st] H H') (s:St st H'):∀{k:Nat}{d:Dv},TK k H d->TK k H' d
 |0,_,h=>T0.fr h f s
 |k+1,_,h=>⟨h.1.fr f s,λds e=>⟨(h.2 ds e).1,λx hx=>TK.fr f s ((h.2 ds e).2 x hx)⟩⟩
def qV:Dv->Bool
 | .tup _=>true
 |_=>false
def isInt:Dv->Bool
 | .int _=>true
 |_=>false
section
variable{H:Hs}{d:Dv}{n:Int}
theorem E8 (h:T0 H d):bG gL d H=.ok (.bl (qV d)) H:=by
 cases d with
 |ref i=>obtain⟨xs,e⟩:=h;simp[bG,gW,e,gL,qV]
 |exc c=>exact h.elim
 |scr=>exact h.elim
 |_=>rfl
theorem z3u (h:T0 H d):bG qK d H=.ok (.bl (match d with | .int _=>true | .bl _=>true|_=>false)) H:=by
 cases d with
 |ref i=>obtain⟨xs,e⟩:=h;simp[bG,gW,e,qK]
 |exc c=>exact h.elim
 |scr=>exact h.elim
 |_=>rfl
theorem z3v (h:T0 H d):bG kP d H=.ok (.bl (match d with | .bl _=>true|_=>false)) H:=by
 cases d with
 |ref i=>obtain⟨xs,e⟩:=h;simp[bG,gW,e,kP]
 |exc c=>exact h.elim
 |scr=>exact h.elim
 |_=>rfl
theorem z3w (h:T0 H d):F_q7 [d] H=.ok (.bl (isInt d)) H:=by
 have e1:=z3u h;have e2:=z3v h
 cases d <;> simp[F_q7,DH,aV,bX,aM,cP,m1,aA,e1,e2,qB,bJ,isInt]
def oQ (lo hi:Int):Dv->Bool
 | .int x=>decide (lo<=x)&&decide (x<=hi)
 |_=>false
theorem E9 {lo hi:Int}(h:T0 H d):F_qr [d,.int lo,.int hi] H=.ok (.bl (oQ lo hi d)) H:=by
 have w:=z3w h
 cases d with
 |int x=>exact zQ
 |_=>simp[F_qr,yO,aV,bX,aM,cP,aF,aB,aA,aC,w,isInt,bJ,oQ]
def tB (n:Int) (d:Dv):Bool:=oQ 0 (n - 1) d
theorem z3x (h:T0 H d):F_q6 [.int n,d] H=.ok (.bl (tB n d)) H:=by simp[F_q6,DI,aV,bX,aM,aF,aB,aA,aC,mC,m2,eI,iC,E9 h,bJ,tB]
def sJ (n:Int):Dv->Bool
 | .tup ys=>ys.all (tB n)
 |_=>false
theorem z3y (h:TK 1 H d):F_qq [.int n,d] H=.ok (.bl (sJ n d)) H:=by
 have e:=E8 h.1
 cases d with
 |tup xs=>obtain⟨hl,hx⟩:=h.2 xs rfl;have h:bT (bK fI (aA 1)) [none,some 0] (aE 0) eK (bM (aF F_q6 (aB (aA 1) (aB (aA 0) aC)))) [some (.int n),some (.tup xs)] H=.ok (xs.filterMap λx=>some (.bl (tB n x))) H:=iG xs (λx=>some (.bl (tB n x))) (λρ=>∃a,ρ=[a,some (.int n)]) rfl (by simp[dX]) ⟨_,rfl⟩ rfl (λk hk ρ ⟨a,e⟩=>by subst e;exact⟨xs[k],_,by simp[dX,hk],rfl,⟨_,rfl⟩,rfl,by simp[aF,aB,aA,aC,z3x (hx xs[k] (cj hk))]⟩) (by omega);simp[F_qq,yP,aV,bX,aM,cP,m1,bG,aA,gW,gL,sD h,bJ,sJ]
 |_=>simp[F_qq,yP,aV,bX,aM,cP,m1,aA,e,qV,bJ,sJ]
def pB (n:Int):Dv->Bool
 | .tup ys=>ys.all (tB n)&&decide (ys.length=2)
 |_=>false
theorem z3z (ys:Al):f1 cF [.tup ys] H=.ok (.int ys.length) H:=rfl
theorem z40 (h:TK 1 H d):F_qA [.int n,d] H=.ok (.bl (pB n d)) H:=by
 have h1:=z3y (n:=n) h
 cases d with
 |tup ys=>
  cases q:ys.all (tB n)with
  |false=>simp[F_qA,rX,aV,bX,aM,cP,aF,aB,aA,aC,h1,sJ,pB,q,bJ]
  |true=>
   have e:((ys.length:Int)==2)=decide (ys.length=2):=by rw[cz];simp;omega
   simp[F_qA,rX,aV,bX,aM,cP,aF,aB,aA,aC,h1,sJ,pB,q,bJ,m2,z3z,mC,eq_int,e]
 |_=>simp[F_qA,rX,aV,bX,aM,cP,aF,aB,aA,aC,h1,sJ,pB,bJ]
theorem z41 {xs:Al}(h:TK 2 H (.tup xs)):F_q0 [.int n,.tup xs] H=.ok (.bl (xs.all (pB n))) H:=by obtain⟨hl,hx⟩:=h.2 xs rfl;have h:bT (bK fI (aA 1)) [none,some 0] (aE 0) eK (bM (aF F_qA (aB (aA 1) (aB (aA 0) aC)))) [some (.int n),some (.tup xs)] H=.ok (xs.filterMap λp=>some (.bl (pB n p))) H:=iG xs (λp=>some (.bl (pB n p))) (λρ=>∃a,ρ=[a,some (.int n)]) rfl (by simp[dX]) ⟨_,rfl⟩ rfl (λk hk ρ ⟨a,e⟩=>by subst e;exact⟨xs[k],_,by simp[dX,hk],rfl,⟨_,rfl⟩,rfl,by simp[aF,aB,aA,aC,z40 (hx xs[k] (cj hk))]⟩) (by omega);simp[F_q0,DJ,aV,bX,aM,sD h,bJ]
def qW:Dv->Option (Int×Int)
 | .tup [.int a,.int b]=>some (a,b)
 |_=>none
theorem z42 {x:Dv}(h:pB n x=true):∃p,x=aI p/\qW x=some p:=by
 match x,h with
 | .tup [.int a,.int b],_=>exact⟨(a,b),rfl,rfl⟩
 | .tup [a,b],h=>
  simp[pB]at h;obtain⟨h1,h2⟩:=h
  cases a <;> first|(cases h1;done)|skip
  cases b <;> first|(cases h2;done)|skip
  exact⟨_,rfl,rfl⟩
 | .tup [],h=>simp[pB]at h
 | .tup [_],h=>simp[pB]at h
 | .tup (_::_::_::_),h=>simp[pB]at h
theorem O4:∀{xs:Al},(∀x∈xs,∃p,x=aI p/\qW x=some p)->xs=(xs.filterMap qW).map aI
 | [],_=>rfl
 |x::xs,h=>by obtain⟨p,e,q⟩:=h x (by simp);rw[List.filterMap_cons_some q,dk,<-O4 λy hy=>h y (by simp[hy]),<-e]
def hX:Dv->Bool
 | .tup [.int n,.tup xs]=>xs.all (pB n)&&sE n (xs.filterMap qW)
 |_=>false
theorem iM {ds:Al}(h:ds.length≠2):∃L:Int,f1 cF [.tup ds] H=.ok (.int L) H/\cJ (.int L) (.int 2) H=.ok (.bl true) H:=by
 refine⟨ds.length,rfl, ?_⟩;have:((ds.length:Int)==2)=false:=by simp;omega
 simp[cJ,bY,bQ,bI,this]
theorem FA {ds:Al}(h:ds.length≠2):F_q5 [.tup ds] H=.ok (.bl false) H:=by obtain⟨L,hlen,hne⟩:=iM (H:=H) h;have e:bG gL (.tup ds) H=.ok (.bl true) H:=rfl;simp[F_q5,qP,aV,bX,aH,aW,cO,cD,bN,m1,aA,mB,m2,aF,aB,aC,mC,aM,e,fT,hlen,hne,dZ,bJ]
theorem FC {ds:Al}(h:ds.length≠2):hX (.tup ds)=false:=by
 unfold hX
 split
 ·rename_i e;cases e;simp at h
 ·rfl
theorem z43 (h:TK 3 H d):F_q5 [d] H=.ok (.bl (hX d)) H:=by
 have e:=E8 h.1
 cases d with
 |tup ds=>
  obtain⟨hl,hx⟩:=h.2 ds rfl
  match ds,hl,hx,e,h with
  | [a,b],hl,hx,e,h=>
   have ha:=hx a (by simp);have hb:=hx b (by simp);have b1:=E9 (lo:=1) (hi:=6) ha.t0;have b2:=E8 hb.t0;have hlen:f1 cF [.tup [a,b]] H=.ok (.int 2) H:=rfl
   cases q1:oQ 1 6 a with
   |false=>
    rw[q1]at b1;have:hX (.tup [a,b])=false:=by
     cases a with
     |int n=>
      cases b with
      |tup xs=>
       have:¬ (1<=n/\n<=6):=by simpa[oQ]using q1
       simp only[hX,Bool.and_eq_false_iff];right;unfold sE
       by_cases c:1<=n
       ·have:¬ n<=6:=λc'=>this ⟨c,c'⟩;simp[this]
       ·simp[c]
      |_=>rfl
     |_=>rfl
    rw[this];simp[F_q5,qP,aV,bX,aH,aW,cO,cD,bN,m1,aA,e,qV,fT,mB,m2,aF,aB,aC,hlen,mC,cJ,bY,bQ,bI,dZ,bE,aL,cH,aY,aE,cK,b1,aM,bJ]
   |true=>
    rw[q1]at b1
    cases a with
    |int n=>
     cases b with
     |tup xs=>
      have p1:=z41 (n:=n) hb
      cases q2:xs.all (pB n)with
      |false=>rw[q2]at p1;simp[hX,q2,F_q5,qP,aV,bX,aH,aW,cO,cD,bN,m1,aA,e,b2,qV,fT,mB,m2,aF,aB,aC,hlen,mC,cJ,bY,bQ,bI,dZ,bE,aL,cH,aY,aE,cK,b1,p1,aM,bJ]
      |true=>
       have ex:=O4 λx hx=>z42 (fi.mp q2 x hx);have hle:(xs.filterMap qW).length<=900:=by have:=nh qW xs;have:=(hb.2 xs rfl).1;omega
       have:=OR (H:=H) (n:=n) (ps:=xs.filterMap qW) hle;rw[<-ex]at this;rw[this];simp[hX,q2]
     |_=>simp[hX,F_q5,qP,aV,bX,aH,aW,cO,cD,bN,m1,aA,e,b2,qV,fT,mB,m2,aF,aB,aC,hlen,mC,cJ,bY,bQ,bI,dZ,bE,aL,cH,aY,aE,cK,b1,aM,bJ]
    |_=>cases q1
  | [],hl,hx,e,h=>exact(FA (by simp)).trans (by rw[FC (by simp)])
  | [a],hl,hx,e,h=>exact(FA (by simp)).trans (by rw[FC (by simp)])
  |a::b::c::r,hl,hx,e,h=>exact(FA (by simp)).trans (by rw[FC (by simp)])
 |_=>simp[F_q5,qP,aV,bX,aH,aW,cO,cD,bN,m1,aA,e,qV,fT,mC,aM,bJ,hX]
end
section
variable{H:Hs}{d:Dv}{n:Int}
end
section
variable{H:Hs}{d:Dv}
end
theorem T0.fr0 {H H':Hs}{d:Dv}(h:T0 H d) (f:Fr [] H H'):T0 H' d:=by
 cases d with
 |ref i=>obtain⟨xs,e⟩:=h;exact⟨xs,f.getL e (by simp)⟩
 |_=>exact h
theorem TK.fr0 {H H':Hs}(f:Fr [] H H'):∀{k:Nat}{d:Dv},TK k H d->TK k H' d
 |0,_,h=>T0.fr0 h f
 |k+1,_,h=>⟨h.1.fr0 f,λds e=>⟨(h.2 ds e).1,λx hx=>TK.fr0 f ((h.2 ds e).2 x hx)⟩⟩
def O5 (P:Ev->Hs->Prop):Prop:=∀ρ H H',P ρ H->Fr [] H H'->P ρ H'
def Wr (P:Ev->Hs->Prop) (k:Nat) (m:M Dv):Prop:=∀ρ H,P ρ H->∃d H',m ρ H=.ok d H'/\Fr [] H H'/\TK k H' d
def nJ (P:Ev->Hs->Prop) (k n:Nat) (ms:M Al ):Prop:=∀ρ H,P ρ H->∃ds H',ms ρ H=.ok ds H'/\Fr [] H H'/\ds.length=n/\∀x∈ds,TK k H' x
section
variable{P:Ev->Hs->Prop}{k n m':Nat}{m:M Dv}{ms:M Al }
theorem FD:nJ P k 0 aC:=λρ H _=>⟨[],H,rfl,Fh,rfl,λx hx=>by cases hx⟩
theorem FE (hP:O5 P) (h:Wr P k m) (hs:nJ P k n ms):nJ P k (n+1) (aB m ms):=λρ H p=>by
 obtain⟨d,H1,e1,f1,t1⟩:=h ρ H p;obtain⟨ds,H2,e2,f2,l2,t2⟩:=hs ρ H1 (hP ρ H H1 p f1);refine⟨d::ds,H2, ?_,f1.trans f2 (by simp),by simp[l2],λx hx=>?_⟩
 ·unfold aB;rw[e1,Rs.bind_ok,e2,Rs.bind_ok]
 ·rcases ba.mp hx with rfl|hx
  ·exact t1.fr0 f2
  ·exact t2 x hx
theorem vN (h:∀ρ H,P ρ H->∃d,m ρ H=.ok d H/\TK k H d):Wr P k m:=λρ H p=>let ⟨d,e,t⟩:=h ρ H p;⟨d,H,e,Fh,t⟩
theorem FF {i:Int}:Wr P k (mC (.int i)):=vN λρ H _=>⟨_,rfl,TK.of trivial λ_ e=>by cases e⟩
theorem FG {i:Bool}:Wr P k (mC (.bl i)):=vN λρ H _=>⟨_,rfl,TK.of trivial λ_ e=>by cases e⟩
theorem FH:Wr P k (mC .non):=vN λρ H _=>⟨_,rfl,TK.of trivial λ_ e=>by cases e⟩
theorem FI {s}:Wr P k (mC (.str s)):=vN λρ H _=>⟨_,rfl,TK.of trivial λ_ e=>by cases e⟩
theorem FJ:Wr P k (mC .edc):=vN λρ H _=>⟨_,rfl,TK.of trivial λ_ e=>by cases e⟩
theorem zW (h:nJ P k n ms) (hn:n<=500):Wr P (k+1) (aK ms):=λρ H p=>by obtain⟨ds,H1,e1,f1,l1,t1⟩:=h ρ H p;refine⟨.tup ds,H1, ?_,f1,TK.tup (by omega) t1⟩;unfold aK lim;rw[e1,Rs.bind_ok,if_pos (by omega)]
theorem FK (h:nJ P 0 n ms) (hn:n<=500):Wr P 0 (aK ms):=λρ H p=>let ⟨d,H',e,f,t⟩:=zW h hn ρ H p;⟨d,H',e,f,t.1⟩
theorem FL (h:nJ P 0 n ms) (hn:n<=500):Wr P k (aS ms):=λρ H p=>by obtain⟨ds,H1,e1,f1,l1,t1⟩:=h ρ H p;refine⟨.ref H1.length,H1++[.lst ds], ?_,f1.trans (T:=[]) Fe (by simp),TK.of ⟨ds,by simp[getL]⟩ λ_ e=>by cases e⟩;unfold aS lim;rw[e1,Rs.bind_ok,if_pos (by omega)]
end
def vO:M Al :=(aB (mC .non) (aB (mC (.int 0)) (aB (aK aC) (aB (aK (aB (mC (.int 0)) (aB (aK aC) aC))) (aB (aK (aB (mC (.int 7)) (aB (aK aC) aC))) (aB (aK (aB (mC (.bl true)) (aB (aK aC) aC))) (aB (aK (aB (mC (.int 2)) (aB (aS aC) aC))) (aB (aS (aB (mC (.int 2)) (aB (aK aC) aC))) (aB (aK (aB (mC (.int 2)) (aB (aK (aB (aK (aB (mC (.int 0)) (aB (mC (.int 1)) aC))) (aB (aK (aB (mC (.int 0)) (aB (mC (.int 1)) aC))) aC))) aC))) (aB (aK (aB (mC (.int 2)) (aB (aK (aB (aK (aB (mC (.int 1)) (aB (mC (.int 0)) aC))) (aB (aK (aB (mC (.int 0)) (aB (mC (.int 1)) aC))) aC))) aC))) aC))))))))))
def vP:M Al :=(aB (aK (aB (mC (.int 3)) (aB (aK (aB (aK (aB (mC (.int 0)) (aB (mC (.int 1)) aC))) (aB (aK (aB (mC (.int 1)) (aB (mC (.int 2)) aC))) aC))) aC))) (aB (aK (aB (mC (.int 2)) (aB (aK (aB (aK (aB (mC (.int 0)) (aB (mC (.int 0)) aC))) aC)) aC))) (aB (aK (aB (mC (.int 2)) (aB (aK (aB (aK (aB (mC (.int 0)) (aB (mC (.int 2)) aC))) aC)) aC))) (aB (aK (aB (mC (.int 2)) (aB (aK (aB (aK (aB (mC (.int 0)) (aB (mC (.bl true)) aC))) aC)) aC))) (aB (aK (aB (mC (.int 2)) (aB (aK (aB (aK (aB (mC (.int 0)) (aB (mC (.int 1)) (aB (mC (.int 1)) aC)))) aC)) aC))) (aB (mC .edc) aC))))))
def vQ:M Al :=(aB (mC (.str "2:")) (aB (aK (aB (mC (.int 2)) (aB (aK (aB (mC (.int 0)) (aB (mC (.int 1)) aC))) aC))) (aB (aK (aB (mC (.int 3)) (aB (aK (aB (aK (aB (mC (.int 0)) (aB (mC (.int 2)) aC))) (aB (aK (aB (mC (.int 0)) (aB (mC (.int 1)) aC))) aC))) aC))) (aB (aK (aB (mC (.int 2)) (aB (mC .non) aC))) (aB (aK (aB (mC (.int 2)) (aB (aK aC) (aB (aK aC) aC)))) (aB (aK (aB (mC (.int 2)) aC)) (aB (aK (aB (mC (.int 2)) (aB (aK (aB (aS (aB (mC (.int 0)) (aB (mC (.int 1)) aC))) aC)) aC))) (aB (aK (aB (mC (.int 2)) (aB (aK (aB (mC .non) aC)) aC))) aC))))))))
theorem z44:jK=aH (aL (aS vO) (aE 1)) (aH (aL (m2 bO (aA 1) (aS vP)) (aE 1)) (aH (aL (m2 bO (aA 1) (aS vQ)) (aE 1)) (aM (m2 aN (aA 1) (aF F_qy (aB (aA 0) (aB (mC (.int 24)) aC))))))):=rfl
theorem FN {ρ:Ev}{H H1 H2:Hs}{st i j:Nat}{ml:M Dv}(hv:aA st ρ H=.ok (.ref i) H) (e1:ml ρ H=.ok (.ref j) H1) (e2:bO (.ref i) (.ref j) H1=.ok (.ref H1.length) H2):m2 bO (aA st) ml ρ H=.ok (.ref H1.length) H2:=by unfold m2;rw[hv,Rs.bind_ok,e1,Rs.bind_ok,e2]
end L2.Mr.Com
namespace L2.Mr.Cod
open L2.Mr.Com hiding jI F_qh jJ F_ql jK F_qb oB mZ nA nB kA kS o1 o2 o3 o4 o5 o6 kT o8 o9 nE nF nG nI cI
section
variable{H:Hs}
theorem addL {i j:Nat}{xs ys:Al}(e1:getL H i=some xs) (e2:getL H j=some ys) (hl:xs.length+ys.length<=500):bO (.ref i) (.ref j) H=.ok (.ref H.length) (H++[.lst (xs++ys)]):=by simp[bO,lC,e1,e2,lim];omega
theorem gO {i j:Nat}{ds:Al}(e:getL H i=some ds) (hj:j<ds.length):aN (.ref i) (.int j) H=.ok ds[j] H:=by
 have h1:fR ds.length (j:Int)=some j:=by unfold fR;rw[if_pos (by omega),if_pos (by omega)];simp
 have h2:gK ds (j:Int)=some ds[j]:=by unfold gK;rw[h1];simp[hj]
 simp only[aN,gD,gR,e,jP,h2,if_true]
theorem last_get {x:Al}:getL (H++[.lst x]) H.length=some x:=by simp[getL]
end
section
variable{n m:Nat}{H H':Hs}{i j:Nat}
end
end L2.Mr.Cod
namespace L2.Mr
def z45 (x:Int) (P:Int->Prop):Prop:=P x/\∀y,P y->y<=x
theorem O6 {f:Nat->Int}:∀k,(∃i,i<=k/\gY (λa b=>decide (a>b)) f k=f i)/\∀i,i<=k->f i<=gY (λa b=>decide (a>b)) f k
 |0=>⟨⟨0,aj _,rfl⟩,λi hi=>by
  have:i=0:=by omega
  subst this;exact xb _⟩
 |k+1=>by
  obtain⟨⟨i,hi,e⟩,h⟩:=O6 (f:=f) k;have he:gY (λa b=>decide (a>b)) f (k+1)=if decide (f (k+1)>gY (λa b=>decide (a>b)) f k)then f (k+1)else gY (λa b=>decide (a>b)) f k:=rfl
  generalize gY (λa b=>decide (a>b)) f k=z at e h he;rw[he]
  by_cases c:f (k+1)>z
  ·rw[if_pos (decide_eq_true c)];refine⟨⟨k+1,aj _,rfl⟩,λj hj=>?_⟩
   by_cases q:j=k+1
   ·subst q;exact xb _
   ·have:=h j (by omega);omega
  ·rw[if_neg (by simpa using c)];refine⟨⟨i,by omega,e⟩,λj hj=>?_⟩
   by_cases q:j=k+1
   ·subst q;omega
   ·exact h j (by omega)
theorem O7 {f:Nat->Int}:∀k,(∃i,i<=k/\gY (λa b=>decide (a<b)) f k=f i)/\∀i,i<=k->gY (λa b=>decide (a<b)) f k<=f i
 |0=>⟨⟨0,aj _,rfl⟩,λi hi=>by
  have:i=0:=by omega
  subst this;exact xb _⟩
 |k+1=>by
  obtain⟨⟨i,hi,e⟩,h⟩:=O7 (f:=f) k;have he:gY (λa b=>decide (a<b)) f (k+1)=if decide (f (k+1)<gY (λa b=>decide (a<b)) f k)then f (k+1)else gY (λa b=>decide (a<b)) f k:=rfl
  generalize gY (λa b=>decide (a<b)) f k=z at e h he;rw[he]
  by_cases c:f (k+1)<z
  ·rw[if_pos (decide_eq_true c)];refine⟨⟨k+1,aj _,rfl⟩,λj hj=>?_⟩
   by_cases q:j=k+1
   ·subst q;exact xb _
   ·have:=h j (by omega);omega
  ·rw[if_neg (by simpa using c)];refine⟨⟨i,by omega,e⟩,λj hj=>?_⟩
   by_cases q:j=k+1
   ·subst q;omega
   ·exact h j (by omega)
theorem maxI_is {ns:Ah}(h:ns≠[]):z45 (gM ns) (·∈ns):=by
 have hl:0<ns.length:=uw.mpr h;obtain⟨⟨i,hi,e⟩,hx⟩:=O6 (f:=λi=>ns.getD i 0) (ns.length - 1);refine⟨?_,λy hy=>?_⟩
 ·show gM ns∈ns;unfold gM;rw[e];have:i<ns.length:=by omega
  simp[this]
 ·obtain⟨k,hk,rfl⟩:=jf.mp hy;have:=hx k (by omega);have e2:ns.getD k 0=ns[k]:=by simp[hk]
  rw[e2]at this;exact this
theorem minI_is {ns:Ah}(h:ns≠[]):oE ns∈ns/\∀y∈ns,oE ns<=y:=by
 have hl:0<ns.length:=uw.mpr h;obtain⟨⟨i,hi,e⟩,hx⟩:=O7 (f:=λi=>ns.getD i 0) (ns.length - 1);refine⟨?_,λy hy=>?_⟩
 ·unfold oE;rw[e];have:i<ns.length:=by omega
  simp[this]
 ·obtain⟨k,hk,rfl⟩:=jf.mp hy;have:=hx k (by omega);have e2:ns.getD k 0=ns[k]:=by simp[hk]
  rw[e2]at this;exact this
end L2.Mr
namespace L2.Mr.Cod
open L2.Mr.Com hiding jI F_qh jJ F_ql jK F_qb oB mZ nA nB kA kS o1 o2 o3 o4 o5 o6 kT o8 o9 nE nF nG nI cI
def gQ (ps:wo) (a:Nat):Nat->wo
 |0=>[]
 |k+1=>gQ ps a k++if((a:Int),(a:Int)+1+(k:Int))∈ps∨((a:Int)+1+(k:Int),(a:Int))∈ps then[]else[((a:Int),(a:Int)+1+(k:Int))]
def gH (n:Nat) (ps:wo):Nat->wo
 |0=>[]
 |k+1=>gH n ps k++gQ ps k (n - (k+1))
def loose (n:Nat) (ps:wo):wo:=gH n ps n
theorem looseB_len (ps:wo) (a:Nat):∀k,(gQ ps a k).length<=k
 |0=>aj _
 |k+1=>by
  have:=looseB_len ps a k;unfold gQ
  split <;> simp <;> omega
theorem O8 (n:Nat) (ps:wo):∀k,(gH n ps k).length<=k*n
 |0=>by simp[gH]
 |k+1=>by have h1:=O8 n ps k;have h2:=looseB_len ps k (n - (k+1));unfold gH;rw[bq,wc];omega
section
variable{n:Nat}{ps:wo}{i:Nat}
def pV:MS:=aW (eC (mB (m2 (bP true) (aK (aB (aA 2) (aB (aA 3) aC))) (m2 aN (aA 0) (mC (.int 1))))) (mB (m2 (bP true) (aK (aB (aA 3) (aB (aA 2) aC))) (m2 aN (aA 0) (mC (.int 1)))))) (cX (gX (aA 1) (aK (aB (aA 2) (aB (aA 3) aC))))) bE
theorem z46 {H:Hs}{a b:Int}{acc:wo}(e:getL H i=some (acc.map aI)) (hl:acc.length<1000):
  pV [some (aQ n ps),some (.ref i),some (.int a),some (.int b)] H=.nx [some (aQ n ps),some (.ref i),some (.int a),some (.int b)] (H.set i (.lst ((acc++if(a,b)∈ps∨(b,a)∈ps then[]else[(a,b)]).map aI))):=by
 have self:H.set i (.lst (acc.map aI))=H:=by
  apply nv
  intro k
  by_cases hk:i=k
  ·subst hk;rw[df (oG e),dO e]
  ·rw[du hk]
 have t1:∀(x y:Int),mB (m2 (bP true) (λ_ h=>.ok (aI (x,y)) h) (λ_ h=>.ok (.tup (ps.map aI)) h)) [] H=.ok (!decide ((x,y)∈ps)) H:=λx y=>by simp[mB,m2,oH,dZ]
 have hl':acc.length<1000000:=by omega
 by_cases h1:(a,b)∈ps
 ·simp[pV,aW,eC,mB,m2,aK,aB,aA,aC,lim,mC,zP];rw[show Fw [.int a,.int b]=aI (a,b) from rfl,oH];simp[h1,dZ,bE,self]
 ·by_cases h2:(b,a)∈ps
  ·simp[pV,aW,eC,mB,m2,aK,aB,aA,aC,lim,mC,zP];rw[show Fw [.int a,.int b]=aI (a,b) from rfl,show Fw [.int b,.int a]=aI (b,a) from rfl,oH];simp[h1,dZ,oH,h2,bE,self]
  ·simp[pV,aW,eC,mB,m2,aK,aB,aA,aC,lim,mC,zP];rw[show Fw [.int a,.int b]=aI (a,b) from rfl,show Fw [.int b,.int a]=aI (b,a) from rfl,oH];simp only[h1,Rs.bind_ok,dZ,oH];simp[h2,h1,cX,gX,aA,jH,e,aK,aB,aC,lim,pI,hl'];rfl
theorem z47 {a:Nat}{x3:Am}{H:Hs}{acc:wo}(hn:n<=10) (ha:a<n) (hl:acc.length<=200) (e:getL H i=some (acc.map aI)):
  ∃y3,cU (aR jG (aB (m2 bO (aA 2) (mC (.int 1))) (aB (m2 aN (aA 0) (mC (.int 0))) aC))) (aE 3) pV [some (aQ n ps),some (.ref i),some (.int a),x3] H =
   .nx [some (aQ n ps),some (.ref i),some (.int a),y3] (H.set i (.lst ((acc++gQ ps a (n - (a+1))).map aI))):=by
 have hi:aR jG (aB (m2 bO (aA 2) (mC (.int 1))) (aB (m2 aN (aA 0) (mC (.int 0))) aC)) [some (aQ n ps),some (.ref i),some (.int a),x3] H=.ok (cT ((a:Int)+1) n) H:=by have q:aB (m2 bO (aA 2) (mC (.int 1))) (aB (m2 aN (aA 0) (mC (.int 0))) aC) [some (aQ n ps),some (.ref i),some (.int a),x3] H=.ok [.int ((a:Int)+1),.int n] H:=rfl;unfold aR;rw[q,Rs.bind_ok];exact O3 (by omega) (by omega) (by omega) (by omega)
 have hN:(cT ((a:Int)+1) n).n=n - (a+1):=by show((n:Int) - ((a:Int)+1)).toNat=_;omega
 obtain⟨ρ',H',h1,y3,h2,h3⟩:=pP (b:=pV) (sg:=aE 3) hi (λk ρ H'=>∃y3,ρ=[some (aQ n ps),some (.ref i),some (.int a),y3]/\H'=H.set i (.lst ((acc++gQ ps a k).map aI)))
  (λk ρ H' hk ⟨y3,e1,e2⟩=>by
   subst e1;subst e2;have e':getL (H.set i (.lst ((acc++gQ ps a k).map aI))) i=some ((acc++gQ ps a k).map aI):=oF e;refine⟨.int ((a:Int)+1+(k:Int)),_,_,_,rfl,rfl,z46 e' (by have:=looseB_len ps a k;rw[bq];omega),_,rfl, ?_⟩;rw[List.set_set,gQ,rn]) (λ_ _ _=>rfl) ⟨x3,rfl,by
   have self:H.set i (.lst (acc.map aI))=H:=by
    apply nv
    intro k
    by_cases hk:i=k
    ·subst hk;rw[df (oG e),dO e]
    ·rw[du hk]
   rw[gQ,ku,self]⟩
 rw[hN]at h3;exact⟨y3,by rw[h1,h2,h3]⟩
theorem loose_ok {H:Hs}(hn:n<=10):F_qk [aQ n ps] H=.ok (.ref H.length) (H++[.lst ((loose n ps).map aI)]):=by
 have e0:getL (H++[.lst []]) H.length=some (([]:wo).map aI):=by simp[getL]
 have w0:aL (aS aC) (aE 1) [some (aQ n ps),none,none,none] H=.nx [some (aQ n ps),some (.ref H.length),none,none] (H++[.lst []]):=rfl;have hi:aR cQ (aB (m2 aN (aA 0) (mC (.int 0))) aC) [some (aQ n ps),some (.ref H.length),none,none] (H++[.lst []])=.ok (cT 0 n) (H++[.lst []]):=by have q:aB (m2 aN (aA 0) (mC (.int 0))) aC [some (aQ n ps),some (.ref H.length),none,none] (H++[.lst []])=.ok [.int n] (H++[.lst []]):=rfl;unfold aR;rw[q,Rs.bind_ok];exact zU (by omega) (by omega)
 have hN:(cT 0 (n:Int)).n=n:=by simp[cT]
 obtain⟨ρ',H',h1,y2,y3,h2,h3⟩:=pP (b:=cU (aR jG (aB (m2 bO (aA 2) (mC (.int 1))) (aB (m2 aN (aA 0) (mC (.int 0))) aC))) (aE 3) pV) (sg:=aE 2) hi
  (λk ρ H'=>∃y2 y3,ρ=[some (aQ n ps),some (.ref H.length),y2,y3]/\H'=H++[.lst ((gH n ps k).map aI)])
  (λk ρ H' hk ⟨y2,y3,e1,e2⟩=>by
   subst e1;subst e2;rw[hN]at hk;have e':getL (H++[.lst ((gH n ps k).map aI)]) H.length=some ((gH n ps k).map aI):=by simp[getL]
   have hb:(gH n ps k).length<=200:=by have h1:=O8 n ps k;have h2:k*n<=10*10:=mr (by omega) hn;omega
   obtain⟨z3,hz⟩:=z47 (x3:=y3) (ps:=ps) hn hk hb e';refine⟨.int (0+(k:Int)),[some (aQ n ps),some (.ref H.length),some (.int (k:Int)),y3],_,_,rfl,by simp[aE],hz,_,_,rfl, ?_⟩;rw[ZX,gH];rfl) (λ_ _ _=>rfl) ⟨none,none,rfl,rfl⟩
 rw[hN]at h3;show bJ (qS [some (aQ n ps),none,none,none] H)=_;have z:qS [some (aQ n ps),none,none,none] H=.rt (.ref H.length) (H++[.lst ((loose n ps).map aI)]):=by show aH (aL (aS aC) (aE 1)) (aH (cU (aR cQ (aB (m2 aN (aA 0) (mC (.int 0))) aC)) (aE 2) (cU (aR jG (aB (m2 bO (aA 2) (mC (.int 1))) (aB (m2 aN (aA 0) (mC (.int 0))) aC))) (aE 3) pV)) (aM (aA 1))) _ _=_;rw[bH w0,bH h1,h2,h3];rfl
 rw[z];rfl
end
def Lse (ps:wo) (a b:Int):Prop:=a≠b/\(a,b)∉ps/\(b,a)∉ps
instance (ps:wo) (a b:Int):Decidable (Lse ps a b):=by unfold Lse;infer_instance
theorem Cp {ps:wo}{a:Nat}{q:Int×Int}:∀{k:Nat},q∈gQ ps a k↔∃j,j<k/\q=((a:Int),(a:Int)+1+(j:Int))/\q∉ps/\(q.2,q.1)∉ps
 |0=>by simp[gQ]
 |k+1=>by
  unfold gQ;rw[cy,Cp (k:=k)];constructor
  ·rintro (⟨j,hj,h⟩|h)
   ·exact⟨j,by omega,h⟩
   ·split at h
    ·simp at h
    ·rename_i c;rw[dj]at h;subst h;exact⟨k,by omega,rfl,λz=>c (.inl z),λz=>c (.inr z)⟩
  ·rintro ⟨j,hj,h,h1,h2⟩
   by_cases q:j=k
   ·subst q;right;subst h;rw[if_neg (λz=>z.elim h1 h2)];simp
   ·exact .inl ⟨j,by omega,h,h1,h2⟩
theorem O9 {n:Nat}{ps:wo}{q:Int×Int}:∀{k:Nat},q∈gH n ps k↔∃a,a<k/\q∈gQ ps a (n - (a+1))
 |0=>by simp[gH]
 |k+1=>by
  unfold gH;rw[cy,O9 (k:=k)];constructor
  ·rintro (⟨a,ha,h⟩|h)
   ·exact⟨a,by omega,h⟩
   ·exact⟨k,by omega,h⟩
  ·rintro ⟨a,ha,h⟩
   by_cases q:a=k
   ·subst q;exact .inr h
   ·exact .inl ⟨a,by omega,h⟩
theorem Ba {n:Nat}{ps:wo}{q:Int×Int}:q∈loose n ps↔0<=q.1/\q.1<q.2/\q.2<n/\Lse ps q.1 q.2:=by
 unfold loose;rw[O9];constructor
 ·rintro ⟨a,ha,h⟩
  obtain⟨j,hj,rfl,h1,h2⟩:=Cp.mp h;exact⟨by omega,by simp only;omega,by simp only;omega,by simp only[ne_eq];omega,h1,h2⟩
 ·rintro ⟨h0,h1,h2,_,h3,h4⟩
  refine⟨q.1.toNat,by omega,Cp.mpr ⟨(q.2 - q.1 - 1).toNat,by omega, ?_,h3,h4⟩⟩
  apply Prod.ext <;> simp only <;> omega
section
variable{n:Nat}{ps:wo}{r:Int}{fs:Ah}
end
section
variable{n:Nat}{ps:wo}{r:Int}{fs:Ah}
end
section
variable{n:Nat}{ps:wo}{r:Int}{H:Hs}
theorem loose_is {a b:Int}:F_qz [aQ n ps,.int a,.int b] H=.ok (.bl (decide (Lse ps a b))) H:=by
 have h1:=zP (n:=n) (ps:=ps) H;have t1:=oH true H (a,b) ps;have t2:=oH true H (b,a) ps;simp only[aI,if_true]at t1 t2;have hne:cJ (.int a) (.int b) H=.ok (.bl (!(a==b))) H:=by simp[cJ,bY,bQ,bI]
 generalize aQ n ps=d at h1;simp only[Lse]
 by_cases c0:a=b
 ·subst c0;simp[F_qz,mU,aV,bX,aH,aL,m2,aA,mC,h1,aE,aM,cP,hne,bJ]
 ·have c0':(a==b)=false:=by simpa using c0
  by_cases c1:(a,b)∈ps
  ·simp[F_qz,mU,aV,bX,aH,aL,m2,aA,mC,h1,aE,aM,cP,hne,c0',aK,aB,aC,lim,t1,c1,bJ]
  ·simp[F_qz,mU,aV,bX,aH,aL,m2,aA,mC,h1,aE,aM,cP,hne,c0',c0,aK,aB,aC,lim,t1,c1,t2,bJ]
end
section
variable{n:Nat}{ps:wo}{r:Int}{H:Hs}{i j:Nat}{fs:Ah}{nd:List (Int×Int×Int)}
end
section
variable{n:Nat}{ps:wo}{r:Int}{H:Hs}{i j:Nat}{fs:Ah}{nd:List (Int×Int×Int)}{d:Dv}
theorem need_ok (o:A' n ps):F_qs [aQ n ps] H=.ok .non H:=by simp[F_qs,qQ,aV,bX,aW,cD,bN,aF,aB,aA,aC,z39 o,fT,bE,bJ]
theorem need_bad (h:TK 3 H d) (hb:hX d=false):F_qs [d] H=.ex 0 H:=by have e:=z43 h;rw[hb]at e;simp[F_qs,qQ,aV,bX,aW,cD,bN,aF,aB,aA,aC,e,fT,tX,mC,bJ]
end
end L2.Mr.Cod
namespace L2.Mr.Com
section
variable{P:Ev->Hs->Prop}{l l':Nat}{m m':M Dv}
end
section
variable{st n:Nat}{cs:wo}{at_ a b:Int}
variable(o:A' n cs)
include o
end
end L2.Mr.Com
namespace L2.Mr.Gen
open L2.Mr.Com
theorem z48 {t u:M Bool}{ρ:Ev}{h h1:Hs}(e:t ρ h=.ok true h1):cO t u ρ h=.ok true h1:=by unfold cO;rw[e];rfl
theorem oR {t u:M Bool}{ρ:Ev}{h h1:Hs}(e:t ρ h=.ok false h1):cO t u ρ h=u ρ h1:=by unfold cO;rw[e];rfl
theorem sL {t:M Bool}{ρ:Ev}{h h1:Hs}{b:Bool}(e:t ρ h=.ok b h1):cD t ρ h=.ok (!b) h1:=by unfold cD;rw[e];rfl
theorem z49 (xs ys:Al) (hl:xs.length+ys.length<=1000) {H:Hs}:bO (.tup xs) (.tup ys) H=.ok (.tup (xs++ys)) H:=by
 cases xs with
 |nil=>rfl
 |cons x xs=>
  have:(x::xs).length+ys.length<=1000000:=by omega
  have:xs.length+1+ys.length<=1000000:=by simp at this;omega
  simp[bO,lC,lim,this]
section
variable{H:Hs}{xs:Ah}
theorem FO (ns:Ah):bF iN (ns.map Fc)=some ns:=by
 induction ns with
 |nil=>rfl
 |cons x xs ih=>simp[bF,iN,ih]
theorem vR {m:M Dv}{ρ:Ev}{H:Hs}{L:Int}(e:m ρ H=.ok (.int L) H) (h0:0<=L) (h1:L<=1000):aR cQ (aB m aC) ρ H=.ok (cT 0 L) H:=by
 have hr:lE L=true:=by simp[lE];omega
 simp[aR,aB,e,aC,cQ,hr]
theorem FP {ds:Al}{i:Nat}{ρ:Ev}(e:aA i ρ H=.ok (.tup ds) H):aF (f1 cF) (aB (aA i) aC) ρ H=.ok (.int ds.length) H:=by simp[aF,aB,e,aC,f1,cF,gD,iL,fV]
theorem sM {α:Type}(p:α->Bool) (f:α->Dv) (l:List α):(l.filterMap λq=>if p q then some (f q)else none)=(l.filter p).map f:=by
 induction l with
 |nil=>rfl
 |cons k l ih=>
  rw[bw,jb]
  cases c:p k with
  |true=>simp only[if_true,dk];rw[ih]
  |false=>simp only[cp,if_false];exact ih
theorem z4a (neg:Bool) (x:Int) {i:Nat}(e:getL H i=some (xs.map Fc)):bP neg (.int x) (.ref i) H=.ok (.bl (if neg then !decide (x∈xs)else decide (x∈xs))) H:=by
 have e':(xs.map Fx).any (λt=>bI t (.int x))=decide (x∈xs):=by
  rw[cz];simp only[tu,my,uk,decide_eq_true_eq];constructor
  ·rintro ⟨q,hq,h⟩
   have:q=x:=by simpa[bI]using h
   rw[<-this];exact hq
  ·intro h;exact⟨x,h,by simp[bI]⟩
 have h1:bF (bQ bY H) (xs.map Fc)=some (xs.map Fx):=uQ 29 H xs;have h2:bQ bY H (.int x)=some (.int x):=rfl;show kK [] neg (.int x) (.ref i) H=_;simp only[kK,fV,e,h1,h2,e']
theorem qX {m:M Dv}{ρ ρ1:Ev}{i:Nat}{H H':Hs}{v:Dv}(e:m ρ H=.ok v H') (hs:aE i v ρ=some ρ1):aL m (aE i) ρ H=.nx ρ1 H':=by simp[aL,e,hs]
theorem PB {m:M Al }{ρ:Ev}{i:Nat}{H H':Hs}{ds:Al}{ρ1:Ev}(e:m ρ H=.ok ds H') (hs:aE i (.ref H'.length) ρ=some ρ1):aL (bU m) (aE i) ρ H=.nx ρ1 (H'++[.lst ds]):=by
 have ea:bU m ρ H=.ok (.ref H'.length) (H'++[.lst ds]):=by unfold bU;rw[e];rfl
 exact qX ea hs
theorem eR {f:Dv->Dv->Hs->Rs Dv}{ma mb:M Dv}{ρ:Ev}{H H1 H2 H3:Hs}{x y z:Dv}(ha:ma ρ H=.ok x H1) (hb:mb ρ H1=.ok y H2) (hf:f x y H2=.ok z H3):m2 f ma mb ρ H=.ok z H3:=by unfold m2;rw[ha,Rs.bind_ok,hb,Rs.bind_ok,hf]
end
end L2.Mr.Gen
namespace L2.Mr.K05
open L2.Mr.Com L2.Mr.Gen
theorem need_ok {n:Nat}{ps:wo}{H:Hs}(o:A' n ps):F_qs [aQ n ps] H=.ok .non H:=Cod.need_ok o
theorem loose_is {n:Nat}{ps:wo}{H:Hs}{a b:Int}:F_qz [aQ n ps,.int a,.int b] H=.ok (.bl (decide (Cod.Lse ps a b))) H:=Cod.loose_is
theorem FQ {n:Nat}{ps:wo}{H:Hs}(hn:n<=10):F_qk [aQ n ps] H=.ok (.ref H.length) (H++[.lst ((Cod.loose n ps).map aI)]):=Cod.loose_ok hn
def ix (ns:Ah) (k:Int):Nat:=(fK k ns).getD 0
theorem pos_mem {k:Int}:∀{ns:Ah},k∈ns->fK k ns=some (ix ns k)
 | [],h=>nomatch h
 |n::ns,h=>by
  unfold ix fK
  by_cases c:n=k
  ·rw[if_pos c];rfl
  ·rw[if_neg c];have hm:k∈ns:=(ba.mp h).elim (λz=>absurd z.symm c) id;rw[pos_mem hm];rfl
theorem iZ {k:Int}{ns:Ah}(h:k∈ns):ix ns k<ns.length:=(az.mp (uN (pos_mem h)).1).1
theorem pW {a b:Int}{ns:Ah}(ha:a∈ns) (hb:b∈ns) (e:ix ns a=ix ns b):a=b:=by have h1:=(uN (pos_mem ha)).1;have h2:=(uN (pos_mem hb)).1;rw[e,h2]at h1;exact(cq h1).symm
theorem kB {ns ms:Ah}{k:Int}(h:k∈ns):ix (ns++ms) k=ix ns k:=by
 have key:∀{ns:Ah},k∈ns->fK k (ns++ms)=fK k ns:=by
  intro ns
  induction ns with
  |nil=>intro h;cases h
  |cons x xs ih=>
   intro h;show fK k (x::(xs++ms))=_;unfold fK
   by_cases c:x=k
   ·rw[if_pos c,if_pos c]
   ·rw[if_neg c,if_neg c,ih ((ba.mp h).elim (λz=>absurd z.symm c) id)]
 unfold ix;rw[key h]
theorem vS {ns:Ah}{k:Int}(h:k∉ns):ix (ns++[k]) k=ns.length:=by
 have key:∀{ns:Ah},k∉ns->fK k (ns++[k])=some ns.length:=by
  intro ns
  induction ns with
  |nil=>intro _;show fK k [k]=some 0;unfold fK;rw[if_pos rfl]
  |cons x xs ih=>intro h;show fK k (x::(xs++[k]))=_;unfold fK;rw[if_neg (λz=>h (by rw[z];exact ay ..)),ih (λz=>h (ao _ z))];rfl
 unfold ix;rw[key h];rfl
section
variable{n:Nat}{ps:wo}{H:Hs}{ns:Ah}{ρ:Ev}
theorem idx_V {a:Nat}{me:M Dv}{k:Int}(h1:aA a ρ=λH=>.ok (.tup (ns.map Fc)) H) (h2:me ρ H=.ok (.int k) H) (hk:k∈ns):eY (aA a) me ρ H=.ok (.int (ix ns k)) H:=by simp[eY,h1,LZ,h2,CO,FO,pos_mem hk]
theorem Bj {x:Int}:x∈bS n↔0<=x/\x<n:=by
 unfold bS;rw[cf];constructor
 ·rintro ⟨k,hk,rfl⟩
  have:=br.mp hk;omega
 ·intro h;exact⟨x.toNat,br.mpr (by omega),by omega⟩
theorem rng_up:(bS n).Pairwise (·<·):=by unfold bS;exact rj.mpr ((yx).imp λh=>by omega)
theorem sN:(bS n).Nodup:=rng_up.imp λh=>by omega
theorem nK (hr:∀x∈ns,0<=x/\x<n) (nd:ns.Nodup) (hl:ns.length=n) {x:Int}(h0:0<=x) (h1:x<n):x∈ns:=by
 by_cases c:x∈ns
 ·exact c
 ·exfalso
  have nd':(x::ns).Nodup:=ji.mpr ⟨c,nd⟩;have:=nd'.length_le_of_subset (l₂:=bS n) λy hy=>by
   rcases ba.mp hy with rfl|hy
   ·exact Bj.mpr ⟨h0,h1⟩
   ·exact Bj.mpr (hr y hy)
  simp[bS]at this;omega
end
section
variable{n:Nat}{ps:wo}{H:Hs}{ns:Ah}
theorem gtC_ok {mi:M Src}{cap:List (Option Nat)}{ρ:Ev}(o:A' n ps) (hm:∀x:Int,0<=x->x<n->x∈ns) (hi:mi ρ H=.ok (dX (ps.map aI)) H) (hc:jS cap ρ=[none,none,some (.tup (ns.map Fc))]):bT mi cap (cH 2 (aY (aE 0) (aY (aE 1) cK))) (mB (m2 kM (eY (aA 2) (aA 0)) (eY (aA 2) (aA 1)))) (bM (mC (.int 1))) ρ H=.ok ((ps.filter λq=>decide (ix ns q.1>ix ns q.2)).map λ_=>Fc 1) H:=by
 have w:=iG (sg:=cH 2 (aY (aE 0) (aY (aE 1) cK))) (t:=mB (m2 kM (eY (aA 2) (aA 0)) (eY (aA 2) (aA 1)))) (e:=mC (.int 1)) ps (λq=>if decide (ix ns q.1>ix ns q.2)then some ((λ_=>Fc 1) q)else none) (λρ=>∃a b,ρ=[a,b,some (.tup (ns.map Fc))]) hi (by simp[dX]) ⟨_,_,hc⟩ rfl (λk hk ρ ⟨a,b,e⟩=>by
   subst e;refine⟨aI ps[k],[some (.int ps[k].1),some (.int ps[k].2),some (.tup (ns.map Fc))],by simp[dX,hk],rfl,⟨_,_,rfl⟩, ?_⟩;have r:=o.rng ps[k] (cj hk);have i1:=idx_V (H:=H) (ns:=ns) (a:=2) (me:=aA 0) (ρ:=[some (.int ps[k].1),some (.int ps[k].2),some (.tup (ns.map Fc))]) rfl rfl (hm _ r.1 r.2.1);have i2:=idx_V (H:=H) (ns:=ns) (a:=2) (me:=aA 1) (ρ:=[some (.int ps[k].1),some (.int ps[k].2),some (.tup (ns.map Fc))]) rfl rfl (hm _ r.2.2.1 r.2.2.2);have hd:decide ((ix ns ps[k].1:Int)>(ix ns ps[k].2:Int))=decide (ix ns ps[k].1>ix ns ps[k].2):=by rw[cz];simp
   have hg:kM (.int (ix ns ps[k].1:Int)) (.int (ix ns ps[k].2:Int)) H=.ok (.bl (decide (ix ns ps[k].1>ix ns ps[k].2))) H:=by show iC _ _ _ H=_;simp only[iC,hd]
   have t:mB (m2 kM (eY (aA 2) (aA 0)) (eY (aA 2) (aA 1))) [some (.int ps[k].1),some (.int ps[k].2),some (.tup (ns.map Fc))] H=.ok (decide (ix ns ps[k].1>ix ns ps[k].2)) H:=by unfold mB;rw[eR i1 i2 hg];rfl
   cases c:decide (ix ns ps[k].1>ix ns ps[k].2)with
   |true=>rw[c]at t;exact⟨t,rfl⟩
   |false=>rw[c]at t;exact t) (by have:=o.len;omega)
 exact w.trans (congrArg (λl=>Ft l _) (sM _ _ _))
end
open L2.Mr.Cod (loose gH gQ Ba Lse)
section
variable{n:Nat}{ps:wo}{H:Hs}{ns:Ah}
theorem FR (hn:n<=6):(loose n ps).length<=36:=by
 have hB:∀k,(gH n ps k).length<=k*6:=by
  intro k
  induction k with
  |zero=>exact aj _
  |succ k ih=>rw[gH,bq];have:=Cod.looseB_len ps k (n - (k+1));omega
 have:=hB n;unfold loose;omega
def eZ (ns:Ah) (q:Int×Int):Int:=if(ix ns q.1:Int) - ix ns q.2<0 then -((ix ns q.1:Int) - ix ns q.2)else(ix ns q.1:Int) - ix ns q.2
theorem vT (q:Int×Int):0<=eZ ns q:=by unfold eZ;split <;> omega
theorem z4b {ma mb:M Dv}{ρ:Ev}{A B:Int}(ea:ma ρ H=.ok (.int A) H) (eb:mb ρ H=.ok (.int B) H):aF (f1 oY) (aB (m2 eI ma mb) aC) ρ H=.ok (.int (if A - B<0 then -(A - B)else A - B)) H:=by have hs:eI (.int A) (.int B) H=.ok (.int (A - B)) H:=rfl;have e:=eR ea eb hs;generalize A - B=C at e;generalize m2 eI ma mb=M at e;simp[aF,aB,e,aC,f1,oY]
theorem z4c {a:Nat}{m0 m1:M Dv}{ρ:Ev}{q:Int×Int}(h1:aA a ρ=λH=>.ok (.tup (ns.map Fc)) H) (e0:m0 ρ H=.ok (.int q.1) H) (e1:m1 ρ H=.ok (.int q.2) H) (k0:q.1∈ns) (k1:q.2∈ns):aF (f1 oY) (aB (m2 eI (eY (aA a) m0) (eY (aA a) m1)) aC) ρ H=.ok (.int (eZ ns q)) H:=z4b (idx_V h1 e0 k0) (idx_V h1 e1 k1)
def gE (n:Nat) (ps:wo) (ns:Ah):Int:=if(loose n ps).map (eZ ns)=[]then 0 else gM ((loose n ps).map (eZ ns))
end
section
variable{n:Nat}{ps:wo}{H:Hs}{ns:Ah}
theorem for_ret {src:Src}{sg:dP}{b:MS}{f k:Nat}{ρ ρ1:Ev}{H H2:Hs}{d v:Dv}(hg:src.get k H=some d) (hs:sg d ρ=some ρ1) (hb:b ρ1 H=.rt v H2):eJ src sg b (f+1) k ρ H=.rt v H2:=by simp[eJ,hg,hs,hb]
theorem eq_int (a b:Int):bD (.int a) (.int b) H=.ok (.bl (decide (a=b))) H:=by
 have:(a==b)=decide (a=b):=by rw[cz];simp
 simp[bD,bY,bQ,bI,this]
theorem z4d {L:Ah}(h:∀x∈L,0<=x):gM (0::L)=if L=[]then 0 else gM L:=by
 have m1:=L2.Mr.maxI_is (ns:=0::L) (by simp)
 by_cases c:L=[]
 ·subst c;rfl
 ·rw[if_neg c];have m2:=L2.Mr.maxI_is c;have a:gM L<=gM (0::L):=m1.2 _ (ao _ m2.1);have b:gM (0::L)<=gM L:=by
   rcases ba.mp m1.1 with z|z
   ·rw[z];exact h _ m2.1
   ·exact m2.2 _ z
  omega
def qY:M Al :=bT (bK cB (aF F_qk (aB (aA 0) aC))) [none,none,some 1] (cH 2 (aY (aE 0) (aY (aE 1) cK))) eK (bM (aF (f1 oY) (aB (m2 eI (eY (aA 2) (aA 0)) (eY (aA 2) (aA 1))) aC)))
theorem z4e:vB=aM (aF (f1 (jX gM)) (aB (m2 bO (aS (aB (mC (.int 0)) aC)) (bU qY)) aC)):=rfl
theorem z4f {F:Ak}{a:Dv}{x i:Nat}{ρ:Ev}{H1:Hs}{xs:Al}(ha:aA x ρ=λH=>.ok a H) (e:F [a] H=.ok (.ref i) H1) (g:getL H1 i=some xs):bK cB (aF F (aB (aA x) aC)) ρ H=.ok (cA i xs.length) H1:=by simp[bK,aF,aB,ha,aC,e,cB,g]
theorem z4g {m:M Dv}{ρ:Ev}{i:Nat}{Z:Ah}{H3:Hs}(em:m ρ H=.ok (.ref i) H3) (g3:getL H3 i=some (Z.map Fc)) (lp:0<Z.length):bJ (aM (aF (f1 (jX gM)) (aB m aC)) ρ H)=.ok (.int (gM Z)) H3:=by simp[aM,aF,aB,em,aC,f1,jX,g3,FO,lp,bJ]
theorem lspan_ok (o:A' n ps) (hm:∀x:Int,0<=x->x<n->x∈ns):∃H',F_qx [aQ n ps,.tup (ns.map Fc)] H=.ok (.int (gE n ps ns)) H'/\Fr [] H H':=by
 have f0:Fr [] H (H++[Fd [.int 0]]):=Fe;have g0:getL (H++[Fd [.int 0]]) H.length=some ([0].map Fc):=Cod.last_get;have e0:aS (aB (mC (.int 0)) aC) [some (aQ n ps),some (.tup (ns.map Fc))] H=.ok (.ref H.length) (H++[.lst [.int 0]]):=rfl;generalize H++[Fd [.int 0]]=H0 at f0 g0 e0;generalize H.length=i0 at g0 e0;have e2:=FQ (n:=n) (ps:=ps) (H:=H0) (by have:=o.n6;omega);have g:getL (H0++[Fd ((loose n ps).map aI)]) H0.length=some ((loose n ps).map aI):=Cod.last_get;have f:Fr [] H0 (H0++[Fd ((loose n ps).map aI)]):=Fe;generalize H0++[Fd ((loose n ps).map aI)]=H1 at e2 g f;generalize H0.length=i at e2 g;have w:qY [some (aQ n ps),some (.tup (ns.map Fc))] H0=.ok ((loose n ps).filterMap λq=>some (.int (eZ ns q))) H1:=iG (loose n ps) (λq=>some (.int (eZ ns q))) (λρ=>∃a b,ρ=[a,b,some (.tup (ns.map Fc))]) (z4f rfl e2 g) (by simp[cA]) ⟨_,_,rfl⟩ (by simp[cA,g]) (λk hk ρ ⟨a,b,e⟩=>by subst e;have r:=Ba.mp (cj hk);exact⟨aI (loose n ps)[k],[some (.int (loose n ps)[k].1),some (.int (loose n ps)[k].2),some (.tup (ns.map Fc))],by simp[cA,g,hk],rfl,⟨_,_,rfl⟩,rfl,z4c rfl rfl rfl (hm _ r.1 (by omega)) (hm _ (by omega) (by omega))⟩) (by have:=FR (ps:=ps) o.n6;omega);have w':qY [some (aQ n ps),some (.tup (ns.map Fc))] H0=.ok (((loose n ps).map (eZ ns)).map Fc) H1:=by rw[w,jo];simp[List.filterMap_eq_map]
 have h0:∀x∈(loose n ps).map (eZ ns),0<=x:=λx hx=>by obtain⟨q,_,rfl⟩:=cf.mp hx;exact vT q
 have hl:((loose n ps).map (eZ ns)).length<=36:=by rw[bc];exact FR o.n6
 have hs:gM (0::(loose n ps).map (eZ ns))=gE n ps ns:=z4d h0;generalize (loose n ps).map (eZ ns)=L at w' hl hs;have ea:bU qY [some (aQ n ps),some (.tup (ns.map Fc))] H0=.ok (.ref H1.length) (H1++[.lst (L.map Fc)]):=by unfold bU;rw[w'];rfl
 have g2:getL (H1++[Fd (L.map Fc)]) H1.length=some (L.map Fc):=Cod.last_get;have f2:Fr [] H1 (H1++[Fd (L.map Fc)]):=Fe;have g0':=f2.getL (f.getL g0 (by simp)) (by simp);generalize H1++[Fd (L.map Fc)]=H2 at ea g2 f2 g0';generalize H1.length=i2 at ea g2;have a:=Cod.addL (H:=H2) g0' g2 (by simp;omega);have em:=eR e0 ea a;have hcat:[0].map Fc++L.map Fc=(0::L).map Fc:=rfl;rw[hcat]at em;have g3:getL (H2++[Fd ((0::L).map Fc)]) H2.length=some ((0::L).map Fc):=Cod.last_get;have f3:Fr [] H2 (H2++[Fd ((0::L).map Fc)]):=Fe;generalize H2++[Fd ((0::L).map Fc)]=H3 at em g3 f3;generalize H2.length=i3 at em g3;refine⟨H3, ?_,((f0.trans f (by simp)).trans f2 (by simp)).trans f3 (by simp)⟩;show bJ (vB [some (aQ n ps),some (.tup (ns.map Fc))] H)=_;rw[z4e,<-hs];exact z4g em g3 (by simp)
end
theorem PC {α:Type}{p q:α->Bool}:∀{l:List α},(∀x∈l,p x=true->q x=true)->(∃a∈l,q a=true/\p a=false)->(l.filter p).length<(l.filter q).length
 | [],_,⟨_,h,_⟩=>nomatch h
 |x::l,h,⟨a,ha,hq,hp⟩=>by
  have le:(l.filter p).length<=(l.filter q).length:=by
   clear hq hp ha
   have h':∀x∈l,p x=true->q x=true:=λy hy=>h y (ao _ hy)
   clear h
   induction l with
   |nil=>exact aj _
   |cons y l ih=>
    have i:=ih λz hz=>h' z (ao _ hz);have hy:=h' y (ay ..);rw[jb,jb]
    cases c:p y with
    |true=>rw[hy c];simpa using i
    |false=>
     cases c2:q y with
     |true=>simp;omega
     |false=>simpa using i
  rw[jb,jb]
  rcases ba.mp ha with rfl|ha
  ·rw[hq,hp];simp;omega
  ·have i:=PC (l:=l) (λy hy=>h y (ao _ hy)) ⟨a,ha,hq,hp⟩;have hx:=h x (ay ..)
   cases c:p x with
   |true=>rw[hx c];simpa using i
   |false=>
    cases c2:q x with
    |true=>simp;omega
    |false=>simpa using i
section
variable{n st:Nat}{ps:wo}{H:Hs}{xs:Ah}
theorem FT (o:A' n ps) {left:Ah}:∀(m:Nat) (x:Int),x∈left->(left.filter λa=>decide ((a,x)∈ps)).length<=m->∃z∈left,∀a∈left,(a,z)∉ps
 |m,x,hx,hm=>by
  by_cases c:∃a∈left,(a,x)∈ps
  ·obtain⟨a,ha,hp⟩:=c;have lt:=PC (l:=left) (p:=λb=>decide ((b,a)∈ps)) (q:=λb=>decide ((b,x)∈ps)) (λb _ hb=>by simp only[decide_eq_true_eq]at hb ⊢;exact o.tr _ hb _ hp rfl) ⟨a,ha,by simpa using hp,by simp;exact λz=>o.irr _ z rfl⟩
   match m,hm with
   |0,hm=>omega
   |m+1,hm=>exact FT o m a ha (by omega)
  ·exact⟨x,hx,λa ha hp=>c ⟨a,ha,hp⟩⟩
def sO:M Al :=bT (bK fI (m2 aN (aA 1) (mC (.int 1)))) [none,none,some 0,some 2] (cH 2 (aY (aE 0) (aY (aE 1) cK))) (eC (mB (m2 bD (aA 1) (aA 2))) (mB (m2 (bP true) (aA 0) (aA 3)))) (bM (aA 0))
def dR (n:Nat) (xs:Ah):Ah:=(bS n).filter λx=>!decide (x∈xs)
def jA (ps:wo) (xs:Ah) (x:Int):wo:=ps.filter λq=>decide (q.2=x)&&!decide (q.1∈xs)
theorem PD (o:A' n ps) {x:Int}:sO [some (.int x),some (aQ n ps),some (.tup (xs.map Fc))] H=.ok (((jA ps xs x).map λq=>q.1).map Fc) H:=by
 have w:sO [some (.int x),some (aQ n ps),some (.tup (xs.map Fc))] H=.ok (ps.filterMap λq=>if(decide (q.2=x)&&!decide (q.1∈xs))then some ((λq:Int×Int=>Fc q.1) q)else none) H:=
  iG ps _ (λρ=>∃a b,ρ=[a,b,some (.int x),some (.tup (xs.map Fc))]) (src:=dX (ps.map aI)) rfl (by simp[dX]) ⟨_,_,rfl⟩ rfl (λk hk ρ ⟨a,b,e⟩=>by
   subst e;refine⟨aI ps[k],[some (.int ps[k].1),some (.int ps[k].2),some (.int x),some (.tup (xs.map Fc))],by simp[dX,hk],rfl,⟨_,_,rfl⟩, ?_⟩;have t1:=eq_int (H:=H) ps[k].2 x;have t2:=pQ true H ps[k].1 xs;simp only[if_true]at t2;generalize xs.map Fc=ys at t2
   cases c1:decide (ps[k].2=x)with
   |false=>rw[c1]at t1;simp[eC,mB,m2,aA,t1,dZ]
   |true=>
    rw[c1]at t1
    cases c2:!decide (ps[k].1∈xs)with
    |true=>rw[c2]at t2;simp[eC,mB,m2,aA,t1,t2,dZ]
    |false=>rw[c2]at t2;simp[eC,mB,m2,aA,t1,t2,dZ]) (by have:=o.len;omega)
 have:=w.trans (congrArg (λl=>Ft l _) (sM _ _ _));rw[jo];exact this
theorem vU {m:M Al }{ρ:Ev}{zs:Ah}(e:m ρ H=.ok (zs.map Fc) H):∃H',mB (m2 bD (bU m) (aS aC)) ρ H=.ok (decide (zs=[])) H'/\Fr [] H H':=by
 have ea:bU m ρ H=.ok (.ref H.length) (H++[.lst (zs.map Fc)]):=by unfold bU;rw[e];rfl
 have g:getL (H++[Fd (zs.map Fc)]) H.length=some (zs.map Fc):=Cod.last_get;have f:Fr [] H (H++[Fd (zs.map Fc)]):=Fe;generalize H++[Fd (zs.map Fc)]=H1 at ea g f;have g2:getL (H1++[Fd []]) H1.length=some (([]:Ah).map Fc):=Cod.last_get;have q:=eq_ints (iX (l:=[Fd []]) g) g2;refine⟨H1++[.lst []], ?_,f.trans (T:=[]) Fe (by simp)⟩;generalize bU m=M at ea;simp[mB,m2,ea,aS,aC,lim,q,dZ]
theorem sA2_gen (o:A' n ps) {i:Nat}{ys:Ah}{mi:M Src}{cap:List (Option Nat)}{ρ:Ev}(g:getL H i=some (ys.map Fc)) (hl:ys.length<=6) (hi:mi ρ H=.ok (cA i (ys.map Fc).length) H) (hc:jS cap ρ=[none,some (aQ n ps),some (.tup (xs.map Fc))]):∃H',bT mi cap (aE 0) (mB (m2 bD (bU sO) (aS aC))) (bM (aA 0)) ρ H=.ok ((ys.filter λy=>decide (jA ps xs y=[])).map Fc) H'/\Fr [] H H':=by
 have fl:∀l:Ah,(l.flatMap λy=>if decide (jA ps xs y=[])then[Fc y]else[])=(l.filter λy=>decide (jA ps xs y=[])).map Fc:=λl=>by
  induction l with
  |nil=>rfl
  |cons y l ih=>
   rw[iq,jb,ih]
   cases c:decide (jA ps xs y=[]) <;> simp
 obtain⟨ρ',H',h,_,f⟩:=vG (mi:=mi) (cap:=cap) (src:=cA i (ys.map Fc).length) (sg:=aE 0) (t:=mB (m2 bD (bU sO) (aS aC))) (m:=bM (aA 0)) (ρ:=ρ) (H:=H) (H1:=H) ys (λy=>if decide (jA ps xs y=[])then[Fc y]else[]) (λρ Hx=>(∃a,ρ=[a,some (aQ n ps),some (.tup (xs.map Fc))])/\Fr [] H Hx) hi (by simp[cA]) ⟨⟨_,hc⟩,Fh⟩ (λρ Hx s=>by have gx:=s.2.getL g (by simp);simp[cA,gx])
  (λk hk ρ Hx ⟨⟨a,e⟩,f⟩=>by
   subst e;have gx:=f.getL g (by simp);refine⟨.int ys[k],[some (.int ys[k]),some (aQ n ps),some (.tup (xs.map Fc))],by simp[cA,gx,hk],rfl, ?_⟩;obtain⟨Hy,t,fy⟩:=vU (PD (H:=Hx) (xs:=xs) o (x:=ys[k]));have hd:decide (((jA ps xs ys[k]).map λq=>q.1)=[])=decide (jA ps xs ys[k]=[]):=by rw[cz];simp
   rw[hd]at t
   cases c:decide (jA ps xs ys[k]=[])with
   |false=>rw[c]at t;exact .inl ⟨Hy,t,by simp,⟨_,rfl⟩,f.trans fy (by simp)⟩
   |true=>rw[c]at t;refine .inr ⟨Hy,t,λacc hl=>⟨[some (.int ys[k]),some (aQ n ps),some (.tup (xs.map Fc))],Hy, ?_,⟨_,rfl⟩,f.trans fy (by simp)⟩⟩;simp only[if_true]at hl ⊢;exact vH rfl hl) (by
   rw[fl,bc];have:=ie (λy=>decide (jA ps xs y=[])) ys;omega)
 refine⟨H', ?_,f⟩;rw[<-fl];exact h
end
open L2.Mr.Cod (last_get addL gO)
section
variable{st:Nat}{H:Hs}{ρ:Ev}{ds:Al}{a b:Nat}{y:Dv}
end
section
variable{c:Nat}(hc:c=0∨c=5) {H:Hs}{x0 x2 x3:Am}
include hc
end
theorem z4h {ρ:Ev}{H H':Hs}{ds:Al}(e:vO ρ H=.ok ds H'):∀x∈ds,hX x=false:=by
 have e2:Ft _ _=Ft ds H':=e;injection e2 with e3 e4;subst e3
 repeat' (first|exact qd _|refine gr.mpr ⟨rfl, ?_⟩)
theorem z4i {ρ:Ev}{H H':Hs}{ds:Al}(e:vP ρ H=.ok ds H'):∀x∈ds,hX x=false:=by
 have e2:Ft _ _=Ft ds H':=e;injection e2 with e3 e4;subst e3
 repeat' (first|exact qd _|refine gr.mpr ⟨rfl, ?_⟩)
theorem z4j {ρ:Ev}{H H':Hs}{ds:Al}(e:vQ ρ H=.ok ds H'):∀x∈ds,hX x=false:=by
 have e2:Ft _ _=Ft ds H':=e;injection e2 with e3 e4;subst e3
 repeat' (first|exact qd _|refine gr.mpr ⟨rfl, ?_⟩)
def MnB (n:Nat) (H:Hs) (i:Nat):Prop:=∃ds,getL H i=some ds/\ds.length=n/\(∀x∈ds,TK 3 H x)/\∀x∈ds,hX x=false
section
variable{n m:Nat}{H H':Hs}{i j:Nat}
theorem MnB.fr0 (h:MnB n H i) (f:Fr [] H H'):MnB n H' i:=by obtain⟨ds,e,l,t,b⟩:=h;exact⟨ds,f.getL e (by simp),l,λx hx=>(t x hx).fr0 f,b⟩
theorem MnB.fr {st:Nat}(h:MnB n H i) (f:Fr [st] H H') (s:Com.St st H') (hi:i≠st):MnB n H' i:=by obtain⟨ds,e,l,t,b⟩:=h;exact⟨ds,f.getL e (by simpa using hi),l,λx hx=>(t x hx).fr f s,b⟩
theorem FU {ms:M Al }{ρ:Ev}(h:nJ (λ_ _=>True) 3 n ms) (hb:∀{ρ:Ev}{H H':Hs}{ds:Al},ms ρ H=.ok ds H'->∀x∈ds,hX x=false) (hn:n<=500):∃i H',aS ms ρ H=.ok (.ref i) H'/\MnB n H' i/\Fr [] H H'/\H.length<=i:=by obtain⟨ds,H1,e1,f1,l1,t1⟩:=h ρ H trivial;refine⟨H1.length,H1++[.lst ds], ?_,⟨ds,last_get,l1,λx hx=>(t1 x hx).fr0 Fe,hb e1⟩,f1.trans (T:=[]) Fe (by simp),f1.le⟩;unfold aS lim;rw[e1,Rs.bind_ok,if_pos (by omega)]
theorem PF (a:MnB n H i) (b:MnB m H j) (hn:n+m<=500):∃H',bO (.ref i) (.ref j) H=.ok (.ref H.length) H'/\MnB (n+m) H' H.length/\Fr [] H H':=by
 obtain⟨ds,e1,l1,t1,b1⟩:=a;obtain⟨es,e2,l2,t2,b2⟩:=b;refine⟨_,addL e1 e2 (by omega),⟨ds++es,last_get,by simp[l1,l2],λx hx=>?_,λx hx=>?_⟩,Fe⟩
 ·rcases cy.mp hx with hx|hx
  ·exact(t1 x hx).fr0 Fe
  ·exact(t2 x hx).fr0 Fe
 ·rcases cy.mp hx with hx|hx
  ·exact b1 x hx
  ·exact b2 x hx
end
theorem bad_no {st:Nat}{H:Hs}(s:Com.St st H):∃d H',F_qb [.ref st] H=.ok d H'/\TK 3 H' d/\hX d=false/\Com.St st H'/\Fr [st] H H':=by
 have hP:O5 λ_ _=>True:=λ_ _ _ _ _=>trivial;have lt:=s.lt;have k1:nJ (λ_ _=>True) 3 10 vO:=(by
   unfold vO
   repeat' (first|exact FD|apply FE hP|exact FF|exact FG|exact FH|exact FI|exact FJ|apply zW|apply FK|apply FL)
   all_goals decide)
 have k2:nJ (λ_ _=>True) 3 6 vP:=(by
   unfold vP
   repeat' (first|exact FD|apply FE hP|exact FF|exact FG|exact FH|exact FI|exact FJ|apply zW|apply FK|apply FL)
   all_goals decide)
 have k3:nJ (λ_ _=>True) 3 8 vQ:=(by
   unfold vQ
   repeat' (first|exact FD|apply FE hP|exact FF|exact FG|exact FH|exact FI|exact FJ|apply zW|apply FK|apply FL)
   all_goals decide)
 obtain⟨i1,H1,e1,m1,f1,l1⟩:=FU (ρ:=[some (.ref st),none]) (H:=H) k1 z4h (by decide);obtain⟨j2,H2,e2,m2',f2,l2⟩:=FU (ρ:=[some (.ref st),some (.ref i1)]) (H:=H1) k2 z4i (by decide);obtain⟨H3,e3,m3,f3⟩:=PF (m1.fr0 f2) m2' (by decide);obtain⟨j4,H4,e4,m4,f4,l4⟩:=FU (ρ:=[some (.ref st),some (.ref H2.length)]) (H:=H3) k3 z4j (by decide);obtain⟨H5,e5,m5,f5⟩:=PF (m3.fr0 f4) m4 (by decide);have g:Fr [] H H5:=(((f1.trans f2 (by simp)).trans f3 (by simp)).trans f4 (by simp)).trans f5 (by simp);obtain⟨r,H6,r0,r1,t6,f6,s6⟩:=mY 24 (s.fr g (by simp));have hle:H.length<=H4.length:=((f1.trans (f2.trans (f3.trans f4 (by simp)) (by simp)) (by simp)):Fr [] H H4).le;obtain⟨ds,e7,l7,t7,b7⟩:=m5.fr f6 s6 (by omega);obtain⟨j,rfl⟩:∃j:Nat,r=j:=⟨r.toNat,by omega⟩
 have hj:j<ds.length:=by omega
 have e8:=gO e7 hj;refine⟨ds[j],H6, ?_,t7 _ (cj hj),b7 _ (cj hj),s6,(g.mono (T:=[st]) (by simp)).trans f6 (by simp)⟩;show bJ (jK [some (.ref st),none] H)=_;have w1:aL (aS vO) (aE 1) [some (.ref st),none] H=.nx [some (.ref st),some (.ref i1)] H1:=by unfold aL;rw[e1];rfl
 have w2:aL (L2.Mr.m2 bO (aA 1) (aS vP)) (aE 1) [some (.ref st),some (.ref i1)] H1=.nx [some (.ref st),some (.ref H2.length)] H3:=by unfold aL;rw[FN rfl e2 e3];rfl
 have w3:aL (L2.Mr.m2 bO (aA 1) (aS vQ)) (aE 1) [some (.ref st),some (.ref H2.length)] H3=.nx [some (.ref st),some (.ref H4.length)] H5:=by unfold aL;rw[FN rfl e4 e5];rfl
 rw[z44,bH w1,bH w2,bH w3];simp[aM,L2.Mr.m2,aA,aF,aB,mC,aC,t6,e8,bJ]
end L2.Mr.K05
namespace L2.Mr.Sam
open L2.Mr.Gen
open L2.Mr.Com hiding F_qw gN
section
variable{H:Hs}
end
end L2.Mr.Sam
namespace L2.Mr.K04
open L2.Mr.Gen
open L2.Mr.Com hiding F_qw gN
open L2.Mr.Sam
open L2.Mr.Cod (last_get addL gO)
open L2.Mr.K05 (ix dR kB vS iZ pW Bj sN nK vU idx_V)
abbrev aT (r:Ah):Dv:=.tup (r.map Fc)
def ext (n:Nat) (rs:Ag):Ag:=rs.flatMap λr=>(dR n r).map λx=>r++[x]
def fZ (n:Nat):Nat->Ag
 |0=>[[]]
 |k+1=>ext n (fZ n k)
def wt (ps:wo) (r:Ah):Ah:=(ps.filter λq=>!decide (q.1∈r)).map λq=>q.2
def cG (n:Nat) (ps:wo) (r:Ah):Ah:=(bS n).filter λx=>!decide (x∈r)&&!decide (x∈wt ps r)
def sP (n:Nat) (ps:wo) (rs:Ag):Ag:=rs.flatMap λr=>(cG n ps r).map λx=>r++[x]
def cS (n:Nat) (ps:wo):Nat->Ag
 |0=>[[]]
 |k+1=>sP n ps (cS n ps k)
def jB (ps:wo) (r:Ah):Bool:=ps.all λq=>!decide (q.2∈r)||(decide (q.1∈r)&&decide (ix r q.1<ix r q.2))
section
variable{n:Nat}{ps:wo}{r:Ah}
theorem Cb:jB ps r=true↔∀q∈ps,q.2∈r->q.1∈r/\ix r q.1<ix r q.2:=by
 unfold jB;rw[fi];refine forall_congr' λq=>forall_congr' λ_=>?_
 by_cases h:q.2∈r <;> simp[h]
theorem Dc {x:Int}:x∈wt ps r↔∃q∈ps,q.1∉r/\q.2=x:=by simp only[wt,cf,gb,jy,decide_eq_false_iff_not,and_assoc]
theorem PH (o:A' n ps) {x:Int}(hx:x∉r):jB ps (r++[x])=(jB ps r&&!decide (x∈wt ps r)):=by
 rw[cz,da,Cb,Cb,jy,decide_eq_false_iff_not,Dc];constructor
 ·intro h;refine⟨λq hq h2=>?_, ?_⟩
  ·obtain⟨a,b⟩:=h q hq (fj _ h2);rw[kB h2]at b;have l2:=iZ h2
   rcases cy.mp a with a|a
   ·rw[kB a]at b;exact⟨a,b⟩
   ·simp only[dj]at a;rw[a,vS hx]at b;omega
  ·rintro ⟨q,hq,h1,h2⟩
   obtain⟨a,_⟩:=h q hq (by rw[h2];simp)
   rcases cy.mp a with a|a
   ·exact h1 a
   ·simp only[dj]at a;exact o.irr q hq (a.trans h2.symm)
 ·rintro ⟨h,hw⟩ q hq h2
  rcases cy.mp h2 with h2|h2
  ·obtain⟨a,b⟩:=h q hq h2;exact⟨fj _ a,by rw[kB a,kB h2];exact b⟩
  ·simp only[dj]at h2;have a:q.1∈r:=Classical.byContradiction λh1=>hw ⟨q,hq,h1,h2⟩;exact⟨fj _ a,by rw[kB a,h2,vS hx];exact iZ a⟩
theorem z4k (o:A' n ps):((dR n r).map λx=>r++[x]).filter (jB ps)=if jB ps r then(cG n ps r).map λx=>r++[x]else[]:=by
 rw[List.filter_map];unfold dR cG;rw[List.filter_filter]
 cases c:jB ps r with
 |true=>
  rw[if_pos rfl]
  congr 1
  refine List.filter_congr λx _=>?_
  by_cases hx:x∈r
  ·simp[hx]
  ·simp[hx,PH o hx,c]
 |false=>
  rw[if_neg (by decide)];have:((bS n).filter λx=>(jB ps∘λx=>r++[x]) x&&!decide (x∈r))=[]:=ub.mpr λx _=>by
   by_cases hx:x∈r
   ·simp[hx]
   ·simp[hx,PH o hx,c]
  rw[this];rfl
theorem z4l (o:A' n ps) (rs:Ag):(ext n rs).filter (jB ps)=sP n ps (rs.filter (jB ps)):=by
 induction rs with
 |nil=>rfl
 |cons r rs ih=>
  have h1:ext n (r::rs)=((dR n r).map λx=>r++[x])++ext n rs:=rfl;rw[h1,List.filter_append,ih,z4k o,jb]
  cases jB ps r with
  |true=>rfl
  |false=>rfl
theorem rws_eq (o:A' n ps):∀k,cS n ps k=(fZ n k).filter (jB ps)
 |0=>by
  have:jB ps []=true:=Cb.mpr λq _ h=>by simp at h
  simp[cS,fZ,this]
 |k+1=>by show sP n ps (cS n ps k)=(ext n (fZ n k)).filter (jB ps);rw[rws_eq o k,z4l o]
theorem B' {x:Int}:x∈dR n r↔(0<=x/\x<n)/\x∉r:=by unfold dR;rw[gb,Bj];simp
theorem prm_mem:∀k,∀r∈fZ n k,r.length=k/\r.Nodup/\∀x∈r,0<=x/\x<n
 |0,r,h=>by simp[fZ]at h;subst h;simp
 |k+1,r,h=>by
  simp only[fZ,ext,kh,cf]at h;obtain⟨s,hs,x,hx,rfl⟩:=h;obtain⟨a,b,c⟩:=prm_mem k s hs;rw[B']at hx;refine⟨by simp[a], ?_,λy hy=>?_⟩
  ·rw[List.nodup_append];exact⟨b,by simp,λu hu v hv=>by simp only[dj]at hv;subst hv;intro e;exact hx.2 (e▸hu)⟩
  ·rcases cy.mp hy with hy|hy
   ·exact c y hy
   ·simp only[dj]at hy;subst hy;exact hx.1
theorem left_len (hn:n<=6):(dR n r).length<=6:=by have:=ie (λx=>!decide (x∈r)) (bS n);simp[bS]at this;unfold dR;simp[bS];omega
theorem PJ (hn:n<=6) (rs:Ag):(ext n rs).length<=rs.length*6:=by
 induction rs with
 |nil=>simp[ext]
 |cons r rs ih=>have h1:ext n (r::rs)=((dR n r).map λx=>r++[x])++ext n rs:=rfl;have:=left_len (n:=n) (r:=r) hn;rw[h1,bq,bc,cg];omega
theorem PK (hn:n<=6):∀k,(fZ n k).length<=6 ^ k
 |0=>by simp[fZ]
 |k+1=>by have h1:=PJ hn (fZ n k);have h2:=PK hn k;show(ext n (fZ n k)).length<=_;rw[Nat.pow_succ];omega
theorem FV (hn:n<=6) {k:Nat}(hk:k<=n):(fZ n k).length<=46656:=dh (PK hn k) (show 6 ^ k<=6 ^ 6 from Ac (by decide) (by omega))
theorem zX (o:A' n ps) {k:Nat}(hk:k<=n):(cS n ps k).length<=46656:=by rw[rws_eq o];exact dh (ie _ _) (FV o.n6 hk)
theorem rws_mem (o:A' n ps) {k:Nat}(h:r∈cS n ps k):r.length=k:=by rw[rws_eq o]at h;exact(prm_mem k r (gb.mp h).1).1
def lT (ps:wo) (r:Ah):Bool:=decide ((ps.filter λq=>decide (ix r q.1>ix r q.2))=[])
theorem z4m (o:A' n ps) (h:r∈fZ n n):lT ps r=jB ps r:=by obtain⟨a,b,c⟩:=prm_mem n r h;have hm:∀x:Int,0<=x->x<n->x∈r:=λx h0 h1=>nK c b a h0 h1;rw[cz,Cb];unfold lT;rw[decide_eq_true_eq,ub];refine forall_congr' λq=>forall_congr' λhq=>?_;have rg:=o.rng q hq;have m1:=hm q.1 rg.1 rg.2.1;have m2:=hm q.2 rg.2.2.1 rg.2.2.2;have ne:ix r q.1≠ix r q.2:=λe=>o.irr q hq (pW m1 m2 e);simp only[m1,m2,true_and,forall_const,decide_eq_true_eq];omega
theorem z4n (o:A' n ps):(fZ n n).filter (lT ps)=cS n ps n:=by rw[rws_eq o];exact List.filter_congr λr hr=>z4m o hr
end
abbrev zY:M Al :=bT (bK fI (aA 3)) [none,none,some 1] (cH 2 (aY (aE 0) (aY (aE 1) cK))) (mB (m2 (bP true) (aA 0) (aA 2))) (bM (aA 1))
abbrev FW:M Al :=bT (aR cQ (aB (aA 2) aC)) [none,some 1,some 4] (aE 0) (eC (mB (m2 (bP true) (aA 0) (aA 1))) (mB (m2 (bP true) (aA 0) (aA 2)))) (bM (aA 0))
theorem z4o:qR=aH (aL (aA 0) (cH 2 (aY (aE 2) (aY (aE 3) cK)))) (aH (aL (bU zY) (aE 4)) (aM (bU FW))):=rfl
section
variable{n st:Nat}{ps:wo}{H:Hs}{ρ:Ev}{r:Ah}
theorem z4p (o:A' n ps) {x0 x2 x4:Am}:zY [x0,some (aT r),x2,some (.tup (ps.map aI)),x4] H=.ok ((wt ps r).map Fc) H:=by
 have w:zY [x0,some (aT r),x2,some (.tup (ps.map aI)),x4] H=.ok (ps.filterMap λq=>if !decide (q.1∈r)then some ((λq:Int×Int=>Fc q.2) q)else none) H:=
  iG ps _ (λρ=>∃a b,ρ=[a,b,some (aT r)]) (src:=dX (ps.map aI)) rfl (by simp[dX]) ⟨_,_,rfl⟩ rfl (λk hk ρ ⟨a,b,e⟩=>by
   subst e;refine⟨aI ps[k],[some (.int ps[k].1),some (.int ps[k].2),some (aT r)],by simp[dX,hk],rfl,⟨_,_,rfl⟩, ?_⟩;have t2:bP true (.int ps[k].1) (aT r) H=.ok (.bl (!decide (ps[k].1∈r))) H:=pQ true H ps[k].1 r;generalize aT r=ys at t2 ⊢
   cases c2:!decide (ps[k].1∈r)with
   |true=>rw[c2]at t2;simp[mB,m2,aA,t2,dZ]
   |false=>rw[c2]at t2;simp[mB,m2,aA,t2,dZ]) (by have:=o.len;omega)
 have:=w.trans (congrArg (λl=>Ft l _) (sM _ _ _));unfold wt;rw[jo];exact this
theorem z4q (hn:n<=6) {x0 x3:Am}{i:Nat}{ws:Ah}(g:getL H i=some (ws.map Fc)):FW [x0,some (aT r),some (.int n),x3,some (.ref i)] H=.ok (((bS n).filter λx=>!decide (x∈r)&&!decide (x∈ws)).map Fc) H:=by
 have w:FW [x0,some (aT r),some (.int n),x3,some (.ref i)] H=.ok ((bS n).filterMap λx=>if(!decide (x∈r)&&!decide (x∈ws))then some (Fc x)else none) H:=
  iG (bS n) _ (λρ=>∃a,ρ=[a,some (aT r),some (.ref i)]) (src:=cT 0 n) (vR (m:=aA 2) rfl (by omega) (by omega)) (by simp[cT,bS]) ⟨_,rfl⟩ rfl (λk hk ρ ⟨a,e1⟩=>by
   subst e1;have gk:(bS n)[k]=(k:Int):=by simp[bS]
   refine⟨.int (0+k),[some (.int (0+k)),some (aT r),some (.ref i)],rfl,rfl,⟨_,rfl⟩, ?_⟩;have h00:(0+(k:Int))=(k:Int):=by omega
   rw[gk,h00];have t1:bP true (.int k) (aT r) H=.ok (.bl (!decide ((k:Int)∈r))) H:=pQ true H (k:Int) r;have t2:bP true (.int k) (.ref i) H=.ok (.bl (!decide ((k:Int)∈ws))) H:=z4a true (k:Int) g;generalize aT r=ys at t1 ⊢
   cases c1:!decide ((k:Int)∈r)with
   |false=>rw[c1]at t1;simp[eC,mB,m2,aA,t1,dZ]
   |true=>
    rw[c1]at t1
    cases c2:!decide ((k:Int)∈ws)with
    |true=>rw[c2]at t2;simp[eC,mB,m2,aA,t1,t2,dZ]
    |false=>rw[c2]at t2;simp[eC,mB,m2,aA,t1,t2,dZ]) (by simp[bS];omega)
 exact w.trans (congrArg (λl=>Ft l _) (sM _ _ _))
theorem nL {C:M Al }{xs:Al}{H1:Hs}(e:C ρ H=.ok xs H1):bU C ρ H=.ok (.ref H1.length) (H1++[.lst xs]):=by unfold bU;rw[e];rfl
theorem nM {C:M Al }{xs:Al}{H1:Hs}(e:C ρ H=.ok xs H1):bJ (aM (bU C) ρ H)=.ok (.ref H1.length) (H1++[.lst xs]):=by unfold aM;rw[nL e];rfl
theorem may_ok (o:A' n ps):∃i H',F_q8 [aQ n ps,aT r] H=.ok (.ref i) H'/\getL H' i=some ((cG n ps r).map Fc)/\Fr [] H H':=by
 have e1:=z4p (H:=H) (r:=r) (x0:=some (aQ n ps)) (x2:=some (.int n)) (x4:=none) o;obtain⟨H1,hH1⟩:∃H1,H1=H++[Fd ((wt ps r).map Fc)]:=⟨_,rfl⟩
 have g1:getL H1 H.length=some ((wt ps r).map Fc):=by rw[hH1];exact last_get
 have f1:Fr [] H H1:=by rw[hH1];exact Fe
 have e2:=z4q (n:=n) (r:=r) (x0:=some (aQ n ps)) (x3:=some (.tup (ps.map aI))) o.n6 g1;rw[show((bS n).filter λx=>!decide (x∈r)&&!decide (x∈wt ps r))=cG n ps r from rfl]at e2;refine⟨H1.length,H1++[Fd ((cG n ps r).map Fc)], ?_,last_get,f1.trans (T:=[]) Fe (by simp)⟩;have w1:aL (aA 0) (cH 2 (aY (aE 2) (aY (aE 3) cK))) [some (aQ n ps),some (aT r),none,none,none] H=.nx [some (aQ n ps),some (aT r),some (.int n),some (.tup (ps.map aI)),none] H:=rfl;have w2:aL (bU zY) (aE 4) [some (aQ n ps),some (aT r),some (.int n),some (.tup (ps.map aI)),none] H=.nx [some (aQ n ps),some (aT r),some (.int n),some (.tup (ps.map aI)),some (.ref H.length)] H1:=by rw[hH1];exact PB e1 rfl
 show bJ (qR [some (aQ n ps),some (aT r),none,none,none] H)=_;rw[z4o,bH w1,bH w2];exact nM e2
theorem add_one {i j:Nat}{x:Int}(hr:r.length<=100) (h0:aA i ρ=λH=>.ok (aT r) H) (h1:aA j ρ=λH=>.ok (.int x) H):m2 bO (aA i) (aK (aB (aA j) aC)) ρ H=.ok (aT (r++[x])) H:=by
 have e2:aK (aB (aA j) aC) ρ H=.ok (.tup [.int x]) H:=by simp[aK,aB,h1,aC,lim]
 have a:=z49 (r.map Fc) [.int x] (by simp;omega) (H:=H);have e3:=eR (ma:=aA i) (H1:=H) (x:=aT r) (by rw[h0]) e2 a;have hc:r.map Fc++[.int x]=(r++[x]).map Fc:=by simp
 rw[hc]at e3;exact e3
theorem src_2 {F:Ak}{a b:Dv}{x y i:Nat}{H1:Hs}{xs:Al}(ha:aA x ρ=λH=>.ok a H) (hb:aA y ρ=λH=>.ok b H) (e:F [a,b] H=.ok (.ref i) H1) (g:getL H1 i=some xs):bK cB (aF F (aB (aA x) (aB (aA y) aC))) ρ H=.ok (cA i xs.length) H1:=by simp[bK,aF,aB,ha,hb,aC,e,cB,g]
end
open L2.Mr.Cod (last_get gO)
abbrev FX:M Al :=bT (aR cQ (aB (m2 aN (aA 0) (mC (.int 0))) aC)) [none,some 4] (aE 0) (mB (m2 (bP true) (aA 0) (aA 1))) (bM (m2 bO (aA 1) (aK (aB (aA 0) aC))))
abbrev FY:MS:=aL (m2 bO (aA 3) (bU FX)) (aE 3)
abbrev FZ:MS:=aH (aL (aS aC) (aE 3)) (aH (cU (bK cB (aA 1)) (aE 4) FY) (aL (aA 3) (aE 1)))
abbrev F0:M Al :=bT (bK fI (m2 aN (aA 1) (mC (.int 1)))) [none,none,some 0] (cH 2 (aY (aE 0) (aY (aE 1) cK))) (mB (m2 kM (eY (aA 2) (aA 0)) (eY (aA 2) (aA 1)))) (bM (mC (.int 1)))
abbrev PL:M Al :=bT (bK cB (aA 1)) [none,some 0] (aE 0) (mB (m2 bD (bU F0) (aS aC))) (bM (aA 0))
theorem z4r:vA=aH (aL (aS (aB (aK aC) aC)) (aE 1)) (aH (cU (aR cQ (aB (m2 aN (aA 0) (mC (.int 0))) aC)) (aE 2) FZ) (aM (bU PL))):=rfl
section
variable{n st:Nat}{ps:wo}{H:Hs}{ρ:Ev}{r:Ah}
theorem z4s (hn:n<=6) (hr:r.length<=100) {x1 x2 x3:Am}:FX [some (aQ n ps),x1,x2,x3,some (aT r)] H=.ok (((dR n r).map λx=>r++[x]).map aT) H:=by
 have w:FX [some (aQ n ps),x1,x2,x3,some (aT r)] H=.ok ((bS n).filterMap λx=>if !decide (x∈r)then some ((λx=>aT (r++[x])) x)else none) H:=
  iG (bS n) _ (λρ=>∃a,ρ=[a,some (aT r)]) (src:=cT 0 n) (vR (L:=n) rfl (by omega) (by omega)) (by simp[cT,bS]) ⟨_,rfl⟩ rfl (λk hk ρ ⟨a,e1⟩=>by
   subst e1;have gk:(bS n)[k]=(k:Int):=by simp[bS]
   refine⟨.int (0+k),[some (.int (0+k)),some (aT r)],rfl,rfl,⟨_,rfl⟩, ?_⟩;have h00:(0+(k:Int))=(k:Int):=by omega
   rw[gk,h00];have t1:bP true (.int k) (aT r) H=.ok (.bl (!decide ((k:Int)∈r))) H:=pQ true H (k:Int) r;have a1:=add_one (i:=1) (j:=0) (H:=H) (ρ:=[some (.int k),some (aT r)]) (x:=(k:Int)) hr rfl rfl;have tt:mB (m2 (bP true) (aA 0) (aA 1)) [some (.int k),some (aT r)] H=.ok (!decide ((k:Int)∈r)) H:=by unfold mB;rw[eR (ma:=aA 0) (mb:=aA 1) rfl rfl t1];rfl
   cases c1:!decide ((k:Int)∈r)with
   |false=>rw[c1]at tt;exact tt
   |true=>rw[c1]at tt;exact⟨tt,a1⟩) (by simp[bS];omega)
 have:=w.trans (congrArg (λl=>Ft l _) (sM _ _ _));rw[jo];exact this
theorem z4t {i j:Nat}{xs ys:Al}(e1:getL H i=some xs) (e2:getL H j=some ys) (hl:xs.length+ys.length<=900000):bO (.ref i) (.ref j) H=.ok (.ref H.length) (H++[.lst (xs++ys)]):=by simp[bO,lC,e1,e2,lim];omega
theorem z4u (rs:Ag):ext n (rs++[r])=ext n rs++(dR n r).map λx=>r++[x]:=by simp[ext]
theorem z4v (hn:n<=6) {i j:Nat}{rs:Ag}{x2 x4:Am}(g:getL H i=some (rs.map aT)) (gj:getL H j=some []) (hr:∀r∈rs,r.length<=100) (hl:rs.length<=46656):
  ∃j' y4 H',cU (bK cB (aA 1)) (aE 4) FY [some (aQ n ps),some (.ref i),x2,some (.ref j),x4] H=.nx [some (aQ n ps),some (.ref i),x2,some (.ref j'),y4] H'/\getL H' j'=some ((ext n rs).map aT)/\Fr [] H H':=by
 have hi:bK cB (aA 1) [some (aQ n ps),some (.ref i),x2,some (.ref j),x4] H=.ok (cA i rs.length) H:=by simp[bK,aA,cB,g]
 obtain⟨ρ',H',h1,j',y4,h2,h3,h4⟩:=pP (b:=FY) (sg:=aE 4) hi (λk ρ H'=>∃(j':Nat) (y4:Am),ρ=[some (aQ n ps),some (.ref i),x2,some (.ref j'),y4]/\getL H' j'=some ((ext n (rs.take k)).map aT)/\Fr [] H H')
  (λk ρ H' hk ⟨j',y4,e1,e2,e3⟩=>by
   subst e1;have Dy:k<rs.length:=hk;refine⟨aT rs[k],[some (aQ n ps),some (.ref i),x2,some (.ref j'),some (aT rs[k])],[some (aQ n ps),some (.ref i),x2,some (.ref (H'.length+1)),some (aT rs[k])],(H'++[Fd (((dR n rs[k]).map λx=>rs[k]++[x]).map aT)])++[Fd ((ext n (rs.take k)).map aT++((dR n rs[k]).map λx=>rs[k]++[x]).map aT)],EZ (e3.getL g (by simp)) Dy,rfl, ?_,H'.length+1,_,rfl, ?_,e3.trans (T:=[]) (Ga (T:=[]) Fe Fe (by simp)) (by simp)⟩
   ·have ea:=nL (z4s (ps:=ps) (H:=H') (r:=rs[k]) (x1:=some (.ref i)) (x2:=x2) (x3:=some (.ref j')) hn (hr _ (cj Dy)));have l1:=PJ hn (rs.take k);have l2:(rs.take k).length<=46656:=by rw[iz];omega
    have l3:=left_len (n:=n) (r:=rs[k]) hn;have ed:=z4t (iX (l:=[Fd (((dR n rs[k]).map λx=>rs[k]++[x]).map aT)]) e2) last_get (by simp only[bc];omega);have em:=eR (ma:=aA 3) (H1:=H') (x:=.ref j') rfl ea ed;rw[bq,uf]at em;exact qX em rfl
   ·have:H'.length+1=(H'++[Fd (((dR n rs[k]).map λx=>rs[k]++[x]).map aT)]).length:=by simp
    rw[this,last_get,og Dy,z4u,lg])
  (λρ H' ⟨_,_,_,_,e3⟩=>E1 (e3.getL g (by simp))) ⟨j,x4,rfl,by simpa[ext]using gj,Fh⟩
 rw[show(cA i rs.length).n=rs.length from rfl,List.take_length]at h3;exact⟨j',y4,H',by rw[h1,h2],h3,h4⟩
theorem z4w (o:A' n ps) (hm:∀x:Int,0<=x->x<n->x∈r):F0 [some (aT r),some (aQ n ps)] H=.ok ((((ps.filter λq=>decide (ix r q.1>ix r q.2)).map λ_=>(1:Int))).map Fc) H:=by rw[jo];exact K05.gtC_ok o hm rfl rfl
theorem z4x (o:A' n ps) {i:Nat}{x2 x3 x4:Am}(g:getL H i=some ((fZ n n).map aT)):∃H',PL [some (aQ n ps),some (.ref i),x2,x3,x4] H=.ok ((cS n ps n).map aT) H'/\Fr [] H H':=by
 have fl:∀l:Ag,(l.flatMap λy=>if lT ps y then[aT y]else[])=(l.filter (lT ps)).map aT:=λl=>by
  induction l with
  |nil=>rfl
  |cons y l ih=>
   rw[iq,jb,ih]
   cases c:lT ps y <;> simp
 have pm:=prm_mem (n:=n) n;have pl:=FV o.n6 (aj n);rw[<-z4n o];generalize fZ n n=ys at g pm pl ⊢;obtain⟨ρ',H',h,_,f⟩:=vG (mi:=bK cB (aA 1)) (cap:=[none,some 0]) (src:=cA i (ys.map aT).length) (sg:=aE 0) (t:=mB (m2 bD (bU F0) (aS aC))) (m:=bM (aA 0)) (ρ:=[some (aQ n ps),some (.ref i),x2,x3,x4]) (H:=H) (H1:=H) ys (λy=>if lT ps y then[aT y]else[]) (λρ Hx=>(∃a,ρ=[a,some (aQ n ps)])/\Fr [] H Hx) (by simp[bK,aA,cB,g]) (by simp[cA]) ⟨⟨_,rfl⟩,Fh⟩ (λρ Hx s=>by have gx:=s.2.getL g (by simp);simp[cA,gx])
  (λk hk ρ Hx ⟨⟨a,e⟩,f⟩=>by
   subst e;have gx:=f.getL g (by simp);refine⟨aT ys[k],[some (aT ys[k]),some (aQ n ps)],by simp[cA,gx,hk],rfl, ?_⟩;obtain⟨p1,p2,p3⟩:=pm ys[k] (cj hk);obtain⟨Hy,t,fy⟩:=vU (z4w (H:=Hx) (r:=ys[k]) o λx h0 h1=>nK p3 p2 p1 h0 h1);have hd:decide (((ps.filter λq=>decide (ix ys[k] q.1>ix ys[k] q.2)).map λ_=>(1:Int))=[])=lT ps ys[k]:=by unfold lT;rw[cz];simp
   rw[hd]at t
   cases c:lT ps ys[k]with
   |false=>rw[c]at t;exact .inl ⟨Hy,t,by simp,⟨_,rfl⟩,f.trans fy (by simp)⟩
   |true=>rw[c]at t;refine .inr ⟨Hy,t,λacc hl=>⟨[some (aT ys[k]),some (aQ n ps)],Hy, ?_,⟨_,rfl⟩,f.trans fy (by simp)⟩⟩;simp only[if_true]at hl ⊢;exact vH rfl hl) (by
   rw[fl,bc];have:=ie (lT ps) ys;omega)
 refine⟨H', ?_,f⟩;rw[<-fl];exact h
theorem lrows_ok (o:A' n ps):∃i H',F_qv [aQ n ps] H=.ok (.ref i) H'/\getL H' i=some ((cS n ps n).map aT)/\Fr [] H H':=by
 have n6:=o.n6;obtain⟨H1,hH1⟩:∃H1,H1=H++[Fd [aT []]]:=⟨_,rfl⟩
 have f1:Fr [] H H1:=by rw[hH1];exact Fe
 have w1:aL (aS (aB (aK aC) aC)) (aE 1) [some (aQ n ps),none,none,none,none] H=.nx [some (aQ n ps),some (.ref H.length),none,none,none] H1:=by rw[hH1];rfl
 have hi:aR cQ (aB (m2 aN (aA 0) (mC (.int 0))) aC) [some (aQ n ps),some (.ref H.length),none,none,none] H1=.ok (cT 0 n) H1:=vR (L:=n) rfl (by omega) (by omega);have hN:(cT 0 (n:Int)).n=n:=by simp[cT]
 have g1:getL H1 H.length=some ((fZ n 0).map aT):=by rw[hH1];exact last_get
 obtain⟨ρ',H',h1,i,y2,y3,y4,h2,h3,h4⟩:=pP (b:=FZ) (sg:=aE 2) hi
  (λk ρ H'=>∃(i:Nat) (y2 y3 y4:Am),ρ=[some (aQ n ps),some (.ref i),y2,y3,y4]/\getL H' i=some ((fZ n k).map aT)/\Fr [] H1 H')
  (λk ρ H' hk ⟨i,y2,y3,y4,e1,e2,e3⟩=>by subst e1;rw[hN]at hk;obtain⟨j',z4,H2,b1,b2,b3⟩:=z4v (ps:=ps) (x2:=some (.int (0+(k:Int)))) (x4:=y4) n6 (iX (l:=[Fd []]) e2) (last_get (H:=H')) (λr hr=>by rw[(prm_mem k r hr).1];omega) (FV n6 (by omega));have v0:aL (aS aC) (aE 3) [some (aQ n ps),some (.ref i),some (.int (0+(k:Int))),y3,y4] H'=.nx [some (aQ n ps),some (.ref i),some (.int (0+(k:Int))),some (.ref H'.length),y4] (H'++[Fd []]):=rfl;refine⟨.int (0+(k:Int)),[some (aQ n ps),some (.ref i),some (.int (0+(k:Int))),y3,y4],[some (aQ n ps),some (.ref j'),some (.int (0+(k:Int))),some (.ref j'),z4],H2,rfl,rfl, ?_,j',_,_,_,rfl,b2,(e3.trans (T:=[]) Fe (by simp)).trans b3 (by simp)⟩;unfold FZ;rw[bH v0,bH b1];rfl) (λ_ _ _=>rfl) ⟨H.length,none,none,none,rfl,g1,Fh⟩
 rw[hN]at h3;obtain⟨H2,e5,f5⟩:=z4x (x2:=y2) (x3:=y3) (x4:=y4) o h3;refine⟨H2.length,H2++[Fd ((cS n ps n).map aT)], ?_,last_get,((f1.trans h4 (by simp)).trans f5 (by simp)).trans (T:=[]) Fe (by simp)⟩;show bJ (vA [some (aQ n ps),none,none,none,none] H)=_;rw[z4r,bH w1,bH h1,h2];exact nM e5
end
section
variable{c:Nat}(hc:c=0) {H:Hs}{x0 x2 x3:Am}
include hc
end
section
variable{H H':Hs}{ρ:Ev}{p t k c s:Nat}{ks js:Ai}{lc:Nat->Option (Ai×M Dv)}
end
end L2.Mr.K04
namespace L2.Mr.Gen
abbrev At (ρ:Ev) (i:Nat) (d:Dv):Prop:=ρ[i]?=some (some d)
section
variable{ρ:Ev}{i j:Nat}{d:Dv}{H H':Hs}
theorem At.v (h:At ρ i d):aA i ρ=λH=>.ok d H:=by funext H;unfold aA;rw[h]
theorem At.new (h:i<ρ.length):At (ρ.set i (some d)) i d:=by simp[At,h]
theorem At.o (h:At ρ j d) {x:Am}(hn:i≠j:=by decide):At (ρ.set i x) j d:=(du hn).trans h
theorem sQ {m:M Dv}{v:Dv}(e:m ρ H=.ok v H'):aL m (aE i) ρ H=.nx (ρ.set i (some v)) H':=qX e rfl
end
end L2.Mr.Gen
namespace L2.Mr.K06
open L2.Mr.Gen
open L2.Mr.Com hiding F_qw gN
open L2.Mr.Sam
open L2.Mr.Cod (last_get gO loose Ba)
open L2.Mr.K04 (aT cS fZ rws_eq rws_mem zX prm_mem cG wt sP Dc B' nL nM)
open L2.Mr.K05 (ix iZ dR Bj sN nK gE eZ vT FT FR)
section
variable{n:Nat}{ps:wo}{r:Ah}
theorem may_ne (o:A' n ps) {k:Nat}(hr:r∈cS n ps k) (hk:k<n):cG n ps r≠[]:=by
 have hl:=rws_mem o hr;have ex:∃x,x∈dR n r:=by
  by_cases c:∃x,x∈dR n r
  ·exact c
  ·exfalso
   have sub:∀x∈bS n,x∈r:=λx hx=>by
    by_cases d:x∈r
    ·exact d
    ·exact absurd ⟨x,gb.mpr ⟨hx,by simpa using d⟩⟩ c
   have:=(sN (n:=n)).length_le_of_subset sub;simp[bS]at this;omega
 obtain⟨x0,hx0⟩:=ex;obtain⟨z,hz,hmin⟩:=FT o (left:=dR n r) _ x0 hx0 (aj _);have hz':=B'.mp hz;refine qk (a:=z) (gb.mpr ⟨Bj.mpr hz'.1, ?_⟩);have hw:z∉wt ps r:=λh=>by obtain⟨q,hq,h1,h2⟩:=Dc.mp h;have rg:=o.rng q hq;exact hmin q.1 (B'.mpr ⟨⟨rg.1,rg.2.1⟩,h1⟩) (by rw[<-h2];exact hq)
 simp[hz'.2,hw]
theorem PM (o:A' n ps):∀k,k<=n->cS n ps k≠[]
 |0,_=>by simp[cS]
 |k+1,h=>by obtain⟨r,hr⟩:=yh _ (PM o k (by omega));obtain⟨x,hx⟩:=yh _ (may_ne o hr (by omega));exact qk (kh.mpr ⟨r,hr,cf.mpr ⟨x,hx,rfl⟩⟩)
theorem F1 (o:A' n ps) (hr:r∈cS n ps n):∀x:Int,0<=x->x<n->x∈r:=λx h0 h1=>by rw[rws_eq o]at hr;obtain⟨a,b,c⟩:=prm_mem n r (gb.mp hr).1;exact nK c b a h0 h1
def lU (n:Nat) (ps:wo):Ah:=(cS n ps n).map (gE n ps)
theorem sR (o:A' n ps):lU n ps≠[]:=by have:=PM o n (aj n);simpa[lU]using this
end
end L2.Mr.K06
namespace L2.Mr.Sp
open L2.Mr.Com
open L2.Mr.Cod (loose Ba Lse)
open L2.Mr.K04 (cS fZ ext rws_eq prm_mem Cb B')
open L2.Mr.K05 (ix iZ pW kB dR Bj sN nK gE eZ vT)
open L2.Mr.K06 (lU sR F1)
section
variable{n m:Nat}{ps qs:wo}{r l:Ah}
theorem F2 {x a:Int}(h:a∈x::l):ix (x::l) a=if x=a then 0 else ix l a+1:=by
 show(if x=a then some 0 else(fK a l).map (·+1)).getD 0=_
 split
 ·rfl
 ·rename_i c;rw[K05.pos_mem ((ba.mp h).resolve_left λz=>c z.symm)];rfl
theorem PN:∀(k:Nat) (r:Ah),r.length=k->(∀x∈r,0<=x/\x<n)->r.Nodup->r∈fZ n k
 |0,r,h,_,_=>by rw[sv.mp h];simp[fZ]
 |k+1,r,h,hr,nd=>by
  have hne:r≠[]:=by rintro rfl;simp at h
  have e:=pq hne;have nd':=nd;rw[<-e]at nd';have nd2:=List.nodup_append.mp nd';have hl:r.dropLast.length=k:=by simp[h]
  have:=PN k r.dropLast hl (λx hx=>hr x (by rw[<-e];exact fj _ hx)) nd2.1;rw[<-e];refine kh.mpr ⟨r.dropLast,this,cf.mpr ⟨r.getLast hne,B'.mpr ⟨hr _ (List.getLast_mem hne),λz=>?_⟩,rfl⟩⟩;exact nd2.2.2 _ z _ (by simp) rfl
structure Eh (n:Nat) (ps:wo) (r:Ah):Prop where
 rng:∀x∈r,0<=x/\x<n
 nd:r.Nodup
 len:r.length=n
 up:∀q∈ps,ix r q.1<ix r q.2
theorem Eh.mem (h:Eh n ps r) {x:Int}(h0:0<=x) (h1:x<n):x∈r:=nK h.rng h.nd h.len h0 h1
theorem zZ (o:A' n ps):r∈cS n ps n↔Eh n ps r:=by
 rw[rws_eq o,gb];constructor
 ·rintro ⟨h,k⟩
  obtain⟨a,b,c⟩:=prm_mem n r h;refine⟨c,b,a,λq hq=>?_⟩;have g:=o.rng q hq;exact(Cb.mp k q hq (nK c b a g.2.2.1 g.2.2.2)).2
 ·intro h;refine⟨PN n r h.len h.rng h.nd,Cb.mpr λq hq _=>?_⟩;have g:=o.rng q hq;exact⟨h.mem g.1 g.2.1,h.up q hq⟩
abbrev kC (n:Nat) (ps:wo):Int:=oE (lU n ps)
theorem z4y (o:A' n ps) (h:Eh n ps r):kC n ps<=gE n ps r:=(L2.Mr.minI_is (sR o)).2 _ (cf.mpr ⟨r,(zZ o).mpr h,rfl⟩)
theorem F3 (o:A' n ps):∃r,Eh n ps r/\gE n ps r=kC n ps:=by obtain⟨r,hr,e⟩:=cf.mp (L2.Mr.minI_is (sR o)).1;exact⟨r,(zZ o).mp hr,e⟩
theorem z4z:0<=gE n ps r:=by
 unfold gE
 split
 ·omega
 ·rename_i h;obtain⟨q,hq,e⟩:=cf.mp (L2.Mr.maxI_is h).1;rw[<-e];exact vT q
theorem PQ {S:Int}(h0:0<=S) (h:∀q∈loose n ps,eZ r q<=S):gE n ps r<=S:=by
 unfold gE
 split
 ·exact h0
 ·rename_i c;obtain⟨q,hq,e⟩:=cf.mp (L2.Mr.maxI_is c).1;rw[<-e];exact h q hq
theorem PR {q:Int×Int}(hq:q∈loose n ps):eZ r q<=gE n ps r:=by have hm:eZ r q∈(loose n ps).map (eZ r):=cf.mpr ⟨q,hq,rfl⟩;unfold gE;rw[if_neg (qk hm)];exact(L2.Mr.maxI_is (qk hm)).2 _ hm
theorem z50 (o:A' n ps):0<=kC n ps:=by obtain⟨r,_,e⟩:=F3 o;rw[<-e];exact z4z
theorem z51 {a:Int}{xs ys:Ah}(h:a∉xs):ix (xs++a::ys) a=xs.length:=by
 induction xs with
 |nil=>rw[xa,F2 (ay ..),if_pos rfl];rfl
 |cons x xs ih=>have hx:x≠a:=λz=>h (by rw[z];exact ay ..);rw[we,F2 (by simp),if_neg hx,ih λz=>h (ao _ z)];rfl
end
end L2.Mr.Sp
namespace L2.Mr.K03
open L2.Mr.Com hiding F_qw gN
open L2.Mr.Sam
open L2.Mr.Gen
open L2.Mr.Cod (loose gH gQ Ba Lse last_get addL gO)
section
variable{n:Nat}{ps:wo}{H:Hs}{d y:Dv}{x:Int}{ρ:Ev}
end
section
variable{n:Nat}{ps:wo}{H:Hs}{ns:Ah}
end
section
variable{n:Nat}{ps qs:wo}{H:Hs}{ρ:Ev}
end
end L2.Mr.K03
namespace L2.Mr.K81
open L2.Mr.Com
section
variable{H:Hs}
theorem same_int {n:Nat}{x:Int}:F_qw (n+1) [.int x,.int x] H=.ok (.bl true) H:=by simp[F_qw,gN,aV,bX,aH,aW,bN,m1,bG,aA,gW,qL,fT,bE,aM,cP,m2,bD,bY,bQ,bI,kP,bJ]
theorem same_tup {n:Nat}{xs:Al}(hl:xs.length<=1000) (h:∀x∈xs,F_qw n [x,x] H=.ok (.bl true) H):F_qw (n+1) [.tup xs,.tup xs] H=.ok (.bl true) H:=by
 have hc:bT (aR pK (aB (aA 0) (aB (aA 1) aC))) [none,none] (cH 2 (aY (aE 0) (aY (aE 1) cK))) eK (bM (aF (F_qw n) (aB (aA 0) (aB (aA 1) aC)))) [some (.tup xs),some (.tup xs)] H=.ok (xs.filterMap λx=>some (.bl ((λ_=>true) x))) H:=iG xs (λx=>some (.bl ((λ_=>true) x))) (λρ=>∃a b,ρ=[a,b]) rfl (by simp[pJ,dX]) ⟨_,_,rfl⟩ rfl (λk hk ρ ⟨a,b,e⟩=>by subst e;refine⟨.tup [xs[k],xs[k]],[some xs[k],some xs[k]],by simp[pJ,dX,hk],rfl,⟨_,_,rfl⟩,rfl, ?_⟩;simp[aF,aB,aA,aC,h xs[k] (cj hk)]) (by omega);have hz:=sD hc;have ht:xs.all (λ_=>true)=true:=by simp
 rw[ht]at hz;have e1:bG qL (.tup xs) H=.ok (.bl true) H:=rfl;have e2:bG gL (.tup xs) H=.ok (.bl true) H:=rfl;have e3:bG uJ (.tup xs) H=.ok (.bl false) H:=rfl;have e4:f1 cF [.tup xs] H=.ok (.int xs.length) H:=rfl;have n1:cJ (.bl true) (.bl true) H=.ok (.bl false) H:=rfl;have n2:cJ (.bl false) (.bl false) H=.ok (.bl false) H:=rfl;have n3:∀i:Int,cJ (.int i) (.int i) H=.ok (.bl false) H:=λi=>by simp[cJ,bY,bQ,bI]
 simp[F_qw,gN,aV,bX,aH,aW,bN,m1,aA,e1,e2,e3,fT,cO,mB,m2,n1,n2,dZ,bE,aF,aB,aC,e4,n3,aM,hz,bJ]
end
section
variable{c:Nat}(hc:c=0∨c=4∨c=7) {H:Hs}{x0 x2 x3:Am}
include hc
end
section
variable{n:Nat}{ps:wo}{H:Hs}{d y:Dv}{x:Int}
end
end L2.Mr.K81
namespace L2.Mr.Sp
open L2.Mr.Com
open L2.Mr.Cod (loose Ba Lse)
open L2.Mr.K05 (ix iZ pW kB gE eZ vT)
open L2.Mr.K06 (lU sR)
section
variable{n m:Nat}{ps qs:wo}{r:Ah}{a b x:Int}
theorem z52 {ns ms:Ah}{k:Int}(h1:k∉ns) (h2:k∈ms):ix (ns++ms) k=ns.length+ix ms k:=by
 induction ns with
 |nil=>simp
 |cons x xs ih=>have hx:x≠k:=λz=>h1 (by rw[z];exact ay ..);rw[we,F2 (ao _ (bx _ h2)),if_neg hx,ih λz=>h1 (ao _ z)];simp only[cg];omega
def mx (a b:Int):Int:=if b>a then b else a
end
end L2.Mr.Sp
namespace L2.Mr.Pp
open L2.Mr.Com
open L2.Mr.Cod (loose Ba Lse)
open L2.Mr.K04 (cS cG rws_mem aT)
open L2.Mr.K05 (ix iZ pW kB Bj gE eZ)
open L2.Mr.K06 (may_ne)
open L2.Mr.Sp
def gI (n:Nat) (ps:wo) (k:Nat) (r:Ah):Option (Int×Int):=if r.length<=k then none else((bS n).find? λb=>!decide (b∈r)&&decide (Lse ps (r.getD (r.length - 1 - k) 0) b)).map λb=>(r.getD (r.length - 1 - k) 0,b)
def cY (n:Nat) (ps:wo) (k:Nat):Nat->Ah->Am
 |0,_=>none
 |f+1,r=>match gI n ps k r with
  |some q=>some (.tup [.str "far",.int q.1,.int q.2])
  |none=>if r.length=n then none else match bF (λx=>cY n ps k f (r++[x])) (cG n ps r)with
   |some ds=>some (.tup [.str "next",.tup ds])
   |none=>none
section
variable{n k:Nat}{ps:wo}{r R:Ah}
theorem PU {α β:Type}{f:α->Option β}:∀{l:List α},bF f l=none↔∃x∈l,f x=none
 | []=>by simp[bF]
 |a::l=>by
  rw[bF]
  cases e:f a with
  |none=>simp[e]
  |some b=>
   have ih:=PU (f:=f) (l:=l)
   cases e2:bF f l with
   |none=>rw[e2]at ih;obtain⟨x,h1,h2⟩:=ih.mp rfl;simp only[true_iff];exact⟨x,ao _ h1,h2⟩
   |some c=>
    rw[e2]at ih;simp only[reduceCtorEq,false_iff]
    rintro ⟨x,h1,h2⟩
    rcases ba.mp h1 with rfl|h1
    ·rw[e]at h2;cases h2
    ·exact absurd (ih.mpr ⟨x,h1,h2⟩) (by simp)
theorem F5 {α β:Type}{f:α->Option β}:∀{l:List α}{ys:List β},bF f l=some ys->ys.length=l.length/\∀(i:Nat) (h:i<l.length) (h':i<ys.length),f l[i]=some ys[i]
 | [],ys,e=>by cases e;exact⟨rfl,λi h=>nomatch h⟩
 |a::l,ys,e=>by
  rw[bF]at e
  cases e1:f a with
  |none=>rw[e1]at e;cases e
  |some b=>
   rw[e1]at e
   cases e2:bF f l with
   |none=>rw[e2]at e;cases e
   |some c=>
    rw[e2]at e;cases e;obtain⟨h1,h2⟩:=F5 e2;refine⟨by simp[h1],λi h h'=>?_⟩
    cases i with
    |zero=>exact e1
    |succ i=>exact h2 i (by simpa using h) (by simpa using h')
theorem Cg {j:Nat}{x:Int}:r++[x]∈cS n ps (j+1)↔r∈cS n ps j/\x∈cG n ps r:=by
 show r++[x]∈(cS n ps j).flatMap (λr=>(cG n ps r).map λx=>r++[x])↔_;rw[kh];constructor
 ·rintro ⟨r',h,h'⟩
  obtain⟨y,hy,e⟩:=cf.mp h';obtain⟨e1,e2⟩:=List.append_inj' e rfl;cases e2;rw[<-e1];exact⟨h,hy⟩
 ·rintro ⟨h,h'⟩
  exact⟨r,h,cf.mpr ⟨x,h',rfl⟩⟩
theorem PV (o:A' n ps):∀(m:Nat) (R:Ah),R∈cS n ps m->∀i,i<=m->R.take i∈cS n ps i
 |0,R,h,i,hi=>by
  have:i=0:=by omega
  subst this;show[]∈cS n ps 0;simp[cS]
 |m+1,R,h,i,hi=>by
  have hl:=rws_mem o h;have hne:R≠[]:=by rintro rfl;simp at hl
  have e:=pq hne;rw[<-e]at h;have hr:=(Cg.mp h).1;have hd:=rws_mem o hr
  by_cases c:i<=m
  ·have:=PV o m _ hr i c;rw[<-e,wy (by omega)];exact this
  ·have:i=m+1:=by omega
   subst this;rw[kq (by omega),<-e];exact h
def PX (n:Nat) (ps:wo) (k j:Nat) (r:Ah):Prop:=∃R∈cS n ps n,R.take j=r/\∀i,j<=i->i<=n->gI n ps k (R.take i)=none
theorem F6 (o:A' n ps):∀(f j:Nat) (r:Ah),r∈cS n ps j->j<=n->n - j<f->(cY n ps k f r=none↔PX n ps k j r)
 |0,j,r,_,_,h=>by omega
 |f+1,j,r,hr,hj,hf=>by
  have hl:=rws_mem o hr;rw[cY]
  cases e:gI n ps k r with
  |some q=>
   simp only[reduceCtorEq,false_iff]
   rintro ⟨R,_,h2,h3⟩
   have:=h3 j (aj _) hj;rw[h2,e]at this;cases this
  |none=>
   dsimp only
   by_cases c:r.length=n
   ·rw[if_pos c];simp only[true_iff];have hjn:j=n:=by omega
    subst hjn;refine⟨r,hr,kq (by omega),λi h1 h2=>?_⟩;have:i=j:=by omega
    subst this;rw[kq (by omega)];exact e
   ·rw[if_neg c];have step:bF (λx=>cY n ps k f (r++[x])) (cG n ps r)=none↔PX n ps k j r:=by
     rw[PU];constructor
     ·rintro ⟨x,hx,h⟩
      obtain⟨R,h1,h2,h3⟩:=(F6 o f (j+1) (r++[x]) (Cg.mpr ⟨hr,hx⟩) (by omega) (by omega)).mp h;have hR:=rws_mem o h1;have e1:R.take j=r:=by
       have e3:(r++[x]).take j=r:=by rw[wy (by omega),kq (by omega)]
       have e4:(R.take (j+1)).take j=R.take j:=by rw[List.take_take,Nat.min_eq_left (by omega)]
       rw[<-e4,h2,e3]
      refine⟨R,h1,e1,λi i1 i2=>?_⟩
      by_cases d:i=j
      ·subst d;rw[e1];exact e
      ·exact h3 i (by omega) i2
     ·rintro ⟨R,h1,h2,h3⟩
      have hR:=rws_mem o h1;have hjR:j<R.length:=by omega
      have e1:R.take (j+1)=r++[R[j]]:=by rw[og hjR,h2]
      have h4:=PV o n R h1 (j+1) (by omega);rw[e1]at h4;exact⟨R[j],(Cg.mp h4).2,(F6 o f (j+1) (r++[R[j]]) h4 (by omega) (by omega)).mpr ⟨R,h1,e1,λi i1 i2=>h3 i (by omega) i2⟩⟩
    cases e2:bF (λx=>cY n ps k f (r++[x])) (cG n ps r)with
    |none=>exact⟨λ_=>step.mp e2,λ_=>rfl⟩
    |some ds=>rw[e2]at step;simp only[reduceCtorEq,false_iff]at step ⊢;exact step
theorem F7 (nd:R.Nodup) {m:Nat}(h:m<R.length):ix R R[m]=m:=by
 have e:R=R.take m++R[m]::R.drop (m+1):=by rw[List.getElem_cons_drop,iu]
 have hn:R[m]∉R.take m:=λz=>by
  obtain⟨i,hi,e2⟩:=jf.mp z;rw[vq]at e2;have hi':i<min m R.length:=by simpa using hi
  exact fv.mp nd i m (by omega) h (by omega) e2
 have:=z51 (xs:=R.take m) (ys:=R.drop (m+1)) hn;rw[<-e]at this;rw[this];simp;omega
theorem z53 {b:Int}{i:Nat}(h:b∈R.take i):ix R b<i:=by have:=kB (ms:=R.drop i) h;rw[iu]at this;rw[this];have:=iZ h;simp at this;omega
theorem z54 {b:Int}{i:Nat}(hb:b∈R) (h:b∉R.take i) (hi:i<=R.length):i<=ix R b:=by
 have hm:b∈R.drop i:=by rw[<-iu i R]at hb;exact(cy.mp hb).resolve_left h
 have:=z52 h hm;rw[iu]at this;rw[this];simp;omega
theorem z55 {i:Nat}(h:Eh n ps R) (hi:i<=n) {q:Int×Int}(e:gI n ps k (R.take i)=some q):k<i/\0<=q.1/\q.1<n/\0<=q.2/\q.2<n/\q.1∈R.take i/\q.2∉R.take i/\Lse ps q.1 q.2/\ix R q.1+k+1=i/\ix (R.take i) q.1+k+1=i:=by
 have hl:(R.take i).length=i:=by simp[h.len];omega
 unfold gI at e;rw[hl]at e
 split at e
 ·cases e
 ·rename_i c;obtain⟨b,hb,e⟩:=si.mp e;have hm:=yi hb;have hp:=List.find?_some hb;simp only[da,jy,decide_eq_false_iff_not,decide_eq_true_eq]at hp;have hx:i - 1 - k<(R.take i).length:=by omega
  have hx':i - 1 - k<R.length:=by rw[h.len];omega
  have eg:(R.take i).getD (i - 1 - k) 0=R[i - 1 - k]:=by rw[mq,aw hx];simp
  rw[eg]at hp e;subst e;have r1:=h.rng _ (cj hx');have r2:=Bj.mp hm;have m1:R[i - 1 - k]∈R.take i:=by have:=cj hx;rwa [vq]at this
  have x1:=F7 h.nd hx';have x2:ix (R.take i) R[i - 1 - k]=i - 1 - k:=by have:=kB (ms:=R.drop i) m1;rw[iu,x1]at this;exact this.symm
  refine⟨by omega,r1.1,r1.2,r2.1,r2.2,m1,hp.1,hp.2, ?_, ?_⟩
  ·rw[x1];omega
  ·rw[x2];omega
theorem z56 {i:Nat}(h:Eh n ps R) (hi:i<=n) (e:gI n ps k (R.take i)=none) (hk:k<i) {b:Int}(b0:0<=b) (b1:b<n) (hb:b∉R.take i) (hx:i - 1 - k<R.length):¬ Lse ps R[i - 1 - k] b:=λhl=>by
 have hlen:(R.take i).length=i:=by simp[h.len];omega
 unfold gI at e;rw[hlen,if_neg (by omega),Option.map_eq_none_iff]at e;have:=List.find?_eq_none.mp e b (Bj.mpr ⟨b0,b1⟩);have eg:(R.take i).getD (i - 1 - k) 0=R[i - 1 - k]:=by rw[mq,aw (by omega)];simp
 rw[eg]at this;simp[hb,hl]at this
theorem F8 {a b:Int}(h:Lse ps a b):Lse ps b a:=⟨h.1.symm,h.2.2,h.2.1⟩
theorem PY (o:A' n ps) (h:Eh n ps R):(∀i,i<=n->gI n ps k (R.take i)=none)↔gE n ps R<=k:=by
 constructor
 ·intro hf;refine PQ (by omega) λq hq=>?_;obtain⟨q0,q1,q2,hl⟩:=Ba.mp hq;have ma:=h.mem (x:=q.1) q0 (by omega);have mb:=h.mem (x:=q.2) (by omega) q2;have key:∀{a b:Int},a∈R->b∈R->0<=b->b<n->Lse ps a b->ix R b<=ix R a+k:=λ{a b} ha hb b0 b1 hl=>by
   refine wq λhc=>?_;have lb:=iZ hb;have la:=iZ ha;rw[h.len]at lb la;have hb':b∉R.take (ix R a+k+1):=λz=>by have:=z53 z;omega
   have hx:ix R a+k+1 - 1 - k<R.length:=by rw[h.len];omega
   have:=z56 h (i:=ix R a+k+1) (by omega) (hf _ (by omega)) (by omega) b0 b1 hb' hx;have eq:R[ix R a+k+1 - 1 - k]=a:=by refine pW (ns:=R) (cj _) ha ?_;rw[F7 h.nd hx];omega
   rw[eq]at this;exact this hl
  have k1:=key ma mb (by omega) q2 hl;have k2:=key mb ma q0 (by omega) (F8 hl);unfold eZ
  split <;> omega
 ·intro hs i hi
  cases e:gI n ps k (R.take i)with
  |none=>rfl
  |some q=>
   exfalso
   obtain⟨hk,a0,a1,b0,b1,ma,mb,hl,hx,_⟩:=z55 h hi e;have hb:=z54 (h.mem b0 b1) mb (by rw[h.len];exact hi);have hne:=hl.1
   rcases Int.lt_or_gt_of_ne hne with c|c
   ·have:=PR (r:=R) (Ba.mpr ⟨a0,c,b1,hl⟩);unfold eZ at this
    split at this <;> omega
   ·have:=PR (r:=R) ((Ba (q:=(q.2,q.1))).mpr ⟨b0,c,a1,F8 hl⟩);unfold eZ at this;simp only at this
    split at this <;> omega
theorem z57 (o:A' n ps) {f:Nat}(hf:n<f):cY n ps k f []=none↔kC n ps<=k:=by
 rw[F6 o f 0 [] (by simp[cS]) (by omega) (by omega)];constructor
 ·rintro ⟨R,h1,_,h3⟩
  have hR:=(zZ o).mp h1;exact Int.le_trans (z4y o hR) ((PY o hR).mp λi hi=>h3 i (by omega) hi)
 ·intro h;obtain⟨R,hR,e⟩:=F3 o;exact⟨R,(zZ o).mpr hR,rfl,λi _ hi=>(PY o hR).mpr (by omega) i hi⟩
end
end L2.Mr.Pp
namespace L2.Mr.K82
open L2.Mr.Com
end L2.Mr.K82
namespace L2.Mr.K06
open L2.Mr.Gen
open L2.Mr.Com hiding F_qw gN
open L2.Mr.Sam
open L2.Mr.Cod (last_get gO loose)
open L2.Mr.K04 (aT cS zX nL nM)
open L2.Mr.K05 (gE)
section
variable{n:Nat}{ps:wo}{r:Ah}{H:Hs}{ρ:Ev}
theorem lV {F:Ak}{a v:Dv}{x:Nat}{H':Hs}(ha:aA x ρ=λH=>.ok a H) (e:F [a] H=.ok v H'):aF F (aB (aA x) aC) ρ H=.ok v H':=by simp[aF,aB,ha,aC,e]
theorem pX {F:Ak}{m:M Dv}{a v:Dv}{H1 H':Hs}(ha:m ρ H=.ok a H1) (e:F [a] H1=.ok v H'):aF F (aB m aC) ρ H=.ok v H':=by simp[aF,aB,ha,aC,e]
theorem PZ {F:Ak}{a:Dv}{x i:Nat}{H1:Hs}{xs:Al}(ha:aA x ρ=λH=>.ok a H) (e:F [a] H=.ok (.ref i) H1) (g:getL H1 i=some xs):bK cB (aF F (aB (aA x) aC)) ρ H=.ok (cA i xs.length) H1:=by simp[bK,aF,aB,ha,aC,e,cB,g]
theorem vV {α:Type}(f:α->Dv) (l:List α):(l.flatMap λx=>[f x])=l.map f:=by
 induction l with
 |nil=>rfl
 |cons x l ih=>rw[iq,ih];rfl
theorem P0 {f:Ah->Int}{i:Nat}{L:Ah}(g:getL H i=some (L.map Fc)) (h:L≠[]):f1 (jX f) [.ref i] H=.ok (.int (f L)) H:=by have hp:=uw.mpr h;simp[f1,jX,g,FO,hp]
end
end L2.Mr.K06
namespace L2.Mr.Com
section
variable{st:Nat}
end
end L2.Mr.Com
namespace L2.Mr.K82
open L2.Mr.Gen
open L2.Mr.Com
open L2.Mr.Cod (last_get gO loose)
open L2.Mr.K04 (aT nL nM)
open L2.Mr.K05 (gE)
open L2.Mr.K06 (lU lV pX)
open L2.Mr.Sp
section
variable{n m:Nat}{ps qs:wo}{r:Ah}{H:Hs}{ρ:Ev}{x:Int}
theorem sT {F:Ak}{a v:Dv}{x:Nat}(ha:aA x ρ=λH=>.ok a H) (e:F [a] H=.ok v H):cX (aF F (aB (aA x) aC)) ρ H=.nx ρ H:=by simp[cX,aF,aB,ha,aC,e]
theorem vW {F:Ak}{a b v:Dv}{x y:Nat}(ha:aA x ρ=λH=>.ok a H) (hb:aA y ρ=λH=>.ok b H) (e:F [a,b] H=.ok v H):cX (aF F (aB (aA x) (aB (aA y) aC))) ρ H=.nx ρ H:=by simp[cX,aF,aB,ha,hb,aC,e]
theorem kU {F:Ak}{a b v:Dv}{x y:Nat}{H':Hs}(ha:aA x ρ=λH=>.ok a H) (hb:aA y ρ=λH=>.ok b H) (e:F [a,b] H=.ok v H'):aF F (aB (aA x) (aB (aA y) aC)) ρ H=.ok v H':=by simp[aF,aB,ha,hb,aC,e]
theorem vX {ma mb:M Dv}{a b:Dv}{H1 H2:Hs}(h0:ma ρ H=.ok a H1) (h1:mb ρ H1=.ok b H2):aK (aB ma (aB mb aC)) ρ H=.ok (.tup [a,b]) H2:=by simp[aK,aB,h0,h1,aC,lim]
end
end L2.Mr.K82
namespace L2.Mr.K10
open L2.Mr.Gen
open L2.Mr.Com
open L2.Mr.Cod (last_get gO loose Lse)
open L2.Mr.K04 (aT nL nM cG cS)
open L2.Mr.K05 (ix Bj)
open L2.Mr.K06 (lV pX)
open L2.Mr.Sp
open L2.Mr.Pp
open L2.Mr.K82 (sT vW kU vX)
section
variable{n k k':Nat}{ps:wo}{r:Ah}{H:Hs}{ρ:Ev}{a b:Int}
theorem loose_is:F_qz [aQ n ps,.int a,.int b] H=.ok (.bl (decide (Lse ps a b))) H:=K05.loose_is
theorem may_ok (o:A' n ps):∃i H',F_q8 [aQ n ps,aT r] H=.ok (.ref i) H'/\getL H' i=some ((cG n ps r).map Fc)/\Fr [] H H':=K04.may_ok o
def fD:Option (Int×Int)->Dv
 |none=>.non
 |some q=>.tup [.str "far",.int q.1,.int q.2]
theorem sU {F:Ak}{d e f v:Dv}{x y z:Nat}{H':Hs}(h1:aA x ρ=λH=>.ok d H) (h2:aA y ρ=λH=>.ok e H) (h3:aA z ρ=λH=>.ok f H) (q:F [d,e,f] H=.ok v H'):aF F (aB (aA x) (aB (aA y) (aB (aA z) aC))) ρ H=.ok v H':=by simp[aF,aB,h1,h2,h3,aC,q]
theorem pY {m:M Dv}{c:Bool}{H':Hs}(h:m ρ H=.ok (.bl c) H'):bN m ρ H=.ok c H':=by unfold bN;rw[h];rfl
theorem jC {m:M Dv}{c:Bool}{H':Hs}(h:m ρ H=.ok (.bl c) H'):mB m ρ H=.ok c H':=by unfold mB;rw[h];rfl
theorem vY {t u:M Bool}{H':Hs}(h:t ρ H=.ok true H'):eC t u ρ H=u ρ H':=by unfold eC;rw[h];rfl
theorem AA {t u:M Bool}{H':Hs}(h:t ρ H=.ok false H'):eC t u ρ H=.ok false H':=by unfold eC;rw[h];rfl
abbrev fB:MS:=aW (eC (mB (m2 (bP true) (aA 4) (aA 2))) (bN (aF F_qz (aB (aA 0) (aB (aA 3) (aB (aA 4) aC)))))) (aM (aK (aB (mC (.str "far")) (aB (aA 3) (aB (aA 4) aC))))) bE
abbrev jL (n:Nat) (ps:wo) (k:Nat) (r:Ah) (a:Int) (x:Am):Ev:=[some (aQ n ps),some (.int k),some (aT r),some (.int a),x]
def pF (ps:wo) (r:Ah) (a b:Int):Bool:=!decide (b∈r)&&decide (Lse ps a b)
theorem z58:fB (jL n ps k r a (some (.int b))) H=if pF ps r a b then .rt (.tup [.str "far",.int a,.int b]) H else .nx (jL n ps k r a (some (.int b))) H:=by
 have e1:mB (m2 (bP true) (aA 4) (aA 2)) (jL n ps k r a (some (.int b))) H=.ok (!decide (b∈r)) H:=jC (eR (ma:=aA 4) (mb:=aA 2) rfl rfl (pQ true H b r));have e2:bN (aF F_qz (aB (aA 0) (aB (aA 3) (aB (aA 4) aC)))) (jL n ps k r a (some (.int b))) H=.ok (decide (Lse ps a b)) H:=pY (sU (F:=F_qz) rfl rfl rfl loose_is);unfold pF
 cases c:decide (b∈r)with
 |true=>rw[c]at e1;exact(iO (AA e1)).trans rfl
 |false=>
  rw[c]at e1
  cases d:decide (Lse ps a b)with
  |true=>rw[d]at e2;exact(pO ((vY e1).trans e2)).trans rfl
  |false=>rw[d]at e2;exact(iO ((vY e1).trans e2)).trans rfl
theorem F9:∀(f m:Nat) (x:Am),f+m=n->(match ((zu m f).map λj:Nat=>(j:Int)).find? (pF ps r a)with
  |some b=>eJ (cT 0 n) (aE 4) fB f m (jL n ps k r a x) H=.rt (.tup [.str "far",.int a,.int b]) H
  |none=>∃y,eJ (cT 0 n) (aE 4) fB f m (jL n ps k r a x) H=.nx (jL n ps k r a y) H)
 |0,m,x,_=>⟨x,rfl⟩
 |f+1,m,x,h=>by
  rw[List.range'_succ,dk,List.find?_cons];have hz:(0+(m:Int))=(m:Int):=by omega
  have e:=z58 (n:=n) (ps:=ps) (k:=k) (r:=r) (a:=a) (b:=(m:Int)) (H:=H);have hg:(cT 0 n).get m H=some (.int (m:Int)):=by simp[cT]
  cases c:pF ps r a (m:Int)with
  |true=>rw[c]at e;exact K05.for_ret hg rfl e
  |false=>rw[c]at e;have ih:=F9 f (m+1) (some (.int (m:Int))) (by omega);rw[rS (sg:=aE 4) (ρ1:=jL n ps k r a (some (.int (m:Int)))) hg rfl e];exact ih
theorem P4 (n:Nat):bS n=(zu 0 n).map λj:Nat=>(j:Int):=by unfold bS;rw[List.range_eq_range'];rfl
theorem z59 {j:Nat}(h:j<r.length):aN (aT r) (.int (-1 - j)) H=.ok (.int (r.getD (r.length - 1 - j) 0)) H:=by
 have e:gK (r.map Fc) (-1 - (j:Int))=some (.int (r.getD (r.length - 1 - j) 0)):=by
  have hx:fR r.length (-1 - (j:Int))=some (r.length - 1 - j):=by
   unfold fR;rw[if_neg (by omega),if_pos (by omega)]
   congr 1
   omega
  unfold gK;rw[bc,hx];show(r.map Fc)[r.length - 1 - j]?=_;rw[dw,aw (by omega),mq,aw (by omega)];rfl
 show jP (r.map Fc) _ H=_;unfold jP;rw[e]
theorem P5 {ma mb:M Dv}{a b:Int}(e1:ma ρ H=.ok (.int a) H) (e2:mb ρ H=.ok (.int b) H):mB (m2 fP ma mb) ρ H=.ok (decide (a<=b)) H:=jC (eR e1 e2 rfl)
theorem z5a {j:Nat}{b:Int}(e:aA j ρ=λH=>.ok (.int b) H):m2 eI (m1 lJ (mC (.int 1))) (aA j) ρ H=.ok (.int (-1 - b)) H:=by simp[m2,m1,lJ,mC,e,eI,iC]
abbrev fM:MS:=cU (aR cQ (aB (m2 aN (aA 0) (mC (.int 0))) aC)) (aE 4) fB
theorem P6 (hn:n<=6):aR cQ (aB (m2 aN (aA 0) (mC (.int 0))) aC) (jL n ps k r a none) H=.ok (cT 0 n) H:=vR (L:=(n:Int)) rfl (by omega) (by omega)
theorem P7:(cT 0 (n:Int)).n=n:=by simp[cT]
theorem z5b (hn:n<=6) (h:(bS n).find? (pF ps r a)=some b):fM (jL n ps k r a none) H=.rt (.tup [.str "far",.int a,.int b]) H:=by have l:=F9 (n:=n) (ps:=ps) (k:=k) (r:=r) (a:=a) (H:=H) n 0 none (by omega);rw[<-P4,h]at l;refine(pN (P6 hn)).trans ?_;rw[P7];exact l
theorem z5c (hn:n<=6) (h:(bS n).find? (pF ps r a)=none):∃y,fM (jL n ps k r a none) H=.nx (jL n ps k r a y) H:=by have l:=F9 (n:=n) (ps:=ps) (k:=k) (r:=r) (a:=a) (H:=H) n 0 none (by omega);rw[<-P4,h]at l;obtain⟨y,l⟩:=l;exact⟨y,(pN (P6 hn)).trans (by rw[P7];exact l)⟩
theorem GA {m u:MS}{d:Dv}{H':Hs}(e:m ρ H=.rt d H'):bJ (aH m u ρ H)=.ok d H':=by unfold aH;rw[e];rfl
theorem z5d {m:MS}{ρ':Ev}{H':Hs}(e:m ρ H=.nx ρ' H'):bJ (aH m (aM (mC .non)) ρ H)=.ok .non H':=by unfold aH;rw[e];rfl
theorem z5e (hn:n<=6):bJ (aH fM (aM (mC .non)) (jL n ps k r a none) H)=.ok (fD (((bS n).find? (pF ps r a)).map λb=>(a,b))) H:=by
 cases e:(bS n).find? (pF ps r a)with
 |some b=>exact GA (z5b hn e)
 |none=>obtain⟨y,q⟩:=z5c (k:=k) (H:=H) hn e;exact z5d q
theorem z5f (hn:n<=6) (hr:r.length<=500):F_q9 [aQ n ps,.int k,aT r] H=.ok (fD (gI n ps k r)) H:=by
 show bJ (aH (aW (mB (m2 fP (aF (f1 cF) (aB (aA 2) aC)) (aA 1))) (aM (mC .non)) bE) (aH (aL (m2 aN (aA 2) (m2 eI (m1 lJ (mC (.int 1))) (aA 1))) (aE 3)) (aH fM (aM (mC .non)))) [some (aQ n ps),some (.int k),some (aT r),none,none] H)=_;have e1:mB (m2 fP (aF (f1 cF) (aB (aA 2) aC)) (aA 1)) [some (aQ n ps),some (.int k),some (aT r),none,none] H=.ok (decide ((r.length:Int)<=k)) H:=by refine P5 ?_ (b:=(k:Int)) rfl;rw[FP (ds:=r.map Fc) rfl,bc]
 by_cases c:r.length<=k
 ·rw[decide_eq_true (by omega)]at e1;have hf:gI n ps k r=none:=by unfold gI;rw[if_pos c]
  rw[hf];unfold aH;rw[pO e1];rfl
 ·rw[decide_eq_false (by omega)]at e1;have hf:gI n ps k r=((bS n).find? (pF ps r (r.getD (r.length - 1 - k) 0))).map λb=>(r.getD (r.length - 1 - k) 0,b):=by unfold gI;rw[if_neg c];rfl
  rw[hf];have w1:aW (mB (m2 fP (aF (f1 cF) (aB (aA 2) aC)) (aA 1))) (aM (mC .non)) bE [some (aQ n ps),some (.int k),some (aT r),none,none] H=.nx [some (aQ n ps),some (.int k),some (aT r),none,none] H:=(iO e1).trans rfl;have w2:aL (m2 aN (aA 2) (m2 eI (m1 lJ (mC (.int 1))) (aA 1))) (aE 3) [some (aQ n ps),some (.int k),some (aT r),none,none] H=.nx (jL n ps k r (r.getD (r.length - 1 - k) 0) none) H:=qX (eR (ma:=aA 2) rfl (z5a (b:=(k:Int)) rfl) (z59 (by omega))) rfl;rw[bH w1,bH w2];exact z5e hn
theorem vZ:∀{f:Nat}{r:Ah}{d:Dv},cY n ps k f r=some d->∃ds,d=.tup ds
 |0,r,d,h=>by cases h
 |f+1,r,d,h=>by
  rw[cY]at h
  split at h
  ·cases h;exact⟨_,rfl⟩
  ·split at h
   ·cases h
   ·split at h
    ·cases h;exact⟨_,rfl⟩
    ·cases h
def oD (x:Am):Dv:=x.getD .non
abbrev pB (Fs:Ak):MS:=aH (aL (aF Fs (aB (aA 0) (aB (aA 1) (aB (m2 bO (aA 2) (aK (aB (aA 5) aC))) aC)))) (aE 6)) (aH (aW (mB (m2 (fW false) (aA 6) (mC .non))) (aM (mC .non)) bE) (cX (gX (aA 4) (aA 6))))
abbrev hY (n:Nat) (ps:wo) (k:Nat) (r:Ah) (p:Nat) (x y:Am):Ev:=[some (aQ n ps),some (.int k),some (aT r),some .non,some (.ref p),x,y]
theorem z5g {o m:M Dv}{p:Nat}{d:Dv}{xs:Al}{H1:Hs}(eo:o ρ H=.ok (.ref p) H) (hp:(getL H p).isSome=true) (em:m ρ H=.ok d H1) (g:getL H1 p=some xs) (hl:xs.length<1000000):cX (gX o m) ρ H=.nx ρ (H1.set p (.lst (xs++[d]))):=by simp[cX,gX,eo,jH,hp,em,pI,g,hl]
theorem P8 {Fs:Ak}{g:Int->Am}{xs:Ah}{i p:Nat}(hip:i≠p) (hr:r.length<=100) (ht:∀x d,g x=some d->∃ds,d=.tup ds):
  ∀(rest:Ah) (m:Nat) (acc:Al) (H:Hs) (x y:Am),xs.drop m=rest->acc.length+rest.length<=1000->getL H i=some (xs.map Fc)->getL H p=some acc->(∀x∈rest,∀H,∃H',Fs [aQ n ps,.int k,aT (r++[x])] H=.ok (oD (g x)) H'/\Fr [] H H')->
  ∃H',Fr [p] H H'/\(match bF g rest with
   |some ds=>∃x' y',eJ (cA i xs.length) (aE 5) (pB Fs) rest.length m (hY n ps k r p x y) H=.nx (hY n ps k r p x' y') H'/\getL H' p=some (acc++ds)
   |none=>eJ (cA i xs.length) (aE 5) (pB Fs) rest.length m (hY n ps k r p x y) H=.rt .non H')
 | [],m,acc,H,x,y,_,_,gi,gp,_=>⟨H,Fh,x,y,by rw[ni];unfold eJ;simp[cA,gi],by simpa using gp⟩
 |z::rest,m,acc,H,x,y,hd,hl,gi,gp,hF=>by
  have hm:m<xs.length:=by refine Nat.lt_of_not_le λc=>?_;rw[List.drop_of_length_le c]at hd;cases hd
  rw[yg hm]at hd;injection hd with hz hd;have hg:(cA i xs.length).get m H=some (.int z):=by simp[cA,gi,hm,hz]
  obtain⟨H1,e1,f1'⟩:=hF z (ay ..) H;have ea:m2 bO (aA 2) (aK (aB (aA 5) aC)) (hY n ps k r p (some (.int z)) y) H=.ok (aT (r++[z])) H:=K04.add_one hr rfl rfl;have ec:aF Fs (aB (aA 0) (aB (aA 1) (aB (m2 bO (aA 2) (aK (aB (aA 5) aC))) aC))) (hY n ps k r p (some (.int z)) y) H=.ok (oD (g z)) H1:=by generalize m2 bO (aA 2) (aK (aB (aA 5) aC))=M at ea;simp[aF,aB,aA,ea,aC,e1]
  have w1:aL (aF Fs (aB (aA 0) (aB (aA 1) (aB (m2 bO (aA 2) (aK (aB (aA 5) aC))) aC)))) (aE 6) (hY n ps k r p (some (.int z)) y) H=.nx (hY n ps k r p (some (.int z)) (some (oD (g z)))) H1:=qX ec rfl;rw[bF]
  cases c:g z with
  |none=>rw[c]at w1;refine⟨H1,f1'.mono (by simp), ?_⟩;refine K05.for_ret (ρ1:=hY n ps k r p (some (.int z)) y) hg rfl ?_;show aH _ _ (hY n ps k r p (some (.int z)) y) H=_;rw[bH w1];rfl
  |some d=>
   rw[c]at w1;obtain⟨ds,rfl⟩:=ht z d c;have gp1:=f1'.getL gp (by simp);have w2:cX (gX (aA 4) (aA 6)) (hY n ps k r p (some (.int z)) (some (.tup ds))) H1=.nx (hY n ps k r p (some (.int z)) (some (.tup ds))) (H1.set p (.lst (acc++[.tup ds]))):=z5g (o:=aA 4) (m:=aA 6) rfl (by rw[gp1];rfl) rfl gp1 (by omega);have wb:pB Fs (hY n ps k r p (some (.int z)) y) H=.nx (hY n ps k r p (some (.int z)) (some (.tup ds))) (H1.set p (.lst (acc++[.tup ds]))):=by show aH _ _ (hY n ps k r p (some (.int z)) y) H=_;rw[bH w1,bH (show aW _ _ _ _ H1=.nx (hY n ps k r p (some (.int z)) (some (.tup ds))) H1 from rfl),w2]
   have f2:Fr [p] H1 (H1.set p (.lst (acc++[.tup ds]))):=Fz;obtain⟨H',fH,ih⟩:=P8 hip hr ht rest (m+1) (acc++[.tup ds]) (H1.set p (.lst (acc++[.tup ds]))) (some (.int z)) (some (.tup ds)) hd (by simp at hl ⊢;omega) (f2.getL (f1'.getL gi (by simp)) (by simpa using hip)) (oF gp1) (λx hx=>hF x (ao _ hx));refine⟨H',((f1'.mono (T:=[p]) (by simp)).trans f2 (by simp)).trans fH (by simp), ?_⟩;rw[cg,rS (sg:=aE 5) (ρ1:=hY n ps k r p (some (.int z)) y) hg rfl wb]
   cases e2:bF g rest with
   |none=>rw[e2]at ih;exact ih
   |some es=>rw[e2]at ih;obtain⟨x',y',h1,h2⟩:=ih;refine⟨x',y',h1, ?_⟩;rw[h2];simp
theorem sp_ok (o:A' n ps):∀(f j:Nat) (r:Ah) (H:Hs),r∈cS n ps j->j<=n->n - j<f->∃H',F_qt f [aQ n ps,.int k,aT r] H=.ok (oD (cY n ps k f r)) H'/\Fr [] H H'
 |0,j,r,H,_,_,h=>by omega
 |f+1,j,r,H,hr,hj,hf=>by
  have n6:=o.n6;have hl:=K04.rws_mem o hr;have e1:=z5f (ps:=ps) (k:=k) (r:=r) (H:=H) n6 (by omega);have w1:aL (aF F_q9 (aB (aA 0) (aB (aA 1) (aB (aA 2) aC)))) (aE 3) [some (aQ n ps),some (.int k),some (aT r),none,none,none,none] H=.nx [some (aQ n ps),some (.int k),some (aT r),some (fD (gI n ps k r)),none,none,none] H:=qX (sU (F:=F_q9) rfl rfl rfl e1) rfl;show ∃H',bJ (aH (aL (aF F_q9 (aB (aA 0) (aB (aA 1) (aB (aA 2) aC)))) (aE 3)) (aH (aW (cO (mB (m2 (fW true) (aA 3) (mC .non))) (mB (m2 bD (aF (f1 cF) (aB (aA 2) aC)) (m2 aN (aA 0) (mC (.int 0)))))) (aM (aA 3)) bE) (aH (aL (aS aC) (aE 4)) (aH (cU (bK cB (aF F_q8 (aB (aA 0) (aB (aA 2) aC)))) (aE 5) (pB (F_qt f))) (aM (aK (aB (mC (.str "next")) (aB (aF (f1 iT) (aB (aA 4) aC)) aC))))))) [some (aQ n ps),some (.int k),some (aT r),none,none,none,none] H)=_/\_;rw[bH w1,cY]
  cases e:gI n ps k r with
  |some q=>refine⟨H, ?_,Fh⟩;have t:cO (mB (m2 (fW true) (aA 3) (mC .non))) (mB (m2 bD (aF (f1 cF) (aB (aA 2) aC)) (m2 aN (aA 0) (mC (.int 0))))) [some (aQ n ps),some (.int k),some (aT r),some (fD (some q)),none,none,none] H=.ok true H:=z48 rfl;unfold aH;rw[pO t];rfl
  |none=>
   have t:cO (mB (m2 (fW true) (aA 3) (mC .non))) (mB (m2 bD (aF (f1 cF) (aB (aA 2) aC)) (m2 aN (aA 0) (mC (.int 0))))) [some (aQ n ps),some (.int k),some (aT r),some .non,none,none,none] H=.ok (decide ((r.length:Int)=n)) H:=by rw[oR (show mB (m2 (fW true) (aA 3) (mC .non)) [some (aQ n ps),some (.int k),some (aT r),some .non,none,none,none] H=.ok false H from rfl)];refine jC (eR (FP (ds:=r.map Fc) rfl) (eR (ma:=aA 0) (mb:=mC (.int 0)) rfl rfl (OP H)) ?_);rw[bc];exact K05.eq_int _ _
   dsimp only
   by_cases c:r.length=n
   ·rw[decide_eq_true (by omega)]at t;rw[if_pos c];refine⟨H, ?_,Fh⟩;show bJ (aH _ _ [some (aQ n ps),some (.int k),some (aT r),some .non,none,none,none] H)=_;unfold aH;rw[pO t];rfl
   ·rw[decide_eq_false (by omega)]at t;have w0:aW (cO (mB (m2 (fW true) (aA 3) (mC .non))) (mB (m2 bD (aF (f1 cF) (aB (aA 2) aC)) (m2 aN (aA 0) (mC (.int 0)))))) (aM (aA 3)) bE [some (aQ n ps),some (.int k),some (aT r),some .non,none,none,none] H=.nx [some (aQ n ps),some (.int k),some (aT r),some .non,none,none,none] H:=(iO t).trans rfl;rw[if_neg c,bH (show aW _ _ _ [some (aQ n ps),some (.int k),some (aT r),some (fD none),none,none,none] H=_ from w0)];have w2:aL (aS aC) (aE 4) [some (aQ n ps),some (.int k),some (aT r),some .non,none,none,none] H=.nx (hY n ps k r H.length none none) (H++[.lst []]):=rfl;have g2:getL (H++[Fd []]) H.length=some []:=last_get;have f2:Fr [] H (H++[Fd []]):=Fe;have lt2:(H++[Fd []]).length=H.length+1:=by simp
    rw[bH w2];generalize H++[Fd []]=H2 at g2 f2 lt2;obtain⟨i,H3,e3,g3,f3⟩:=may_ok (r:=r) (H:=H2) o;have hi:i≠H.length:=by
     rintro rfl
     rw[f3.getL g2 (by simp)]at g3;have:(cG n ps r).map Fc=[]:=(cq g3).symm;exact K06.may_ne o hr (by omega) (by simpa using this)
    have es:=K04.src_2 (F:=F_q8) (ρ:=hY n ps k r H.length none none) (x:=0) (y:=2) rfl rfl e3 g3;rw[bc]at es;have hm6:(cG n ps r).length<=6:=by have:(cG n ps r).length<=(bS n).length:=ie _ _;simp[bS]at this;omega
    obtain⟨H4,f4,l⟩:=P8 (n:=n) (ps:=ps) (k:=k) (r:=r) (Fs:=F_qt f) (g:=λx=>cY n ps k f (r++[x])) (xs:=cG n ps r) (i:=i) (p:=H.length) hi (by omega) (λx d h=>vZ h) (cG n ps r) 0 [] H3 none none rfl (by simp;omega) g3 (f3.getL g2 (by simp)) (λx hx H=>sp_ok o f (j+1) (r++[x]) H (Cg.mpr ⟨hr,hx⟩) (by omega) (by omega));have fA:Fr [] H H4:=(f2.trans f3 (by simp)).trans f4 (by simp)
    cases e2:bF (λx=>cY n ps k f (r++[x])) (cG n ps r)with
    |none=>rw[e2]at l;refine⟨H4, ?_,fA⟩;unfold aH;rw[pN es,show(cA i (cG n ps r).length).n=(cG n ps r).length from rfl,l];rfl
    |some ds=>
     rw[e2]at l;obtain⟨x',y',l1,l2⟩:=l;refine⟨H4, ?_,fA⟩;rw[bH ((pN es).trans l1)];have t1:f1 iT [.ref H.length] H4=.ok (.tup ds) H4:=by rw[xa]at l2;simp[f1,iT,l2]
     unfold aM;rw[vX (ma:=mC (.str "next")) rfl (lV (F:=f1 iT) (x:=4) rfl t1)];rfl
end
open L2.Mr.Cod (last_get gO loose Ba Lse)
open L2.Mr.K04 (aT nL nM cG cS rws_mem)
open L2.Mr.K05 (ix Bj)
open L2.Mr.K06 (lV pX vV)
open L2.Mr.K82 (sT vW kU vX)
section
variable{n k k':Nat}{ps:wo}{r:Ah}{H:Hs}{ρ:Ev}{a b:Int}
theorem P9 (nd:r.Nodup) (rg:∀x∈r,0<=x/\x<n) {q:Int×Int}(e:gI n ps k r=some q):0<=q.1/\q.1<n/\0<=q.2/\q.2<n/\q.1∈r/\q.2∉r/\Lse ps q.1 q.2/\ix r q.1+k+1=r.length:=by
 unfold gI at e
 split at e
 ·cases e
 ·rename_i c;obtain⟨b,hb,e⟩:=si.mp e;have hm:=Bj.mp (yi hb);have hp:=List.find?_some hb;simp only[da,jy,decide_eq_false_iff_not,decide_eq_true_eq]at hp;have hx:r.length - 1 - k<r.length:=by omega
  have eg:r.getD (r.length - 1 - k) 0=r[r.length - 1 - k]:=by rw[mq,aw hx];rfl
  rw[eg]at hp e;subst e;have r1:=rg _ (cj hx);refine⟨r1.1,r1.2,hm.1,hm.2,cj hx,hp.1,hp.2, ?_⟩;rw[F7 nd hx];omega
theorem GB {m u:M Dv}{H':Hs}(h:m ρ H=.ok (.bl true) H'):cP m u ρ H=u ρ H':=by unfold cP;rw[h];rfl
theorem QA {ma mb:M Dv}{a b:Int}{H1 H2:Hs}(e1:ma ρ H=.ok (.int a) H1) (e2:mb ρ H1=.ok (.int b) H2):m2 qJ ma mb ρ H=.ok (.bl (decide (a>=b))) H2:=eR e1 e2 rfl
theorem wB {ma mb:M Dv}{a b:Int}{H1 H2:Hs}(e1:ma ρ H=.ok (.int a) H1) (e2:mb ρ H1=.ok (.int b) H2):m2 eI ma mb ρ H=.ok (.int (a - b)) H2:=eR e1 e2 rfl
theorem AB {F:Ak}{ma mb mc md:M Dv}{a b c d v:Dv}{H1 H2 H3 H4 H':Hs}(ha:ma ρ H=.ok a H1) (hb:mb ρ H1=.ok b H2) (hc:mc ρ H2=.ok c H3) (hd:md ρ H3=.ok d H4) (e:F [a,b,c,d] H4=.ok v H'):aF F (aB ma (aB mb (aB mc (aB md aC)))) ρ H=.ok v H':=by simp[aF,aB,ha,hb,hc,hd,aC,e]
end
end L2.Mr.K10
namespace L2.Mr.K09
open L2.Mr.Gen
open L2.Mr.Com
open L2.Mr.Cod (last_get gO loose Ba Lse)
open L2.Mr.K04 (aT nL nM cG cS rws_mem wt Dc)
open L2.Mr.K05 (ix Bj jA dR sO PD)
open L2.Mr.K06 (lV pX vV)
open L2.Mr.Sp
open L2.Mr.Pp
open L2.Mr.K82 (sT vW kU vX)
open L2.Mr.K10 (sU AB pY jC vY AA GB QA wB P5 oD fD P9 GA vZ)
section
variable{n k:Nat}{ps:wo}{r:Ah}{H:Hs}{ρ:Ev}{a b:Int}{d:Dv}
theorem need_ok (o:A' n ps):F_qs [aQ n ps] H=.ok .non H:=K05.need_ok o
theorem sp_ok (o:A' n ps) (f j:Nat) (r:Ah) (H:Hs) (h1:r∈cS n ps j) (h2:j<=n) (h3:n - j<f):∃H',F_qt f [aQ n ps,.int k,aT r] H=.ok (oD (cY n ps k f r)) H'/\Fr [] H H':=by
 have e:F_qt f=K10.F_qt f:=by
  clear h3
  induction f with
  |zero=>rfl
  |succ f ih=>show aV 3 7 (mb_qt (F_qt f))=aV 3 7 (K10.mb_qt (K10.F_qt f));rw[ih];rfl
 rw[e];exact K10.sp_ok o f j r H h1 h2 h3
theorem z5h:(dR n r).filter (λy=>decide (jA ps r y=[]))=cG n ps r:=by
 unfold dR cG;rw[List.filter_filter]
 congr 1
 funext x
 have:decide (jA ps r x=[])=!decide (x∈wt ps r):=by
  rw[cz];simp only[decide_eq_true_eq,jy,decide_eq_false_iff_not];unfold jA;rw[ub,Dc];constructor
  ·rintro h ⟨q,hq,h1,h2⟩
   exact h q hq (by simp[h1,h2])
  ·intro h q hq h';simp only[da,decide_eq_true_eq,jy,decide_eq_false_iff_not]at h';exact h ⟨q,hq,h'.2,h'.1⟩
 rw[this,Bool.and_comm]
abbrev AD:M Al :=bT (aR cQ (aB (m2 aN (aA 0) (mC (.int 0))) aC)) [none,some 1] (aE 0) (mB (m2 (bP true) (aA 0) (aA 1))) (bM (aA 0))
abbrev QB:M Al :=bT (bK cB (aA 2)) [none,some 0,some 1] (aE 0) (mB (m2 bD (bU sO) (aS aC))) (bM (aA 0))
theorem z5i (hn:n<=6) {x2:Am}:AD [some (aQ n ps),some (aT r),x2] H=.ok ((dR n r).map Fc) H:=by
 have w:AD [some (aQ n ps),some (aT r),x2] H=.ok ((bS n).filterMap λx=>if !decide (x∈r)then some (.int x)else none) H:=
  iG (bS n) (λx=>if !decide (x∈r)then some (.int x)else none) (λρ=>∃y,ρ=[y,some (aT r)]) (src:=cT 0 n) (vR (L:=(n:Int)) rfl (by omega) (by omega)) (by simp[cT,bS]) ⟨_,rfl⟩ rfl (λk hk ρ ⟨y,e⟩=>by
   subst e;have gk:(bS n)[k]=(k:Int):=by simp[bS]
   have h00:(0+(k:Int))=(k:Int):=by omega
   refine⟨.int (0+k),[some (.int (0+k)),some (aT r)],rfl,rfl,⟨_,rfl⟩, ?_⟩;rw[gk,h00];have t:mB (m2 (bP true) (aA 0) (aA 1)) [some (.int (k:Int)),some (aT r)] H=.ok (!decide ((k:Int)∈r)) H:=jC (eR (ma:=aA 0) (mb:=aA 1) rfl rfl (pQ true H (k:Int) r))
   cases c:!decide ((k:Int)∈r)with
   |true=>rw[c]at t;exact⟨t,rfl⟩
   |false=>rw[c]at t;exact t) (by simp[bS];omega)
 exact w.trans (congrArg (λl=>Ft l _) (sM _ _ _))
theorem z5j (o:A' n ps) {i:Nat}{ys:Ah}(g:getL H i=some (ys.map Fc)) (hl:ys.length<=6):∃H',QB [some (aQ n ps),some (aT r),some (.ref i)] H=.ok ((ys.filter λy=>decide (jA ps r y=[])).map Fc) H'/\Fr [] H H':=K05.sA2_gen (mi:=bK cB (aA 2)) (cap:=[none,some 0,some 1]) (ρ:=[some (aQ n ps),some (aT r),some (.ref i)]) o g hl (by simp[bK,aA,cB,g]) rfl
theorem z5k (o:A' n ps):∃i H',F_qd [aQ n ps,aT r] H=.ok (.ref i) H'/\getL H' i=some ((cG n ps r).map Fc)/\Fr [] H H':=by have n6:=o.n6;have w1:aL (bU AD) (aE 2) [some (aQ n ps),some (aT r),none] H=.nx [some (aQ n ps),some (aT r),some (.ref H.length)] (H++[.lst ((dR n r).map Fc)]):=PB (z5i n6) rfl;have g1:getL (H++[Fd ((dR n r).map Fc)]) H.length=some ((dR n r).map Fc):=last_get;have f1':Fr [] H (H++[Fd ((dR n r).map Fc)]):=Fe;generalize H++[Fd ((dR n r).map Fc)]=H1 at w1 g1 f1';obtain⟨H2,e2,f2⟩:=z5j (r:=r) o g1 (K04.left_len n6);rw[z5h]at e2;refine⟨H2.length,H2++[.lst ((cG n ps r).map Fc)], ?_,last_get,(f1'.trans f2 (by simp)).trans (T:=[]) Fe (by simp)⟩;show bJ (aH (aL (bU AD) (aE 2)) (aM (bU QB)) [some (aQ n ps),some (aT r),none] H)=_;rw[bH w1];exact nM e2
theorem z5l {i:Nat}(neg:Bool) (p:Int×Int) {qs:wo}(g:getL H i=some (qs.map aI)):bP neg (aI p) (.ref i) H=.ok (.bl (if neg then !decide (p∈qs)else decide (p∈qs))) H:=by
 have e:(qs.map iP).any (λt=>bI t (iP p))=decide (p∈qs):=by
  rw[cz];simp only[tu,my,uk,CS,decide_eq_true_eq];constructor
  ·rintro ⟨q,hq,rfl⟩;exact hq
  ·intro h;exact⟨p,h,rfl⟩
 have h1:bF (bQ bY H) (qs.map aI)=some (qs.map iP):=yA 28 H qs;have h2:bQ bY H (aI p)=some (iP p):=CQ 28 H p;show kK [] neg (aI p) (.ref i) H=_;simp only[kK,fV,g,h1,h2,e]
theorem FQ (hn:n<=10):F_qk [aQ n ps] H=.ok (.ref H.length) (H++[.lst ((loose n ps).map aI)]):=Cod.loose_ok hn
def mn (a b:Int):Int:=if b<a then b else a
theorem z5m (hn:n<=10) (a0:0<=a) (a1:a<n) (b0:0<=b) (b1:b<n) (h:Lse ps a b):∃H',F_qu [aQ n ps,.int a,.int b] H=.ok (.bl true) H'/\Fr [] H H':=by
 have g:getL (H++[Fd ((loose n ps).map aI)]) H.length=some ((loose n ps).map aI):=last_get;have e1:=FQ (n:=n) (ps:=ps) (H:=H) hn;have f:Fr [] H (H++[Fd ((loose n ps).map aI)]):=Fe;generalize H++[Fd ((loose n ps).map aI)]=H1 at g e1 f;refine⟨H1, ?_,f⟩;have hm:(mn a b,mx a b)∈loose n ps:=by
  have:=h.1;unfold mn mx
  rcases Int.lt_or_gt_of_ne this with c|c
  ·rw[if_neg (by omega),if_pos c];exact Ba.mpr ⟨a0,c,b1,h⟩
  ·rw[if_pos c,if_neg (by omega)];exact Ba.mpr ⟨b0,c,a1,F8 h⟩
 have ea:aK (aB (aF mH (aB (aA 1) (aB (aA 2) aC))) (aB (aF iD (aB (aA 1) (aB (aA 2) aC))) aC)) [some (aQ n ps),some (.int a),some (.int b)] H=.ok (aI (mn a b,mx a b)) H:=vX (kU (F:=mH) (x:=1) (y:=2) rfl rfl rfl) (kU (F:=iD) (x:=1) (y:=2) rfl rfl rfl);have q:=z5l false (mn a b,mx a b) g;rw[decide_eq_true hm]at q;have e0:F_qu [aQ n ps,.int a,.int b] H=bJ (aM (m2 (bP false) (aK (aB (aF mH (aB (aA 1) (aB (aA 2) aC))) (aB (aF iD (aB (aA 1) (aB (aA 2) aC))) aC))) (aF F_qk (aB (aA 0) aC))) [some (aQ n ps),some (.int a),some (.int b)] H):=rfl;rw[e0];unfold aM;rw[eR ea (lV (F:=F_qk) (x:=0) rfl e1) q];rfl
theorem QC:F_qp [.int a] H=.ok (.bl true) H:=rfl
abbrev lW (n:Nat) (ps:wo) (k:Int) (a b:Int) (r:Ah):Ev:=[some (aQ n ps),some (.int k),some (.int a),some (.int b),some (aT r)]
theorem z5n {ma mb mc:M Dv}{x y z:Int}(e1:ma ρ H=.ok (.int x) H) (e2:mb ρ H=.ok (.int y) H) (e3:mc ρ H=.ok (.int z) H) (h1:x<=y) (h2:y<z):cD (mB (jO fP rP ma mb mc)) ρ H=.ok false H:=by
 refine sL (b:=true) (jC ?_);have q1:fP (.int x) (.int y) H=.ok (.bl true) H:=by show Ft (Fy (decide (x<=y))) H=_;rw[decide_eq_true h1]
 have q2:rP (.int y) (.int z) H=.ok (.bl true) H:=by show Ft (Fy (decide (y<z))) H=_;rw[decide_eq_true h2]
 simp[jO,e1,e2,e3,q1,q2]
theorem z5o (hn:n<=6) (a0:0<=a) (a1:a<n) (b0:0<=b) (b1:b<n) (ha:a∈r) (hb:b∉r) (hl:Lse ps a b) (hx:ix r a+k+1=r.length):∃H',F_q4 [aQ n ps,.int k,.int a,.int b,aT r] H=.ok (.bl true) H'/\Fr [] H H':=by
 obtain⟨H1,e1,f⟩:=z5m (H:=H) (ps:=ps) (by omega) a0 a1 b0 b1 hl;refine⟨H1, ?_,f⟩;have t1:cD (bN (aF F_qp (aB (aA 2) aC))) (lW n ps k a b r) H=.ok false H:=sL (b:=true) (pY (lV (F:=F_qp) rfl QC));have t2:cD (bN (aF F_qp (aB (aA 3) aC))) (lW n ps k a b r) H=.ok false H:=sL (b:=true) (pY (lV (F:=F_qp) rfl QC));have t3:mB (m2 (bP true) (aA 2) (aA 4)) (lW n ps k a b r) H=.ok false H:=by have:=pQ true H a r;rw[decide_eq_true ha]at this;exact jC (eR (ma:=aA 2) (mb:=aA 4) rfl rfl this)
 have t4:mB (m2 (bP false) (aA 3) (aA 4)) (lW n ps k a b r) H=.ok false H:=by have:=pQ false H b r;rw[decide_eq_false hb]at this;exact jC (eR (ma:=aA 3) (mb:=aA 4) rfl rfl this)
 have t5:cD (mB (jO fP rP (mC (.int 0)) (aA 3) (m2 aN (aA 0) (mC (.int 0))))) (lW n ps k a b r) H=.ok false H:=z5n rfl rfl (eR (ma:=aA 0) (mb:=mC (.int 0)) rfl rfl (OP H)) b0 b1;have w1:aW (cO (cD (bN (aF F_qp (aB (aA 2) aC)))) (cO (cD (bN (aF F_qp (aB (aA 3) aC)))) (cO (mB (m2 (bP true) (aA 2) (aA 4))) (cO (mB (m2 (bP false) (aA 3) (aA 4))) (cD (mB (jO fP rP (mC (.int 0)) (aA 3) (m2 aN (aA 0) (mC (.int 0)))))))))) (aM (mC (.bl false))) bE (lW n ps k a b r) H=.nx (lW n ps k a b r) H:=by refine(iO ?_).trans rfl;rw[oR t1,oR t2,oR t3,oR t4];exact t5
 have e2:aF (f1 cF) (aB (aA 4) aC) (lW n ps k a b r) H1=.ok (.int r.length) H1:=by rw[FP (ds:=r.map Fc) rfl,bc]
 have e3:eY (aA 4) (aA 2) (lW n ps k a b r) H1=.ok (.int (ix r a)) H1:=K05.idx_V (a:=4) rfl rfl ha;have e4:=QA (wB (wB (mb:=mC (.int 1)) e2 rfl) e3) (mb:=aA 1) (b:=(k:Int)) rfl;rw[decide_eq_true (show(r.length:Int) - 1 - ix r a>=k by omega)]at e4;have e5:=sU (F:=F_qu) (ρ:=lW n ps k a b r) (x:=0) (y:=2) (z:=3) rfl rfl rfl e1;show bJ (aH _ (aM _) (lW n ps k a b r) H)=_;rw[bH w1];unfold aM;rw[GB e5,e4];rfl
theorem QD {α β:Type}{f:α->Option β}:∀{l:List α},(∀x∈l,∃y,f x=some y)->∃ys,bF f l=some ys/\ys.length=l.length
 | [],_=>⟨[],rfl,rfl⟩
 |a::l,h=>by obtain⟨y,e⟩:=h a (ay ..);obtain⟨ys,e2,e3⟩:=QD (f:=f) (l:=l) λx hx=>h x (ao _ hx);exact⟨y::ys,by rw[bF,e,e2],by simp[e3]⟩
theorem z5p {m:Nat}{ds:Al}(h:∀d∈ds,∃t,bQ m H d=some t):∃ts,bQ (m+1) H (.tup ds)=some (.tup ts)/\ts.length=ds.length:=by obtain⟨ts,e,l⟩:=QD h;exact⟨ts,by show(match bF (bQ m H) ds with|some ts=>some (Dt.tup ts)|none=>none)=_;rw[e],l⟩
theorem QE {f:Nat}{ds:Al}(h:bF (λx=>cY n ps k f (r++[x])) (cG n ps r)=some ds):ds.length=(cG n ps r).length/\∀d∈ds,∃x∈cG n ps r,cY n ps k f (r++[x])=some d:=by
 obtain⟨l1,l2⟩:=F5 h;refine⟨l1,λd hd=>?_⟩;obtain⟨i,hi,e⟩:=jf.mp hd;have h1:i<(cG n ps r).length:=by omega
 exact⟨_,cj h1,by rw[l2 i h1 hi,e]⟩
theorem GC {f:Nat}(h:cY n ps k (f+1) r=some d):(∃q,gI n ps k r=some q/\d=.tup [.str "far",.int q.1,.int q.2])∨(r.length≠n/\∃ds,bF (λx=>cY n ps k f (r++[x])) (cG n ps r)=some ds/\d=.tup [.str "next",.tup ds]):=by
 rw[cY]at h
 cases e:gI n ps k r with
 |some q=>rw[e]at h;cases h;exact .inl ⟨q,rfl,rfl⟩
 |none=>
  rw[e]at h;dsimp only at h
  by_cases c:r.length=n
  ·rw[if_pos c]at h;cases h
  ·rw[if_neg c]at h
   cases e2:bF (λx=>cY n ps k f (r++[x])) (cG n ps r)with
   |none=>rw[e2]at h;cases h
   |some ds=>rw[e2]at h;cases h;exact .inr ⟨c,ds,rfl,rfl⟩
theorem QF:∀(f:Nat) (r:Ah) (d:Dv) (m:Nat),cY n ps k f r=some d->2*f<=m->∃ts,bQ m H d=some (.tup ts)/\ts≠[]
 |0,r,d,m,h,_=>by cases h
 |f+1,r,d,m,h,hm=>by
  obtain⟨m,rfl⟩:∃j,m=j+2:=⟨m - 2,by omega⟩
  rcases GC h with⟨q,_,rfl⟩|⟨_,ds,e,rfl⟩
  ·exact⟨[.str "far",.int q.1,.int q.2],rfl,by simp⟩
  ·obtain⟨_,l2⟩:=QE e;obtain⟨ts,e1,_⟩:=z5p (m:=m) (H:=H) (ds:=ds) λd hd=>by obtain⟨x,_,hx⟩:=l2 d hd;obtain⟨t,ht,_⟩:=QF f _ d m hx (by omega);exact⟨_,ht⟩
   refine⟨[.str "next",.tup ts], ?_,by simp⟩;show(match bF (bQ (m+1) H) [.str "next",.tup ds]with|some ts=>some (Dt.tup ts)|none=>none)=_;rw[bF,bF,e1];rfl
theorem z5q {f:Nat}(h:cY n ps k f r=some d) (hf:f<=8):bD d (.tup []) H=.ok (.bl false) H:=by
 obtain⟨ts,e,hne⟩:=QF (H:=H) f r d bY h (by unfold bY;omega);have e2:bQ bY H (.tup [])=some (.tup []):=rfl;unfold bD;rw[e,e2]
 cases ts with
 |nil=>exact absurd rfl hne
 |cons t ts=>simp[bI,fS]
theorem QG {m:Nat}{x:Str}:F_qw (m+1) [.str x,.str x] H=.ok (.bl true) H:=by simp[F_qw,gN,aV,bX,aH,aW,bN,m1,bG,aA,gW,qL,fT,bE,aM,cP,m2,bD,bY,bQ,bI,kP,bJ]
theorem z5r {m:Nat}:F_qw (m+1) [.non,.non] H=.ok (.bl true) H:=by simp[F_qw,gN,aV,bX,aH,aW,bN,m1,bG,aA,gW,qL,fT,bE,aM,cP,m2,bD,bY,bQ,bI,kP,bJ]
theorem QH (hn:n<=6):∀(f:Nat) (r:Ah) (d:Dv) (m:Nat),cY n ps k f r=some d->2*f<=m->F_qw m [d,d] H=.ok (.bl true) H
 |0,r,d,m,h,_=>by cases h
 |f+1,r,d,m,h,hm=>by
  obtain⟨m,rfl⟩:∃j,m=j+2:=⟨m - 2,by omega⟩
  rcases GC h with⟨q,_,rfl⟩|⟨_,ds,e,rfl⟩
  ·exact K81.same_tup (by simp) λx hx=>by
    simp only[ba,wk,or_false]at hx
    rcases hx with rfl|rfl|rfl
    ·exact QG
    ·exact K81.same_int
    ·exact K81.same_int
  ·obtain⟨l1,l2⟩:=QE e;have hm6:(cG n ps r).length<=6:=by have:(cG n ps r).length<=(bS n).length:=ie _ _;simp[bS]at this;omega
   exact K81.same_tup (by simp) λx hx=>by
    simp only[ba,wk,or_false]at hx
    rcases hx with rfl|rfl
    ·exact QG
    ·exact K81.same_tup (by omega) λd hd=>by obtain⟨x,_,hx⟩:=l2 d hd;exact QH hn f _ d m hx (by omega)
abbrev dS (n:Nat) (ps:wo) (k:Nat) (d:Dv) (r:Ah) (x y z:Am):Ev:=[some (aQ n ps),some (.int k),some d,some (aT r),x,y,z]
abbrev QI:MS:=aW (cO (cD (bN (m1 (bG gL) (aA 2)))) (cO (mB (m2 bD (aA 2) (aK aC))) (cD (bN (m1 (bG uK) (m2 aN (aA 2) (mC (.int 0)))))))) (aM (mC (.bl false))) bE
abbrev GD:MS:=aW (mB (m2 bD (m2 aN (aA 2) (mC (.int 0))) (mC (.str "spread")))) (aM (cP (m2 bD (aF (f1 cF) (aB (aA 2) aC)) (mC (.int 3))) DP)) bE
abbrev QJ:MS:=aW (mB (m2 bD (m2 aN (aA 2) (mC (.int 0))) (mC (.str "far")))) (aM (cP (m2 bD (aF (f1 cF) (aB (aA 2) aC)) (mC (.int 3))) (aF F_q4 (aB (aA 0) (aB (aA 1) (aB (m2 aN (aA 2) (mC (.int 1))) (aB (m2 aN (aA 2) (mC (.int 2))) (aB (aA 3) aC)))))))) bE
abbrev QK:MS:=aW (cO (mB (m2 cJ (m2 aN (aA 2) (mC (.int 0))) (mC (.str "next")))) (cO (mB (m2 cJ (aF (f1 cF) (aB (aA 2) aC)) (mC (.int 2)))) (cD (bN (m1 (bG gL) (m2 aN (aA 2) (mC (.int 1)))))))) (aM (mC (.bl false))) bE
abbrev QL:MS:=aW (cO (mB (m2 bD (aA 4) (aS aC))) (mB (m2 cJ (aF (f1 cF) (aB (aA 4) aC)) (aF (f1 cF) (aB (m2 aN (aA 2) (mC (.int 1))) aC))))) (aM (mC (.bl false))) bE
abbrev lB (Fs:Ak):MS:=aW (cD (bN (aF Fs (aB (aA 0) (aB (aA 1) (aB (aA 5) (aB (m2 bO (aA 3) (aK (aB (aA 6) aC))) aC))))))) (aM (mC (.bl false))) bE
abbrev lM (Fs:Ak):MS:=cU (aR zipN (aB (m2 aN (aA 2) (mC (.int 1))) (aB (aA 4) aC))) (cH 2 (aY (aE 5) (aY (aE 6) cK))) (lB Fs)
theorem z5s (Fs:Ak):yV Fs=aH QI (aH GD (aH QJ (aH (aL (aF F_qd (aB (aA 0) (aB (aA 3) aC))) (aE 4)) (aH QK (aH QL (aH (lM Fs) (aM (mC (.bl true)))))))) ):=rfl
theorem QM {Fs:Ak}{xs:Ah}{ds:Al}{i:Nat}(hr:r.length<=100) (hl:ds.length=xs.length) (hF:∀(m:Nat) (h1:m<xs.length) (h2:m<ds.length) (H:Hs),∃H',Fs [aQ n ps,.int k,ds[m],aT (r++[xs[m]])] H=.ok (.bl true) H'/\Fr [] H H'):
  ∀(f m:Nat) (y z:Am) (H:Hs),f+m=xs.length->getL H i=some (xs.map Fc)->∃y' z' H',eJ (oO ds i (xs.map Fc).length) (cH 2 (aY (aE 5) (aY (aE 6) cK))) (lB Fs) f m (dS n ps k d r (some (.ref i)) y z) H=.nx (dS n ps k d r (some (.ref i)) y' z') H'/\Fr [] H H'
 |0,m,y,z,H,_,g=>⟨y,z,H,by unfold eJ;simp[oO,mT,g],Fh⟩
 |f+1,m,y,z,H,h,g=>by
  have h1:m<xs.length:=by omega
  have h2:m<ds.length:=by omega
  obtain⟨H1,e1,f1'⟩:=hF m h1 h2 H;have hz:(ds.zip (xs.map Fc))[m]?=some (ds[m],.int xs[m]):=by rw[jw];exact⟨by simp[h2],by simp[h1]⟩
  have hg:(oO ds i (xs.map Fc).length).get m H=some (.tup [ds[m],.int xs[m]]):=by simp[oO,mT,g,hz]
  have ec:=AB (F:=Fs) (ρ:=dS n ps k d r (some (.ref i)) (some ds[m]) (some (.int xs[m]))) (ma:=aA 0) (mb:=aA 1) (mc:=aA 5) rfl rfl rfl (K04.add_one (i:=3) (j:=6) hr rfl rfl) e1;have wb:lB Fs (dS n ps k d r (some (.ref i)) (some ds[m]) (some (.int xs[m]))) H=.nx (dS n ps k d r (some (.ref i)) (some ds[m]) (some (.int xs[m]))) H1:=(iO (sL (b:=true) (pY ec))).trans rfl;obtain⟨y',z',H',e2,f2⟩:=QM hr hl hF f (m+1) (some ds[m]) (some (.int xs[m])) H1 (by omega) (f1'.getL g (by simp));refine⟨y',z',H', ?_,f1'.trans f2 (by simp)⟩;rw[<-e2];exact rS hg rfl wb
theorem QN (o:A' n ps):∀(f j:Nat) (r:Ah) (d:Dv) (H:Hs),r∈cS n ps j->j<=n->f<=8->cY n ps k f r=some d->∃H',F_qm f [aQ n ps,.int k,d,aT r] H=.ok (.bl true) H'/\Fr [] H H'
 |0,j,r,d,H,_,_,_,h=>by cases h
 |f+1,j,r,d,H,hr,hj,hf,h=>by
  have n6:=o.n6;have hpm:=hr;rw[K04.rws_eq o]at hpm;obtain⟨hlen,nd,rg⟩:=K04.prm_mem j r (gb.mp hpm).1;have ne:=λH=>z5q (H:=H) h hf;have e0:F_qm (f+1) [aQ n ps,.int k,d,aT r] H=bJ (yV (F_qm f) (dS n ps k d r none none none) H):=rfl;rw[e0,z5s];have first:∀(s:Str) (ds:Al),d=.tup ds->m2 aN (aA 2) (mC (.int 0)) (dS n ps k d r none none none) H=.ok (.str s) H->QI (dS n ps k d r none none none) H=.nx (dS n ps k d r none none none) H:=λs ds hd hx=>by refine(iO ?_).trans rfl;rw[oR (show cD (bN (m1 (bG gL) (aA 2))) (dS n ps k d r none none none) H=.ok false H by rw[hd];rfl),oR (jC (eR (ma:=aA 2) (mb:=aK aC) rfl rfl (ne H)))];generalize m2 aN (aA 2) (mC (.int 0))=M at hx;simp[cD,bN,m1,hx,bG,gW,uK,fT]
  rcases GC h with⟨q,e,hd⟩|⟨c,ds,e,hd⟩
  ·obtain⟨a0,a1,b0,b1,ha,hb,hls,hx⟩:=P9 nd rg e;obtain⟨H1,e1,f1'⟩:=z5o (n:=n) (ps:=ps) (r:=r) (H:=H) (k:=k) n6 a0 a1 b0 b1 ha hb hls hx;refine⟨H1, ?_,f1'⟩;rw[bH (first _ _ hd (by rw[hd];rfl))];subst hd;rw[bH (show GD (dS n ps k (.tup [.str "far",.int q.1,.int q.2]) r none none none) H=.nx (dS n ps k (.tup [.str "far",.int q.1,.int q.2]) r none none none) H from rfl)];have c2:mB (m2 bD (m2 aN (aA 2) (mC (.int 0))) (mC (.str "far"))) (dS n ps k (.tup [.str "far",.int q.1,.int q.2]) r none none none) H=.ok true H:=rfl;have c3:m2 bD (aF (f1 cF) (aB (aA 2) aC)) (mC (.int 3)) (dS n ps k (.tup [.str "far",.int q.1,.int q.2]) r none none none) H=.ok (.bl true) H:=rfl;have e2:aF F_q4 (aB (aA 0) (aB (aA 1) (aB (m2 aN (aA 2) (mC (.int 1))) (aB (m2 aN (aA 2) (mC (.int 2))) (aB (aA 3) aC))))) (dS n ps k (.tup [.str "far",.int q.1,.int q.2]) r none none none) H=.ok (.bl true) H1:=by have x1:m2 aN (aA 2) (mC (.int 1)) (dS n ps k (.tup [.str "far",.int q.1,.int q.2]) r none none none) H=.ok (.int q.1) H:=rfl;have x2:m2 aN (aA 2) (mC (.int 2)) (dS n ps k (.tup [.str "far",.int q.1,.int q.2]) r none none none) H=.ok (.int q.2) H:=rfl;generalize m2 aN (aA 2) (mC (.int 1))=M1 at x1;generalize m2 aN (aA 2) (mC (.int 2))=M2 at x2;generalize F_q4=F at e1;simp[aF,aB,aA,x1,x2,aC,e1]
   refine GA ((pO c2).trans ?_);unfold aM;rw[GB c3,e2];rfl
  ·obtain⟨l1,l2⟩:=F5 e;obtain⟨i,H1,e1,g1,f1'⟩:=z5k (r:=r) (H:=H) o;have hne:=K06.may_ne o hr (by omega);have hm6:(cG n ps r).length<=6:=by have:(cG n ps r).length<=(bS n).length:=ie _ _;simp[bS]at this;omega
   rw[bH (first _ _ hd (by rw[hd];rfl))];subst hd;rw[bH (show GD (dS n ps k (.tup [.str "next",.tup ds]) r none none none) H=.nx (dS n ps k (.tup [.str "next",.tup ds]) r none none none) H from rfl),bH (show QJ (dS n ps k (.tup [.str "next",.tup ds]) r none none none) H=.nx (dS n ps k (.tup [.str "next",.tup ds]) r none none none) H from rfl)];have w4:aL (aF F_qd (aB (aA 0) (aB (aA 3) aC))) (aE 4) (dS n ps k (.tup [.str "next",.tup ds]) r none none none) H=.nx (dS n ps k (.tup [.str "next",.tup ds]) r (some (.ref i)) none none) H1:=qX (kU (F:=F_qd) rfl rfl e1) rfl;rw[bH w4,bH (show QK (dS n ps k (.tup [.str "next",.tup ds]) r (some (.ref i)) none none) H1=.nx (dS n ps k (.tup [.str "next",.tup ds]) r (some (.ref i)) none none) H1 from rfl)];have g1n:getL (H1++[Fd []]) H1.length=some (([]:Ah).map Fc):=last_get;have q6:=L2.Mr.eq_ints (iX (l:=[Fd []]) g1) g1n;rw[decide_eq_false hne]at q6;have t6:mB (m2 bD (aA 4) (aS aC)) (dS n ps k (.tup [.str "next",.tup ds]) r (some (.ref i)) none none) H1=.ok false (H1++[Fd []]):=jC (eR (ma:=aA 4) (mb:=aS aC) rfl rfl q6);have f6:Fr [] H1 (H1++[Fd []]):=Fe;have g6:=iX (l:=[Fd []]) g1;generalize H1++[Fd []]=H2 at t6 f6 g6;have e6:aF (f1 cF) (aB (aA 4) aC) (dS n ps k (.tup [.str "next",.tup ds]) r (some (.ref i)) none none) H2=.ok (.int (cG n ps r).length) H2:=by simp[aF,aB,aA,aC,f1,cF,gD,iL,fV,g6]
   have e7:aF (f1 cF) (aB (m2 aN (aA 2) (mC (.int 1))) aC) (dS n ps k (.tup [.str "next",.tup ds]) r (some (.ref i)) none none) H2=.ok (.int (cG n ps r).length) H2:=by rw[<-l1];exact pX (F:=f1 cF) (m:=m2 aN (aA 2) (mC (.int 1))) (a:=.tup ds) rfl (by simp[f1,cF,gD,iL,fV])
   have w6:QL (dS n ps k (.tup [.str "next",.tup ds]) r (some (.ref i)) none none) H1=.nx (dS n ps k (.tup [.str "next",.tup ds]) r (some (.ref i)) none none) H2:=by refine(iO ?_).trans rfl;rw[oR t6];generalize ((cG n ps r).length:Int)=z at e6 e7;exact jC (eR e6 e7 (by simp[cJ,bY,bQ,bI]))
   rw[bH w6];have hs:aR zipN (aB (m2 aN (aA 2) (mC (.int 1))) (aB (aA 4) aC)) (dS n ps k (.tup [.str "next",.tup ds]) r (some (.ref i)) none none) H2=.ok (oO ds i ((cG n ps r).map Fc).length) H2:=by have x1:m2 aN (aA 2) (mC (.int 1)) (dS n ps k (.tup [.str "next",.tup ds]) r (some (.ref i)) none none) H2=.ok (.tup ds) H2:=rfl;generalize m2 aN (aA 2) (mC (.int 1))=M at x1;simp[aR,aB,x1,aA,aC,zipN,g6]
   have hn':(oO ds i ((cG n ps r).map Fc).length).n=(cG n ps r).length:=by simp[oO,l1]
   obtain⟨y',z',H3,e3,f3⟩:=QM (n:=n) (ps:=ps) (k:=k) (d:=.tup [.str "next",.tup ds]) (r:=r) (Fs:=F_qm f) (xs:=cG n ps r) (ds:=ds) (i:=i) (by omega) l1 (λm h1 h2 H=>QN o f (j+1) _ _ H (Cg.mpr ⟨hr,cj h1⟩) (by omega) (by omega) (l2 m h1 h2)) (cG n ps r).length 0 none none H2 (by omega) g6;refine⟨H3, ?_,(f1'.trans f6 (by simp)).trans f3 (by simp)⟩;rw[bH ((pN hs).trans (by rw[hn'];exact e3))];rfl
end
open L2.Mr.Cod (last_get addL gO)
open L2.Mr.K04 (aT cS)
open L2.Mr.K06 (lV pX)
open L2.Mr.K82 (sT vW kU)
open L2.Mr.K10 (sU oD)
def rq (a b c:Nat):Al:=[.bl (a==c),.bl (a+1==c),.bl (a+2==c)].take b
def Bm:M Al :=(aB (m1 (bG (eS none tbl0)) (aA 1)) (aB (m1 (bG (eS none tbl1)) (aA 1)) (aB (m1 (bG (eS none tbl2)) (aA 1)) aC)))
def Dj:M Al :=(aB (m1 (bG (eS none tbl3)) (aA 1)) (aB (m1 (bG (eS none tbl4)) (aA 1)) (aB (m1 (bG (eS none tbl5)) (aA 1)) aC)))
def rs3:M Al :=(aB (m1 (bG (eS none tbl6)) (aA 1)) (aB (m1 (bG (eS none tbl7)) (aA 1)) (aB (m1 (bG (eS none tbl8)) (aA 1)) aC)))
def pZ:M Al :=(aB (m1 (bG (eS none tbl9)) (aA 1)) (aB (m1 (bG (eS none tbl10)) (aA 1)) aC))
def AE:M Al :=bT (aR cQ (aB (mC (.int 11)) aC)) [none,some 3] (aE 0) (bN (m2 aN (aA 1) (aA 0))) (bM (aA 0))
def QO:MS:=aW (cD (bN (m1 (bG (eS none tblV)) (aA 1)))) (aM (mC .non)) bE
theorem z5t:kR=aH (aL (aS Bm) (aE 3)) (aH (aL (m2 bO (aA 3) (aS Dj)) (aE 3)) (aH (aL (m2 bO (aA 3) (aS rs3)) (aE 3)) (aH (aL (m2 bO (aA 3) (aS pZ)) (aE 3)) (aH QO (aM (bU AE)))))):=rfl
section
variable{c:Nat}(hc:c=0∨c=1) {H:Hs}{x0 x2 x3:Am}
include hc
theorem z5u:aS Bm [x0,some (.exc c),x2,x3] H=.ok (.ref H.length) (H++[.lst (rq 0 3 c)]):=by rcases hc with rfl|rfl <;> rfl
theorem z5v:aS Dj [x0,some (.exc c),x2,x3] H=.ok (.ref H.length) (H++[.lst (rq 3 3 c)]):=by rcases hc with rfl|rfl <;> rfl
theorem z5w:aS rs3 [x0,some (.exc c),x2,x3] H=.ok (.ref H.length) (H++[.lst (rq 6 3 c)]):=by rcases hc with rfl|rfl <;> rfl
theorem z5x:aS pZ [x0,some (.exc c),x2,x3] H=.ok (.ref H.length) (H++[.lst (rq 9 2 c)]):=by rcases hc with rfl|rfl <;> rfl
theorem z5y:QO [x0,some (.exc c),x2,x3] H=.nx [x0,some (.exc c),x2,x3] H:=by rcases hc with rfl|rfl <;> rfl
theorem z5z {i:Nat}(e:getL H i=some ((bp 11).map λk=>Fy (k==c))):AE [x0,some (.exc c),x2,some (.ref i)] H=.ok [.int c] H:=by
 have h:AE [x0,some (.exc c),x2,some (.ref i)] H=.ok ((bp 11).filterMap λk=>if k==c then some (.int k)else none) H:=
  iG (bp 11) (λk=>if k==c then some (.int (k:Nat))else none) (λρ=>∃a,ρ=[a,some (.ref i)]) (src:=cT 0 11) rfl rfl ⟨_,rfl⟩ rfl (λk hk ρ ⟨a,e'⟩=>by
   subst e';have Dy:k<11:=by simpa using hk
   refine⟨.int (0+k),[some (.int (0+k)),some (.ref i)],rfl,rfl,⟨_,rfl⟩, ?_⟩;have ht:=gO (H:=H) (j:=k) e (by simpa using Dy);rw[List.getElem_map,List.getElem_range]at ht;have h0:(0+(k:Int))=(k:Int):=by omega
   rw[h0,List.getElem_range]
   cases q:k==c with
   |true=>simp[bN,m2,aA,ht,q,fT]
   |false=>simp[bN,m2,aA,ht,q,fT]) (by simp)
 rw[h]
 rcases hc with rfl|rfl <;> rfl
theorem z60:∃i H',uC 4 11 kR (.ex c H)=.ok (.ref i) H'/\getL H' i=some [.int c]/\Fr [] H H':=by
 obtain⟨H1,hH1⟩:∃H1,H1=H++[Fd (rq 0 3 c)]:=⟨_,rfl⟩
 have g1:getL H1 H.length=some (rq 0 3 c):=by rw[hH1];exact last_get
 have f1:Fr [] H H1:=by rw[hH1];exact Fe
 have w1:∀x0 x2 x3,aL (aS Bm) (aE 3) [x0,some (.exc c),x2,x3] H=.nx [x0,some (.exc c),x2,some (.ref H.length)] H1:=λx0 x2 x3=>by unfold aL;rw[z5u hc,hH1];rfl
 have step:∀(G0:Hs) (i:Nat) (xs ys:Al) (m:M Al ),getL G0 i=some xs->(∀x0 x2 x3 (G:Hs),aS m [x0,some (.exc c),x2,x3] G=.ok (.ref G.length) (G++[.lst ys]))->xs.length+ys.length<=500->
   ∃G' j,(∀x0 x2,aL (m2 bO (aA 3) (aS m)) (aE 3) [x0,some (.exc c),x2,some (.ref i)] G0=.nx [x0,some (.exc c),x2,some (.ref j)] G')/\getL G' j=some (xs++ys)/\Fr [] G0 G':=by
  intro G0 i xs ys m e hm hl;refine⟨_,_,λx0 x2=>?_,last_get (H:=G0++[.lst ys]) (x:=xs++ys),Ga (T:=[]) Fe Fe (by simp)⟩;have a:=addL (H:=G0++[.lst ys]) (iX e) (last_get (H:=G0) (x:=ys)) hl;unfold aL;rw[FN rfl (hm _ _ _ _) a];rfl
 obtain⟨H2,i2,w2,g2,f2⟩:=step H1 H.length (rq 0 3 c) (rq 3 3 c) Dj g1 (λ_ _ _ _=>z5v hc) (by simp[rq]);obtain⟨H3,i3,w3,g3,f3⟩:=step H2 i2 _ (rq 6 3 c) rs3 g2 (λ_ _ _ _=>z5w hc) (by simp[rq]);obtain⟨H4,i4,w4,g4,f4⟩:=step H3 i3 _ (rq 9 2 c) pZ g3 (λ_ _ _ _=>z5x hc) (by simp[rq]);have g5':getL H4 i4=some ((bp 11).map λk=>Fy (k==c)):=by rw[g4];rfl
 refine⟨H4.length,H4++[.lst [.int c]], ?_,last_get,((f1.trans f2 (by simp)).trans f3 (by simp)).trans (T:=[]) (f4.trans (T:=[]) Fe (by simp)) (by simp)⟩;have hlt:c<11:=by omega
 show(if c<11 then uB (kR (pL 4 (.exc c)) H)else .bad)=_;rw[if_pos hlt,z5t];show uB (aH _ _ [none,some (.exc c),none,none] H)=_;rw[bH (w1 _ _ _),bH (w2 _ _),bH (w3 _ _),bH (w4 _ _),bH (z5y hc)];have hr:bU AE [none,some (.exc c),none,some (.ref i4)] H4=.ok (.ref H4.length) (H4++[.lst [.int c]]):=by unfold bU;rw[z5z hc g5'];rfl
 unfold aM;rw[hr];rfl
theorem QP {caps:Ai}{vs:Al}{me:M Dv}{ρ:Ev}{H0:Hs}(hρ:nZ caps ρ=some vs) (hm:me (vs.map some) H0=.ex c H) (f0:Fr [] H0 H):
  ∃H',mB (m2 cJ (mO caps 4 11 kR me) (aS (aB (mC (.int c)) aC))) ρ H0=.ok false H'/\Fr [] H0 H':=by
 obtain⟨i,H1,e1,g1,f1⟩:=z60 hc (H:=H);refine⟨H1++[.lst [.int c]], ?_,f0.trans (f1.trans (T:=[]) Fe (by simp)) (by simp)⟩;have a:mO caps 4 11 kR me ρ H0=.ok (.ref i) H1:=by unfold mO;rw[hρ];show uC 4 11 kR (me (vs.map some) H0)=_;rw[hm,e1]
 have b:aS (aB (mC (.int c)) aC) ρ H1=.ok (.ref H1.length) (H1++[.lst [.int c]]):=rfl;have d:cJ (.ref i) (.ref H1.length) (H1++[.lst [.int c]])=.ok (.bl false) (H1++[.lst [.int c]]):=by have q1:=iX (l:=[.lst [.int c]]) g1;have q2:=last_get (H:=H1) (x:=[.int c]);simp[cJ,bY,bQ,q1,q2,bF,bI,fS]
 unfold mB m2;rw[a,Rs.bind_ok,b,Rs.bind_ok,d];rfl
end
def nmL:Al:=[.int (-1),.int 6,.bl true,.non,.str "1",.tup [.int 1]]
theorem QQ {H:Hs}:∀y∈nmL,T0 H y/\oQ 0 5 y=false:=by refine gr.mpr ⟨⟨trivial,rfl⟩,gr.mpr ⟨⟨trivial,rfl⟩,gr.mpr ⟨⟨trivial,rfl⟩,gr.mpr ⟨⟨trivial,rfl⟩,gr.mpr ⟨⟨trivial,rfl⟩,gr.mpr ⟨⟨trivial,rfl⟩,qd _⟩⟩⟩⟩⟩⟩
abbrev GF:M Al :=aB (m1 lJ (mC (.int 1))) (aB (mC (.int 6)) (aB (mC (.bl true)) (aB (mC .non) (aB (mC (.str "1")) (aB (aK (aB (mC (.int 1)) aC)) aC)))))
theorem z61 {st:Nat}{H:Hs}{ρ:Ev}(s:Com.St st H) (h2:aA 2 ρ=λH=>.ok (.ref st) H):∃y H',m2 aN (aS GF) (aF F_qy (aB (aA 2) (aB (mC (.int 6)) aC))) ρ H=.ok y H'/\(∀H,T0 H y)/\oQ 0 5 y=false/\Com.St st H'/\Fr [st] H H':=by
 have e1:aS GF ρ H=.ok (.ref H.length) (H++[.lst nmL]):=rfl;have lt:=s.lt;have f1':Fr [] H (H++[Fd nmL]):=Fe;have g1:getL (H++[Fd nmL]) H.length=some nmL:=last_get;generalize hk:H.length=kk at e1 g1 lt;generalize H++[Fd nmL]=H1 at e1 f1' g1;obtain⟨r,H2,r0,r1,t2,f2,s2⟩:=mY 6 (s.fr f1' (by simp));have g2:=f2.getL g1 (by simp;omega);obtain⟨j,rfl⟩:∃j:Nat,r=j:=⟨r.toNat,by omega⟩
 have hj:j<nmL.length:=by simp[nmL];omega
 refine⟨nmL[j],H2,eR e1 (show aF F_qy (aB (aA 2) (aB (mC (.int 6)) aC)) ρ H1=.ok (.int j) H2 by simp[aF,aB,h2,mC,aC,t2]) (gO g2 hj),λH=>(QQ _ (cj hj)).1,(QQ (H:=H2) _ (cj hj)).2,s2,(f1'.mono (T:=[st]) (by simp)).trans f2 (by simp)⟩
section
variable{n k:Nat}{ps:wo}{H:Hs}{d y:Dv}{a:Int}
theorem z62 (h:T0 H y) (hb:oQ 0 5 y=false):F_qg [y,.int 0,.int 5] H=.ex 1 H:=by have e:=E9 (lo:=0) (hi:=5) h;rw[hb]at e;simp[F_qg,DQ,aV,bX,aW,cD,bN,aF,aB,aA,aC,e,fT,xK,iK,bJ]
theorem z63 {lo hi:Int}(h1:lo<=a) (h2:a<=hi):F_qg [.int a,.int lo,.int hi] H=.ok .non H:=by have e:=zQ (x:=a) (lo:=lo) (hi:=hi) (H:=H);rw[decide_eq_true h1,decide_eq_true h2]at e;simp[F_qg,DQ,aV,bX,aW,cD,bN,aF,aB,aA,aC,e,fT,bE,bJ]
abbrev GG:MS:=cX (aF F_qg (aB (aA 1) (aB (mC (.int 0)) (aB (mC (.int 5)) aC))))
theorem z64 {F:Ak}{x:Dv}(q:F [y,.int 0,.int 5] H=.ok .non H):cX (aF F (aB (aA 1) (aB (mC (.int 0)) (aB (mC (.int 5)) aC)))) [some x,some y] H=.nx [some x,some y] H:=by simp[cX,aF,aB,aA,mC,aC,q]
theorem z65 {F:Ak}{x:Dv}{c:Nat}(q:F [y,.int 0,.int 5] H=.ex c H):cX (aF F (aB (aA 1) (aB (mC (.int 0)) (aB (mC (.int 5)) aC)))) [some x,some y] H=.ex c H:=by simp[cX,aF,aB,aA,mC,aC,q]
theorem GH:F_qa [d,y] H=bJ (aH (cX (aF F_qs (aB (aA 0) aC))) GG [some d,some y] H):=rfl
theorem z66 (o:A' n ps) (h1:0<=a) (h2:a<=5):F_qa [aQ n ps,.int a] H=.ok .non H:=by rw[GH,bH (sT (F:=F_qs) rfl (need_ok o)),show GG _ H=_ from z64 (z63 h1 h2)];rfl
theorem z67 (o:A' n ps) (h:T0 H y) (hb:oQ 0 5 y=false):F_qa [aQ n ps,y] H=.ex 1 H:=by rw[GH,bH (sT (F:=F_qs) rfl (need_ok o)),show GG _ H=_ from z65 (z62 h hb)];rfl
theorem need_bad (h:TK 3 H d) (hb:hX d=false):F_qs [d] H=.ex 0 H:=Cod.need_bad h hb
theorem z68 (h:TK 3 H d) (hb:hX d=false):F_qa [d,y] H=.ex 0 H:=by have e:=need_bad h hb;rw[GH];generalize F_qs=F at e;simp[aH,cX,aF,aB,aA,aC,e,bJ]
theorem QR:F_q3 [d,y] H=bJ (aH (cX (aF F_qa (aB (aA 0) (aB (aA 1) aC)))) (aM (aF (F_qt 8) (aB (aA 0) (aB (aA 1) (aB (aK aC) aC))))) [some d,some y] H):=rfl
theorem QS (o:A' n ps) (hk:k<=5):∃H',F_q3 [aQ n ps,.int k] H=.ok (oD (cY n ps k 8 [])) H'/\Fr [] H H':=by
 have n6:=o.n6;obtain⟨H1,e1,f⟩:=sp_ok (k:=k) o 8 0 [] H (by simp[cS]) (by omega) (by omega);refine⟨H1, ?_,f⟩;rw[QR,bH (vW (F:=F_qa) rfl rfl (z66 o (by omega) (by omega)))];have e2:aF (F_qt 8) (aB (aA 0) (aB (aA 1) (aB (aK aC) aC))) [some (aQ n ps),some (.int k)] H=.ok (oD (cY n ps k 8 [])) H1:=by have e1':F_qt 8 [aQ n ps,.int k,.tup []] H=.ok (oD (cY n ps k 8 [])) H1:=e1;generalize F_qt 8=F at e1';simp[aF,aB,aA,aK,aC,lim,e1']
 unfold aM;rw[e2];rfl
theorem QT {c:Nat}(e:F_qa [d,y] H=.ex c H):F_q3 [d,y] H=.ex c H:=by rw[QR];generalize F_qa=F at e;simp[aH,cX,aF,aB,aA,aC,e,bJ]
theorem QU {F:Ak}{c:Nat}(e:F [d,y] H=.ex c H):aF F (aB (aA 0) (aB (aA 1) aC)) ([d,y].map some) H=.ex c H:=by simp[aF,aB,aA,aC,e]
end
open L2.Mr.Cod (last_get gO loose Ba)
open L2.Mr.K04 (aT nL nM cS zX)
open L2.Mr.K05 (gE eZ iZ)
open L2.Mr.K06 (lV pX vV lU sR P0 F1 PZ)
open L2.Mr.K82 (kU)
open L2.Mr.K10 (sU AB pY jC vY AA oD vZ wB)
section
variable{n k st:Nat}{ps:wo}{H:Hs}{ρ:Ev}{x:Int}
abbrev rF:MS:=aM (mC (.bl false))
theorem v {i:Nat}{d:Dv}(h:At ρ i d):aA i ρ H=.ok d H:=by rw[h.v]
theorem z69 (o:A' n ps):kC n ps<=5:=by
 obtain⟨r,hr,e⟩:=F3 o;have n6:=o.n6;rw[<-e];refine PQ (by omega) λq hq=>?_;obtain⟨q0,q1,q2,_⟩:=Ba.mp hq;have a:=iZ (hr.mem (x:=q.1) q0 (by omega));have b:=iZ (hr.mem (x:=q.2) (by omega) q2);rw[hr.len]at a b;unfold eZ
 split <;> omega
theorem z6a:F_qx=K05.F_qx:=rfl
theorem lspan_ok {r:Ah}(o:A' n ps) (hm:∀x:Int,0<=x->x<n->x∈r):∃H',F_qx [aQ n ps,aT r] H=.ok (.int (gE n ps r)) H'/\Fr [] H H':=by rw[z6a];exact K05.lspan_ok o hm
theorem lrows_ok (o:A' n ps):∃i H',F_qv [aQ n ps] H=.ok (.ref i) H'/\getL H' i=some ((cS n ps n).map aT)/\Fr [] H H':=K04.lrows_ok o
abbrev qY:M Al :=bT (bK cB (aF F_qv (aB (aA 3) aC))) [none,some 3] (aE 0) eK (bM (aF F_qx (aB (aA 1) (aB (aA 0) aC))))
theorem z6b (o:A' n ps) (a3:At ρ 3 (aQ n ps)):∃H',qY ρ H=.ok ((lU n ps).map Fc) H'/\Fr [] H H':=by
 have hl:=zX o (aj n);have hf:=λr (h:r∈cS n ps n)=>F1 o h;obtain⟨i,H1,e1,g,f1'⟩:=lrows_ok (H:=H) o;have es:=PZ (F:=F_qv) (x:=3) a3.v e1 g;unfold lU;generalize cS n ps n=R at g hl hf es;obtain⟨ρ',H3,h,_,f3⟩:=vG (mi:=bK cB (aF F_qv (aB (aA 3) aC))) (cap:=[none,some 3]) (src:=cA i (R.map aT).length) (sg:=aE 0) (t:=eK) (m:=bM (aF F_qx (aB (aA 1) (aB (aA 0) aC)))) (ρ:=ρ) (H:=H) (H1:=H1) R (λr=>[.int (gE n ps r)]) (λρ Hx=>(∃a,ρ=[a,some (aQ n ps)])/\Fr [] H1 Hx) es (by simp[cA]) ⟨⟨none,by simp[jS,show ρ[3]?=some (some (aQ n ps)) from a3]⟩,Fh⟩ (λρ Hx s=>by have gx:=s.2.getL g (by simp);simp[cA,gx])
  (λk hk ρ Hx ⟨⟨a,e⟩,f⟩=>by subst e;have gx:=f.getL g (by simp);obtain⟨Hy,ey,fy⟩:=lspan_ok (r:=R[k]) (H:=Hx) o (hf _ (cj hk));refine⟨aT R[k],[some (aT R[k]),some (aQ n ps)],by simp[cA,gx,hk],rfl,.inr ⟨Hx,rfl,λacc hl=>⟨_,Hy,vH (kU (F:=F_qx) (x:=1) (y:=0) rfl rfl ey) hl,⟨_,rfl⟩,f.trans fy (by simp)⟩⟩⟩) (by rw[vV,bc];omega)
 rw[vV]at h;exact⟨H3,by rw[jo];exact h,f1'.trans f3 (by simp)⟩
abbrev s4:MS:=aL (aF (f1 (jX oE)) (aB (bU qY) aC)) (aE 4)
theorem z6c (o:A' n ps) (a3:At ρ 3 (aQ n ps)):∃H',s4 ρ H=.nx (ρ.set 4 (some (.int (kC n ps)))) H'/\Fr [] H H':=by obtain⟨H1,e1,f⟩:=z6b (H:=H) o a3;have g:getL (H1++[Fd ((lU n ps).map Fc)]) H1.length=some ((lU n ps).map Fc):=last_get;exact⟨_,sQ (pX (nL e1) (P0 g (sR o))),f.trans (T:=[]) Fe (by simp)⟩
theorem z6d (o:A' n ps):fW false (oD (cY n ps k 8 [])) .non H=.ok (.bl (decide (kC n ps<=k))) H:=by
 have n6:=o.n6;have h:=z57 (k:=k) o (f:=8) (by omega)
 cases e:cY n ps k 8 []with
 |none=>rw[decide_eq_true (h.mp e)];rfl
 |some d=>
  have:¬ kC n ps<=k:=λz=>by rw[h.mpr z]at e;cases e
  rw[decide_eq_false this];obtain⟨ds,rfl⟩:=vZ e;rfl
theorem z6e {ma mb:M Dv}{c:Bool}{H1 H2:Hs}(h1:ma ρ H=.ok (.bl c) H1) (h2:mb ρ H1=.ok (.bl c) H2):mB (m2 cJ ma mb) ρ H=.ok false H2:=by
 have e:cJ (.bl c) (.bl c) H2=.ok (.bl false) H2:=by cases c <;> rfl
 exact jC (eR h1 h2 e)
theorem leV {ma mb:M Dv}{a b:Int}{H1 H2:Hs}(e1:ma ρ H=.ok (.int a) H1) (e2:mb ρ H1=.ok (.int b) H2):m2 fP ma mb ρ H=.ok (.bl (decide (a<=b))) H2:=eR e1 e2 rfl
theorem z6f (hn:n<=6):F_qw 20 [oD (cY n ps k 8 []),oD (cY n ps k 8 [])] H=.ok (.bl true) H:=by
 cases e:cY n ps k 8 []with
 |none=>exact z5r (m:=19)
 |some d=>exact QH hn 8 [] d 20 e (by decide)
abbrev iA:MS:=aW (cO (mB (m2 cJ (m2 (fW false) (aA 6) (mC .non)) (m2 fP (aA 4) (aA 5)))) (cD (bN (aF (F_qw 20) (aB (aF F_q3 (aB (aA 3) (aB (aA 5) aC))) (aB (aA 6) aC)))))) rF bE
abbrev iB:MS:=aW (eC (mB (m2 (fW true) (aA 6) (mC .non))) (cD (bN (aF (F_qm 8) (aB (aA 3) (aB (aA 5) (aB (aA 6) (aB (aK aC) aC)))))))) rF bE
abbrev sB:MS:=aH (aL (aF F_q3 (aB (aA 3) (aB (aA 5) aC))) (aE 6)) (aH iA iB)
structure Kn (n:Nat) (ps:wo) (st:Nat) (ρ:Ev):Prop where
 L:ρ.length=9
 a0:At ρ 0 .scr
 a2:At ρ 2 (.ref st)
 a3:At ρ 3 (aQ n ps)
 a4:At ρ 4 (.int (kC n ps))
theorem Kn.set (K:Kn n ps st ρ) {i:Nat}{y:Am}(h:5<=i):Kn n ps st (ρ.set i y):=⟨by simp[K.L],K.a0.o (by omega),K.a2.o (by omega),K.a3.o (by omega),K.a4.o (by omega)⟩
theorem GI {F:Ak}{ma mb:M Dv}{a b w:Dv}{H1 H2 H':Hs}(ha:ma ρ H=.ok a H1) (hb:mb ρ H1=.ok b H2) (e:F [a,b] H2=.ok w H'):aF F (aB ma (aB mb aC)) ρ H=.ok w H':=by simp[aF,aB,ha,hb,aC,e]
theorem z6g (o:A' n ps) (hk:k<=5) (K:Kn n ps st ρ) (a5:At ρ 5 (.int (k:Int))):∃ρ' H',sB ρ H=.nx ρ' H'/\Kn n ps st ρ'/\Fr [] H H':=by
 have n6:=o.n6;obtain⟨H1,e1,f1'⟩:=QS (H:=H) (k:=k) o hk;have w1:=sQ (i:=6) (kU (F:=F_q3) K.a3.v a5.v e1);have K6:Kn n ps st (ρ.set 6 (some (oD (cY n ps k 8 [])))):=K.set (by omega);have b5:At (ρ.set 6 (some (oD (cY n ps k 8 [])))) 5 (.int (k:Int)):=a5.o;have b6:At (ρ.set 6 (some (oD (cY n ps k 8 [])))) 6 (oD (cY n ps k 8 [])):=.new (by rw[K.L];decide);generalize ρ.set 6 (some (oD (cY n ps k 8 [])))=ρ6 at w1 K6 b5 b6;obtain⟨H2,e2,f2⟩:=QS (H:=H1) (k:=k) o hk;have t2:aF (F_qw 20) (aB (aF F_q3 (aB (aA 3) (aB (aA 5) aC))) (aB (aA 6) aC)) ρ6 H1=.ok (.bl true) H2:=GI (F:=F_qw 20) (kU (F:=F_q3) K6.a3.v b5.v e2) (v b6) (z6f n6);have wA:iA ρ6 H1=.nx ρ6 H2:=by refine(iO ?_).trans rfl;rw[oR (z6e (eR (ma:=aA 6) (mb:=mC .non) (v b6) rfl (z6d o)) (leV (v K6.a4) (v b5)))];exact sL (b:=true) (pY t2)
 have fA:Fr [] H H2:=f1'.trans f2 (by simp)
 cases e:cY n ps k 8 []with
 |none=>rw[e]at b6;have t3:mB (m2 (fW true) (aA 6) (mC .non)) ρ6 H2=.ok false H2:=jC (eR (ma:=aA 6) (mb:=mC .non) (v b6) rfl rfl);refine⟨ρ6,H2, ?_,K6,fA⟩;show aH _ (aH iA iB) ρ H=_;rw[bH w1,bH wA];exact(iO (AA t3)).trans rfl
 |some d=>
  obtain⟨ds,hd⟩:=vZ e;rw[e]at b6;obtain⟨H3,e3,f3⟩:=QN (k:=k) o 8 0 [] d H2 (by simp[cS]) (by omega) (by omega) e;have t3:mB (m2 (fW true) (aA 6) (mC .non)) ρ6 H2=.ok true H2:=by refine jC (eR (ma:=aA 6) (mb:=mC .non) (v b6) rfl ?_);rw[hd];rfl
  have e4:=AB (F:=F_qm 8) (ρ:=ρ6) (H:=H2) (ma:=aA 3) (mb:=aA 5) (mc:=aA 6) (md:=aK aC) (v K6.a3) (v b5) (v b6) (d:=.tup []) (H4:=H2) rfl e3;refine⟨ρ6,H3, ?_,K6,fA.trans f3 (by simp)⟩;show aH _ (aH iA iB) ρ H=_;rw[bH w1,bH wA];exact(iO ((vY t3).trans (sL (b:=true) (pY e4)))).trans rfl
theorem QV (o:A' n ps) {i:Nat}{ks:Ai}(h5:∀k∈ks,k<=5):∀(f m:Nat) (ρ:Ev) (H:Hs),f+m=ks.length->getL H i=some (ks.map λk:Nat=>Fc (k:Int))->Kn n ps st ρ->∃ρ' H',eJ (cA i (ks.map λk:Nat=>Fc (k:Int)).length) (aE 5) sB f m ρ H=.nx ρ' H'/\Kn n ps st ρ'/\Fr [] H H'
 |0,m,ρ,H,_,g,K=>⟨ρ,H,by unfold eJ;simp[cA,g],K,Fh⟩
 |f+1,m,ρ,H,h,g,K=>by
  have hm:m<ks.length:=by omega
  have hg:(cA i (ks.map λk:Nat=>Fc (k:Int)).length).get m H=some (.int (ks[m]:Int)):=by simp[cA,g,hm]
  obtain⟨ρ1,H1,hb,K1,f1'⟩:=z6g (H:=H) (k:=ks[m]) (ρ:=ρ.set 5 (some (.int (ks[m]:Int)))) o (h5 _ (cj hm)) (K.set (by omega)) (.new (by rw[K.L];decide));obtain⟨ρ',H',e,K',f2⟩:=QV o h5 f (m+1) ρ1 H1 (by omega) (f1'.getL g (by simp)) K1;refine⟨ρ',H', ?_,K',f1'.trans f2 (by simp)⟩;rw[<-e];exact rS hg rfl hb
abbrev GJ (j:Int):M Dv:=aF iD (aB (mC (.int 0)) (aB (m2 eI (aA 4) (mC (.int j))) aC))
theorem QW {L j:Int}(a4:At ρ 4 (.int L)) (h5:L<=5) (hj:0<=j):∃k:Nat,GJ j ρ H=.ok (.int (k:Int)) H/\k<=5:=by
 have e:=GI (F:=iD) (ρ:=ρ) (H:=H) (ma:=mC (.int 0)) rfl (wB (mb:=mC (.int j)) (v a4) rfl) rfl
 by_cases c:L - j>0
 ·exact⟨(L - j).toNat,e.trans (by rw[if_pos c];congr 2;omega),by omega⟩
 ·exact⟨0,e.trans (by rw[if_neg c];rfl),by omega⟩
theorem z6h {m1 m2 m3 m4:M Dv}{a b c d:Dv}{H1:Hs}(e1:m1 ρ H=.ok a H) (e2:m2 ρ H=.ok b H) (e3:m3 ρ H=.ok c H) (e4:m4 ρ H=.ok d H1):aS (aB m1 (aB m2 (aB m3 (aB m4 aC)))) ρ H=.ok (.ref H1.length) (H1++[.lst [a,b,c,d]]):=by simp[aS,aB,e1,e2,e3,e4,aC,lim]
abbrev GK:M Al :=aB (GJ 1) (aB (GJ 2) (aB (aA 4) (aB (aF F_qy (aB (aA 2) (aB (mC (.int 6)) aC))) aC)))
theorem z6i (o:A' n ps) (K:Kn n ps st ρ) (s:Com.St st H):∃(ks:Ai) (i:Nat) (H':Hs),bK cB (aS GK) ρ H=.ok (cA i (ks.map λk:Nat=>Fc (k:Int)).length) H'/\getL H' i=some (ks.map λk:Nat=>Fc (k:Int))/\(∀k∈ks,k<=5)/\Com.St st H'/\Fr [st] H H':=by
 have l0:=z50 o;have l5:=z69 o;obtain⟨k1,e1,h1⟩:=QW (H:=H) (j:=1) K.a4 l5 (by decide);obtain⟨k2,e2,h2⟩:=QW (H:=H) (j:=2) K.a4 l5 (by decide);obtain⟨k3,h3,e3⟩:∃k3:Nat,k3<=5/\kC n ps=(k3:Int):=⟨(kC n ps).toNat,by omega,by omega⟩
 obtain⟨r,H1,r0,r1,e4,f,s1⟩:=mY 6 s;obtain⟨k4,rfl⟩:∃k4:Nat,r=k4:=⟨r.toNat,by omega⟩
 have a4:=K.a4;rw[e3]at a4;have e5:aF F_qy (aB (aA 2) (aB (mC (.int 6)) aC)) ρ H=.ok (.int (k4:Int)) H1:=by simp[aF,aB,K.a2.v,mC,aC,e4]
 have e6:aS GK ρ H=.ok (.ref H1.length) (H1++[.lst ([k1,k2,k3,k4].map λk:Nat=>Fc (k:Int))]):=by exact z6h e1 e2 (v a4) e5
 have g:getL (H1++[Fd ([k1,k2,k3,k4].map λk:Nat=>Fc (k:Int))]) H1.length=some ([k1,k2,k3,k4].map λk:Nat=>Fc (k:Int)):=last_get;have f2:Fr [] H1 (H1++[Fd ([k1,k2,k3,k4].map λk:Nat=>Fc (k:Int))]):=Fe;refine⟨[k1,k2,k3,k4],H1.length,_, ?_,g, ?_,s1.fr f2 (by simp),f.trans f2 (by simp)⟩
 ·unfold bK;rw[e6];show cB (.ref H1.length) _=_;simp only[cB,g]
 ·intro k hk;simp only[ba,wk,or_false]at hk
  rcases hk with rfl|rfl|rfl|rfl <;> omega
abbrev r1:MS:=aW (mB (m2 cJ (mO [3,7] 4 11 kR yW) (aS (aB (mC (.int 1)) aC)))) rF bE
abbrev r2:MS:=aW (mB (m2 cJ (mO [8,7] 4 11 kR yX) (aS (aB (mC (.int 0)) aC)))) rF bE
theorem z6j (scr:Ah):yY scr=aH (aL (aF (F_qn scr) (aB (aA 0) (aB (aA 1) aC))) (aE 2)) (aH (aL (aF F_ql (aB (aA 2) (aB (mC (.int 6)) aC))) (aE 3)) (aH s4 (aH (cU (bK cB (aS GK)) (aE 5) sB) (aH (aL (m2 aN (aS GF) (aF F_qy (aB (aA 2) (aB (mC (.int 6)) aC)))) (aE 7)) (aH (aL (aF F_qb (aB (aA 2) aC)) (aE 8)) (aH r1 r2)))))):=rfl
theorem E2 (scr:Ah) (k:Nat) (hL:ρ.length=9) (a0:At ρ 0 .scr) (a1:At ρ 1 (.int k)):∃ρ' H',yY scr ρ H=.nx ρ' H'/\ρ'.length=9/\At ρ' 0 .scr:=by
 obtain⟨H1,h1,f1',s1⟩:=z3b scr k H;obtain⟨n,ps,H2,h2,o,s2,f2⟩:=nI s1;have w1:=sQ (i:=2) (kU (F:=F_qn scr) a0.v a1.v h1);have b0:At (ρ.set 2 (some (.ref H.length))) 0 .scr:=a0.o;have b2:At (ρ.set 2 (some (.ref H.length))) 2 (.ref H.length):=.new (by omega);have bL:(ρ.set 2 (some (.ref H.length))).length=9:=by simp[hL]
 rw[z6j,bH w1];generalize H.length=st at *;generalize ρ.set 2 (some (.ref st))=ρ1 at b0 b2 bL;have w2:=sQ (i:=3) (GI (F:=F_ql) (mb:=mC (.int 6)) (v (H:=H1) b2) rfl h2);have c0:At (ρ1.set 3 (some (aQ n ps))) 0 .scr:=b0.o;have c2:At (ρ1.set 3 (some (aQ n ps))) 2 (.ref st):=b2.o;have c3:At (ρ1.set 3 (some (aQ n ps))) 3 (aQ n ps):=.new (by omega);have cL:(ρ1.set 3 (some (aQ n ps))).length=9:=by simp[bL]
 rw[bH w2];generalize ρ1.set 3 (some (aQ n ps))=ρ2 at c0 c2 c3 cL;obtain⟨H3,w3,f3⟩:=z6c (H:=H2) o c3;have K:Kn n ps st (ρ2.set 4 (some (.int (kC n ps)))):=⟨by simp[cL],c0.o,c2.o,c3.o,.new (by omega)⟩
 rw[bH w3];generalize ρ2.set 4 (some (.int (kC n ps)))=ρ3 at K;have s3:=s2.fr f3 (by simp);obtain⟨ks,i,H4,e4,g4,h5,s4',f4⟩:=z6i o K s3;obtain⟨ρ4,H5,e5,K5,f5⟩:=QV o h5 ks.length 0 ρ3 H4 (by omega) g4 K;have hn:(cA i (ks.map λk:Nat=>Fc (k:Int)).length).n=ks.length:=by simp[cA]
 rw[bH ((pN e4).trans (by rw[hn];exact e5))];have s5:=s4'.fr f5 (by simp);obtain⟨y,H6,e6,ty, zby,s6,f6⟩:=z61 s5 K5.a2.v;rw[bH (sQ (i:=7) e6)];have K7:Kn n ps st (ρ4.set 7 (some y)):=K5.set (by omega);have a7:At (ρ4.set 7 (some y)) 7 y:=.new (by rw[K5.L];decide);generalize ρ4.set 7 (some y)=ρ5 at K7 a7;obtain⟨d,H7,e7,td,bd,s7,f7⟩:=K05.bad_no s6;rw[bH (sQ (i:=8) (lV (F:=F_qb) K7.a2.v e7))];have K8:Kn n ps st (ρ5.set 8 (some d)):=K7.set (by omega);have b7:At (ρ5.set 8 (some d)) 7 y:=a7.o;have b8:At (ρ5.set 8 (some d)) 8 d:=.new (by rw[K7.L];decide);generalize ρ5.set 8 (some d)=ρ6 at K8 b7 b8;obtain⟨H8,e8,f8⟩:=QP (c:=1) (.inr rfl) (caps:=[3,7]) (me:=yW) (ρ:=ρ6) (H0:=H7) (H:=H7) (vs:=[aQ n ps,y]) (by simp[nZ,show ρ6[3]?=some (some (aQ n ps)) from K8.a3,show ρ6[7]?=some (some y) from b7]) (QU (F:=F_q3) (QT (z67 o (ty _) zby))) Fh;obtain⟨H9,e9,f9⟩:=QP (c:=0) (.inl rfl) (caps:=[8,7]) (me:=yX) (ρ:=ρ6) (H0:=H8) (H:=H8) (vs:=[d,y]) (by simp[nZ,show ρ6[8]?=some (some d) from b8,show ρ6[7]?=some (some y) from b7]) (QU (F:=F_q3) (QT (z68 (td.fr0 f8) bd))) Fh;refine⟨ρ6,H9, ?_,K8.L,K8.a0⟩;rw[bH (show r1 ρ6 H7=.nx ρ6 H8 from(iO e8).trans rfl)];exact(iO e9).trans rfl
end
theorem loop (scr:Ah) (m:Int):∀(f k:Nat) (ρ:Ev) (H:Hs),ρ.length=9->At ρ 0 .scr->∃ρ' H',eJ (cT 0 m) (aE 1) (yY scr) f k ρ H=.nx ρ' H'
 |0,k,ρ,H,_,_=>⟨_,H,rfl⟩
 |f+1,k,ρ,H,hL,a0=>by obtain⟨ρ1,H1,h,l1,b0⟩:=E2 (H:=H) (ρ:=ρ.set 1 (some (.int k))) scr k (by simp[hL]) a0.o (.new (by omega));obtain⟨ρ',H2,h2⟩:=loop scr m f (k+1) ρ1 H1 l1 b0;refine⟨ρ',H2, ?_⟩;rw[<-h2];exact rS (d:=.int k) (by simp[cT]) rfl h
theorem z6k (scr:Ah):∃hh,F_qB scr [.scr] []=.ok (.bl true) hh:=by
 have hi:∃m:Int,aR cQ (aB (aF iD (aB (mC (.int 1)) (aB (aF mH (aB (aF (f1 (iL scr)) (aB (aA 0) aC)) (aB (mC (.int 3)) aC))) aC))) aC) [some .scr,none,none,none,none,none,none,none,none] []=.ok (cT 0 m) []:=by
  generalize hz:(if(3:Int)<scr.length then(3:Int)else scr.length)=z;have z0:0<=z:=by split at hz <;> omega
  have z1:z<=3:=by split at hz <;> omega
  generalize hm:(if z>(1:Int)then z else 1)=m;have m0:1<=m:=by split at hm <;> omega
  have m1':m<=3:=by split at hm <;> omega
  have hr:lE m=true:=by simp[lE];omega
  refine⟨m, ?_⟩;have e1:mH [.int scr.length,.int 3] []=.ok (.int z) []:=by rw[<-hz];rfl
  have e2:iD [.int 1,.int z] []=.ok (.int m) []:=by rw[<-hm];rfl
  simp[aR,aB,aF,mC,aA,aC,f1,iL,fV,e1,e2,cQ,hr]
 obtain⟨m,hi⟩:=hi;obtain⟨ρ',H',h⟩:=loop scr m (cT 0 m).n 0 [some .scr,none,none,none,none,none,none,none,none] [] rfl rfl;refine⟨H', ?_⟩;show bJ (yZ scr [some .scr,none,none,none,none,none,none,none,none] [])=_;unfold yZ N5;rw[bH ((pN hi).trans h)];rfl
open PySem.Calls PySem.W
theorem mk_of {l:OpenLaw}{w:cm}{K:Frag}{h:cu}{mg:Str->Option af}{fa:ah}(hob:ob K=obE) (hnt:noTabs K=true) (X:K.In h) (G:h.Ns dg mg) (hfa:mg "law" = some (.ref fa)):
  ∃(fd:bo) (c P:ah),(∀(s:ag) (u:af),yt s fd ⟨[u],[]⟩ [("_law_script",u)])/\tabIn K "law" = some (c,P)/\noTabs K=true /\
   ∀(base:cu) (a:ah) (ns:Ah),ns.length<=63->K.In base->base.Ns dg mg->CodeHd base c P->mM mg base->Lawful l.prog w K mg base 24 fa fd "_law_script" P a ns:=by
 have hc:obF.all (λf=>f K)=true:=congrArg dy hob;have hf:AG K=AH:=congrArg qj hob;have e:=hfa.symm.trans (mg_of X G (v:=.ref 393) (dB hc 35));cases e;refine(λ(z:∀R:Prop,(_->R)->R)=>z _ id) λR hR=>?_;obtain⟨g0,U0,B0,C0,D0⟩:=dD hf hc 166 DS "is_whole" 165 ["thing"] 0 65 101 λ_ _ _ _ _ _=>jV λ_=>rfl;obtain⟨g1,U1,B1,C1,D1⟩:=dD hf hc 173 DT "is_between" 172 ["thing","low","high"] 1 66 102 λ_ _ _ _ _ _=>rO λ_ _ _=>rfl;obtain⟨g2,U2,B2,C2,D2⟩:=dD hf hc 180 DU "need_between" 179 ["thing","low","high"] 2 67 103 λ_ _ _ _ _ _=>rO λ_ _ _=>rfl;obtain⟨g3,U3,B3,C3,D3⟩:=dD hf hc 185 zA "is_rising" 184 ["parts"] 3 68 104 λ_ _ _ _ _ _=>jV λ_=>rfl;obtain⟨g4,U4,B4,C4,D4⟩:=dD hf hc 192 DV "is_thing" 191 ["many","thing"] 4 69 105 λ_ _ _ _ _ _=>iW λ_ _=>rfl;obtain⟨g5,U5,B5,C5,D5⟩:=dD hf hc 197 zB "are_things" 196 ["many","thing"] 5 70 106 λ_ _ _ _ _ _=>iW λ_ _=>rfl;obtain⟨g6,U6,B6,C6,D6⟩:=dD hf hc 204 DW "is_pair" 203 ["many","thing"] 6 71 107 λ_ _ _ _ _ _=>iW λ_ _=>rfl;obtain⟨g7,U7,B7,C7,D7⟩:=dD hf hc 209 zC "are_pairs" 208 ["many","things"] 7 72 108 λ_ _ _ _ _ _=>iW λ_ _=>rfl;obtain⟨g8,U8,B8,C8,D8⟩:=dD hf hc 214 zD "has_alike" 213 ["pairs"] 8 73 109 λ_ _ _ _ _ _=>jV λ_=>rfl;obtain⟨g9,U9,B9,C9,D9⟩:=dD hf hc 219 zE "is_complete" 218 ["pairs"] 9 74 110 λ_ _ _ _ _ _=>jV λ_=>rfl;obtain⟨g10,U10,B10,C10,D10⟩:=dD hf hc 226 DX "is_order" 225 ["thing"] 10 75 111 λ_ _ _ _ _ _=>jV λ_=>rfl;obtain⟨g11,U11,B11,C11,D11⟩:=dD hf hc 233 DY "need_order" 232 ["order"] 11 76 112 λ_ _ _ _ _ _=>jV λ_=>rfl;obtain⟨g12,U12,B12,C12,D12⟩:=dD hf hc 240 DZ "are_loose" 239 ["order","one","other"] 12 77 113 λ_ _ _ _ _ _=>rO λ_ _ _=>rfl;obtain⟨g13,U13,B13,C13,D13⟩:=dD hf hc 245 vC "may_come" 244 ["order","begun"] 13 78 114 λ_ _ _ _ _ _=>iW λ_ _=>rfl;obtain⟨g14,U14,B14,C14,D14⟩:=dD hf hc 252 EA "need_order_and_span" 251 ["order","k"] 14 79 115 λ_ _ _ _ _ _=>iW λ_ _=>rfl;obtain⟨g15,U15,B15,C15,D15⟩:=dD hf hc 259 EC "some_far" 258 ["order","k","begun"] 15 80 116 λ_ _ _ _ _ _=>rO λ_ _ _=>rfl;obtain⟨g16,U16,B16,C16,D16⟩:=dD hf hc 266 ED "some_paper" 265 ["order","k","begun"] 16 81 117 λ_ _ _ _ _ _=>rO λ_ _ _=>rfl;obtain⟨g17,U17,B17,C17,D17⟩:=dD hf hc 273 EE "paper_for" 272 ["order","k"] 17 82 118 λ_ _ _ _ _ _=>iW λ_ _=>rfl;obtain⟨g18,U18,B18,C18,D18⟩:=dD hf hc 280 EF "_law_cell_at" 279 ["_law_script","_law_k"] 18 83 119 λ_ _ _ _ _ _=>iW λ_ _=>rfl;obtain⟨g19,U19,B19,C19,D19⟩:=dD hf hc 287 EG "_law_state" 286 ["_law_script","_law_k"] 19 84 120 λ_ _ _ _ _ _=>iW λ_ _=>rfl;obtain⟨g20,U20,B20,C20,D20⟩:=dD hf hc 294 EH "_law_take" 293 ["_law_state_here","_law_many"] 20 85 121 λ_ _ _ _ _ _=>iW λ_ _=>rfl;obtain⟨g21,U21,B21,C21,D21⟩:=dD hf hc 301 EI "_law_mixed_row" 300 ["_law_state_here","_law_things"] 21 86 122 λ_ _ _ _ _ _=>iW λ_ _=>rfl;obtain⟨g22,U22,B22,C22,D22⟩:=dD hf hc 306 zF "_law_closed" 305 ["_law_pairs"] 22 87 123 λ_ _ _ _ _ _=>jV λ_=>rfl;obtain⟨g23,U23,B23,C23,D23⟩:=dD hf hc 311 vD "_law_order" 310 ["_law_state_here","_law_most"] 23 88 124 λ_ _ _ _ _ _=>iW λ_ _=>rfl;obtain⟨g24,U24,B24,C24,D24⟩:=dD hf hc 316 vE "_law_rows" 315 ["_law_order_here"] 24 89 125 λ_ _ _ _ _ _=>jV λ_=>rfl;obtain⟨g25,U25,B25,C25,D25⟩:=dD hf hc 323 EJ "_law_loose" 322 ["_law_order_here"] 25 90 126 λ_ _ _ _ _ _=>jV λ_=>rfl;obtain⟨g26,U26,B26,C26,D26⟩:=dD hf hc 328 zG "_law_span" 327 ["_law_order_here","_law_row"] 26 91 127 λ_ _ _ _ _ _=>iW λ_ _=>rfl;obtain⟨g27,U27,B27,C27,D27⟩:=dD hf hc 335 EK "_law_whole" 334 ["_law_thing"] 27 92 128 λ_ _ _ _ _ _=>jV λ_=>rfl;obtain⟨g28,U28,B28,C28,D28⟩:=dD hf hc 340 vF "_law_may_come" 339 ["_law_order_here","_law_row"] 28 93 129 λ_ _ _ _ _ _=>iW λ_ _=>rfl;obtain⟨g29,U29,B29,C29,D29⟩:=dD hf hc 347 EL "_law_near" 346 ["_law_order_here","_law_a","_law_b"] 29 94 130 λ_ _ _ _ _ _=>rO λ_ _ _=>rfl;obtain⟨g30,U30,B30,C30,D30⟩:=dD hf hc 364 EM "_law_far" 363 Ap 30 95 131 λ_ _ _ _ _ _=>Y0 λ_ _ _ _ _=>rfl;obtain⟨g31,U31,B31,C31,D31⟩:=dD hf hc 371 EN "_law_shows" 370 Au 31 96 132 λ_ _ _ _ _ _=>YX λ_ _ _ _=>rfl;obtain⟨g32,U32,B32,C32,D32⟩:=dD hf hc 378 EO "_law_bad_order" 377 ["_law_state_here"] 32 97 133 λ_ _ _ _ _ _=>jV λ_=>rfl;obtain⟨g33,U33,B33,C33,D33⟩:=dD hf hc 383 zH "_law_same" 382 ["_law_found","_law_due"] 33 98 134 λ_ _ _ _ _ _=>iW λ_ _=>rfl;obtain⟨g34,U34,B34,C34,D34⟩:=dD hf hc 388 qT "_law_refused" 387 ["_law_call"] 34 99 135 λ_ _ _ _ _ _=>jV λ_=>rfl;obtain⟨g35,U35,B35,C35,D35⟩:=dD hf hc 393 rY "law" 392 ["_law_script"] 35 100 136 λ_ _ _ _ _ _=>jV λ_=>rfl;obtain⟨t_MOST_THINGS,c_MOST_THINGS⟩:=GN (n := "MOST_THINGS") (v:=6) (nO hc 137 rfl);obtain⟨t_MOST_APART,c_MOST_APART⟩:=GN (n := "MOST_APART") (v:=5) (nO hc 138 rfl);have ex_NoOrder:Cy K 37:=⟨dB hc 175,dB hc 176,dB hc 177,dB hc 178,dB hc 179,dB hc 180,GL (nO hc 181 rfl)⟩
 have ex_NoNumber:Cy K 49:=⟨dB hc 182,dB hc 183,dB hc 184,dB hc 185,dB hc 186,dB hc 187,GL (nO hc 188 rfl)⟩
 refine hR ⟨g35,392,390,λs v=>.of_eq (D35 [v] rfl),dB hc 139,hnt,λbase a ns hlen _ _ hC hB=>⟨?_⟩⟩;obtain⟨hh,hl⟩:=z6k ns;refine⟨{ K:=K,cl:=λc=>match c with|0=>37|1=>49|2=>61|3=>73|4=>85|5=>97|6=>109|7=>121|8=>133|9=>145|10=>157|_=>24,scr:=ns,sa:=a,tab:=some 390,lq:=(("law" : Str) ++ ".<locals>.") ++ "<lambda>" },F_qB ns,hh,rfl,rfl,rfl,rfl,hl, ?_⟩;refine z2t (A:=⟨166,g0,173,g1,180,g2,185,g3,192,g4,197,g5,204,g6,209,g7,214,g8,219,g9,226,g10,233,g11,240,g12,245,g13,252,g14,259,g15,266,g16,273,g17,280,g18,287,g19,294,g20,301,g21,306,g22,311,g23,316,g24,323,g25,328,g26,335,g27,340,g28,347,g29,364,g30,371,g31,378,g32,383,g33,388,g34,393,g35,37,49,61,73,85,97,109,121,133,145,157,t_MOST_THINGS,t_MOST_APART,24,392,390⟩) ?_ (λ_ _ _ _ _ _=>trivial) hC hB;exact⟨rfl,U0,B0,cE X G hc 0,U1,B1,cE X G hc 1,U2,B2,cE X G hc 2,U3,B3,cE X G hc 3,U4,B4,cE X G hc 4,U5,B5,cE X G hc 5,U6,B6,cE X G hc 6,U7,B7,cE X G hc 7,U8,B8,cE X G hc 8,U9,B9,cE X G hc 9,U10,B10,cE X G hc 10,U11,B11,cE X G hc 11,U12,B12,cE X G hc 12,U13,B13,cE X G hc 13,U14,B14,cE X G hc 14,U15,B15,cE X G hc 15,U16,B16,cE X G hc 16,U17,B17,cE X G hc 17,U18,B18,cE X G hc 18,U19,B19,cE X G hc 19,U20,B20,cE X G hc 20,U21,B21,cE X G hc 21,U22,B22,cE X G hc 22,U23,B23,cE X G hc 23,U24,B24,cE X G hc 24,U25,B25,cE X G hc 25,U26,B26,cE X G hc 26,U27,B27,cE X G hc 27,U28,B28,cE X G hc 28,U29,B29,cE X G hc 29,U30,B30,cE X G hc 30,U31,B31,cE X G hc 31,U32,B32,cE X G hc 32,U33,B33,cE X G hc 33,U34,B34,cE X G hc 34,U35,B35,cE X G hc 35,mg_none_of X G (dB hc 48),mg_none_of X G (dB hc 49),mg_none_of X G (dB hc 50),mg_none_of X G (dB hc 51),mg_none_of X G (dB hc 52),mg_none_of X G (dB hc 53),mg_none_of X G (dB hc 54),mg_none_of X G (dB hc 55),mg_none_of X G (dB hc 56),mg_none_of X G (dB hc 57),mg_none_of X G (dB hc 58),mg_none_of X G (dB hc 59),mg_none_of X G (dB hc 60),mg_none_of X G (dB hc 61),mg_none_of X G (dB hc 62),mg_none_of X G (dB hc 63),mg_none_of X G (dB hc 64),mg_of X G c_MOST_THINGS,mg_of X G c_MOST_APART,cE X G hc 36,cE X G hc 37,cE X G hc 38,cE X G hc 39,cE X G hc 40,cE X G hc 41,cE X G hc 42,cE X G hc 43,cE X G hc 44,cE X G hc 45,cE X G hc 46,dB hc 36,nO hc 140 rfl,rfl,dB hc 37,nO hc 141 rfl,rfl,fJ ⟨dB hc 189,ex_NoOrder⟩ (fJ ⟨dB hc 190,ex_NoNumber⟩ kL),fJ ⟨dB hc 153,ex_NoOrder⟩ (fJ ⟨dB hc 164,ex_NoNumber⟩ kL),fJ ⟨dB hc 154,ex_NoOrder⟩ (fJ ⟨dB hc 165,ex_NoNumber⟩ kL),fJ ⟨dB hc 155,ex_NoOrder⟩ (fJ ⟨dB hc 166,ex_NoNumber⟩ kL),fJ ⟨dB hc 156,ex_NoOrder⟩ (fJ ⟨dB hc 167,ex_NoNumber⟩ kL),fJ ⟨dB hc 157,ex_NoOrder⟩ (fJ ⟨dB hc 168,ex_NoNumber⟩ kL),fJ ⟨dB hc 158,ex_NoOrder⟩ (fJ ⟨dB hc 169,ex_NoNumber⟩ kL),fJ ⟨dB hc 159,ex_NoOrder⟩ (fJ ⟨dB hc 170,ex_NoNumber⟩ kL),fJ ⟨dB hc 160,ex_NoOrder⟩ (fJ ⟨dB hc 171,ex_NoNumber⟩ kL),fJ ⟨dB hc 161,ex_NoOrder⟩ (fJ ⟨dB hc 172,ex_NoNumber⟩ kL),fJ ⟨dB hc 162,ex_NoOrder⟩ (fJ ⟨dB hc 173,ex_NoNumber⟩ kL),fJ ⟨dB hc 163,ex_NoOrder⟩ (fJ ⟨dB hc 174,ex_NoNumber⟩ kL),cE X G hc 47,dB hc 191,dB hc 192,dB hc 193,lK (dB hc 142) (lK (dB hc 143) (lK (dB hc 144) (lK (dB hc 145) (lK (dB hc 146) (lK (dB hc 147) (lK (dB hc 148) (lK (dB hc 149) (lK (dB hc 150) (lK (dB hc 151) (lK (dB hc 152) YY)))))))))),rfl,rfl,C35⟩
end L2.Mr.K09
open PySem PySem.W PyProof.Rows
set_option maxRecDepth 100000 in
set_option maxHeartbeats 0 in
theorem PySem.Challenge.cw_nearorders_k09_papers_told_holds : PySem.Challenge.rw_nearorders_k09_papers_told.Holds := by
  w_on; o_law
  refine holds_open (XP := XL L2.Mr.K09.vw []) (YP := L2.Mr.Ys L2.Mr.K09.ob L2.Mr.K09.obE) L2.Mr.K09.left L2.Mr.ys_of L2.Mr.ys_keeps (fun s e => xl_of s (Bool.and_eq_true_iff.mp e).1) XL.keeps (by rfl) (by rfl) (by rfl) (fun s e => recFacts_of (Bool.and_eq_true_iff.mp e).2) (by rfl) (by first | assumption | decide +kernel) (by decide +kernel) ⟨rfl,rfl,rfl,rfl,rfl,by decide +kernel⟩ ?hw ?hc
  case hw => w_witness2
  case hc => exact L2.Mr.walkK2 (l := PySem.Challenge.rw_nearorders_k09_papers_told) (n := 63) (k := 24) (x := "_law_script") "law" rfl (by decide) rfl ⟨rfl,by decide,by decide⟩ ⟨_,rfl,rfl⟩ (fun K w mg fa h hob hnt X G hmg => L2.Mr.K09.mk_of hob hnt X G hmg)