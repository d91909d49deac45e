import PyProof.Rows.All
import Wide.All
import OpenK.AllK
import Wide.FinOn
import Lean
import PyProof.EqAt
import PyProof.EqKinds
import PyProof.TupleCall
import PyProof.NeKinds
import PyProof.StationsW
import PyProof.ExcClass3
import PyProof.ExcBaseAll.ValueError
import PyProof.ExcArgsOwn
import KE.KIsAll
import PyProof.ZipIter
import PyProof.RulesAs
import KE.KLam
import PyProof.NsDelKeeps
import PyProof.Rows.Range3
import PyProof.SumWalkG
import PyProof.EnumMake
import PyProof.EnumFor
import PyProof.WalkInts
import PyProof.Rows.SortWalk
import KE.KSortAsk
import PySem.SetOps
import KE.KSortTup
import PyProof.Rows.SetFrom
import PyProof.SetRoads
import PySem.Challenge.RW_nearorders_k60_rings_known
open Array renaming getElem?_eq_some_iff->du,getElem?_eq_getElem->gi,getElem?_setIfInBounds_self_of_lt->jd,getD->kj,getElem?_toList->kz,length_toList->mq,forIn_toList->qg,getElem?_eq_none->sr,perm_iff_toList_perm->yf,getElem?_replicate->Am,mem_toList_iff->By
open Bool renaming false_eq_true->bj,and_eq_true->cy,eq_iff_iff->fj,false_ne_true->jr,not_true->my,and_false->um,not_false->zf
open Classical renaming em->qt
open False renaming elim->gw
open ForInStep renaming yield->qw
open Function renaming comp->xr
open Int renaming toNat_natCast->fe,mul_le_mul_of_nonneg_right->pf
open List renaming getElem?_eq_getElem->ar,size_toArray->av,mem_cons_of_mem->ay,getElem?_eq_some_iff->az,mem_cons->ba,range->bf,mem_cons_self->bh,length_map->bo,mem_range->bp,mem_append->br,length_append->bw,mem_of_getElem?->bx,filterMap_cons->cb,mem_append_right->cj,mem_singleton->cw,mem_map->df,getElem?_map->di,getElem_mem->dj,getElem?_set_self->dk,length_cons->dv,map_cons->dw,getElem?_append_left->dy,getElem?_set_ne->fq,getElem?_append_right->gg,pairwise_cons->gj,all_eq_true->gk,pairwise_iff_getElem->gu,lookup_cons->iw,map_append->jb,forIn_cons->jg,getElem_of_mem->jh,length_take->jo,mem_filterMap->jt,mem_append_left->jw,length_range->jx,append_nil->kr,nodup_cons->ku,length_set->kv,mem_of_mem_drop->mf,mem_of_mem_take->mm,any_eq_true->mn,getElem?_zip_eq_some->mr,length_filterMap_le->mz,mem_filter->nh,getElem_range->nq,getD->nt,take_of_length_le->oi,take_succ_eq_append_getElem->oj,flatMap_cons->om,length_drop->pb,length_nil->pj,dropLast_concat_getLast->pq,map_map->qd,perm_ext_iff_of_nodup->qh,ext_getElem?->qu,reverse_cons->qv,map_take->rf,map_drop->rh,getElem?_replicate->rp,getElem?_cons_succ->sd,countP_cons->sf,nodup_range->sh,length_eq_zero_iff->si,not_mem_nil->sj,range_succ->uc,length_filter_le->uh,length->uk,mem_iff_getElem->ur,forall_mem_cons->uv,forall_mem_nil->vf,all_cons->vj,any_map->wj,pairwise_map->wk,append_assoc->wm,eraseIdx_eq_take_drop_succ->wz,ext_getElem->xf,of_mem_zip->xm,replicate->yi,nodup_iff_pairwise_ne->ze,length_eraseIdx_of_lt->zg,getElem?_take_of_lt->As,getLast_eq_getElem->Bf,range_succ_eq_map->Bi,getElem?_dropLast->Bl,drop_of_length_le->Bm,length_singleton->Bt,take_append_drop->Bx,getElem?_eq_none->Cb,getElem?_toArray->Cc
open List.Pairwise renaming imp_of_mem->vz,nil->yk
open List.Perm renaming append_left->zh
open List.cons renaming injEq->Cg
open Nat renaming le_refl->ak,lt_of_lt_of_le->au,ne_of_lt->bc,le_trans->dq,lt_irrefl->gp,le_of_lt->gq,zero_le->jc,ne_of_gt->jl,lt_or_ge->jm,lt_succ_of_lt->jy,lt_succ_self->kd,succ_ne_self->pd,le_of_eq->qe,le_add_right->sk,mul_le_mul->An,lt_asymm->Ca,succ_mul->Cd
open Ne renaming symm->cm
open Option renaming isSome_iff_exists->yj
open Option.some renaming inj->cx,injEq->Ao
open Prod renaming fst->fh,snd->qi
open PyProof.Rows renaming slot_tuple_getitem->de,callWith_type1->ic,IntsAre->oh,AllBare->sv,get?_update_seq->vc,listUpdate_at->xb,lt_int->xv,IsTup->Bn,boot_range->Bp,size_push'->Bz,tupleItemsOf_->Cn
open PyProof.Rows.IsTup renaming push->yh
open PySem renaming wpAny_bind->aa,Value->af,Shared->ag,wpAny_pure->ah,Addr->ai,starEach->aw,Program->bg,FuncData->bq,Expr->bu,Around->cg,sizeLine->ck,World->cn,Heap->cp,wpAny_callSpecial?_slot->da,wpAny_field->dg,wpAny_newObj_type->dm,bootBuiltins->dz,wpAny_call_entry->ed,mainGlobals->ff,wpAny_holding->fg,mem_of_lookup->fv,IsTupleKey->gm,wpAny_seqItems->gr,Stmt->gv,SetTable->ie,sizeLine_eq->ij,Scope->iu,wpAny_setField_rec->ja,wpAny_setState_of->jk,codeAny_builtin->jn,IsPair->ju,wpAny_truthy_bool->jz,wpAny_mono->ka,Comprehension->kg,Builtin->km,NameKind->kq,wpAny_Call_Name_kw->lg,wpAny_typeOf->lh,wpAny_passesOwn->lr,Arguments->lx,wpAny_attempt->md,codeAny_mono->ni,wpAny_askSetting->nj,wpAny_execs_nil->og,wpAny_pyIter_tuple->oq,wpAny_execs_cons->pw,codeAny_call_builtin->qf,pushCells_keeps->qo,wpAny_rule->rn,wpAny_pyIter_list->tj,wpAny_standAt->tu,IsPart->tw,wpAny_onRaise->ua,wpAny_forIn_list->ui,wpAny_isInstance->uj,IsZip->uy,wpAny_specialOf->uz,wpAny_updateSeq->ve,builtinLookup_eq_fast->vm,wpAny_updateSeq_pair->vv,wpAny_runValue->wd,TriplesOk->wg,wpAny_setEntries_of->wu,plainId_quiet->xa,wpAny_newList->xc,Result->xi,wpAny_sequenceKey->xw,boot_len->ye,PassesOwn->zi,noFill_tuple_add->zk,wpAny_pyIter_zip->Al,Model->Aq,wpAny_of_eq->Au,wpAny_letGo->Bb,typeLookup_type->Be,wpAny_call->Bq,wpAny_setField->Bu,wpAny_newTuple->Bv,isSubtype_stop->Bw,rangeSize_one->Cj,seq_tuple_add->Cm,evalPart_none->Co,wpAny_comprehension_free->Cp
open PySem.Around renaming under_plainId->iq,frames_deeper->Bh
open PySem.Builtin.Frozenset renaming updateFrom->ud
open PySem.Builtin.List renaming listExtendWith->jf,listSameRef->ll,listTouch->qj,listLengthHint->vn,listUpdate->wx,listItems->xh
open PySem.Builtin.Range renaming rangeSize->we
open PySem.Builtin.Slice renaming slicePlaces->fw,sliceAdjust->iz,sliceApplied->kh,sliceFields->vp
open PySem.Builtin.SmallTypes renaming nextOf->cq,ownedTupleIsFree->kn,stopIteration->qz
open PySem.Builtin.Tuple renaming tupleExact->fi
open PySem.Calls renaming Name_function_global->xu,evalArgs_plain->Bs,spliced_cons->Ck
open PySem.Challenge renaming pw_nearorders_k60_rings_known->ae
open PySem.Code renaming quiet_builtin->vq
open PySem.EntryCells renaming newEntry->Ak
open PySem.Expr renaming Call->uw
open PySem.F renaming args_tuple_add_2->qk,entry_tuple_add->qp,slot_tuple_add->rj,args_tuple_getitem_2->wy,entry_tuple_getitem->xg,excBase_ValueError->xk,plainAttrs_list->zd
open PySem.Heap renaming get?_push_of_some->aj,lt_size->ao,get?_push_size->ax,size_push->gh,SameBut->ig,get?_update_other->ji,get?_update_self->ow,get?_update_ne->qc,ExtBut->Cf
open PySem.Heap.IsSliceOf renaming new->xq
open PySem.Heap.SameBut renaming update->ou,refl->ph
open PySem.IsL renaming update->ql
open PySem.NameKind renaming free->cf,cell->ey
open PySem.Obj renaming mapSeq->gn,data_mapFields->vt,isFreed_of_fields->Ce
open PySem.PassesOwn renaming leaving->Bj
open PySem.SeqAt renaming EqAt->vh,RcAt->Cq
open PySem.SeqAt.EqAt renaming same->qr,int_str->ue,str_int->uf,int_int->ug,none_tuple->yb,bool_tuple->yd,none_bool->yo,none_list->yq,bool_none->yt,bool_bool->yv,bool_list->yx,int_tuple->yz,str_tuple->zc,none_int->zm,none_str->zq,bool_int->zt,bool_str->zv,int_none->zx,int_bool->Aa,int_list->Ac,str_none->Af,str_bool->Ah,str_list->Aj,str_str->Az,of_refs->Ba
open PySem.SeqAt.RcAt renaming none_tuple->ya,bool_tuple->yc,none_none->ym,none_bool->yn,none_list->yp,bool_none->yr,bool_bool->yu,bool_list->yw,int_tuple->yy,str_tuple->zb,none_int->zl,none_str->zo,bool_int->zr,bool_str->zu,int_none->zw,int_bool->zy,int_list->Ab,str_none->Ae,str_bool->Ag,str_list->Ai,int_int->Av,int_str->Aw,str_int->Ax,str_str->Ay
open PySem.SetTable renaming insertAt->je,turns->tm,below->tq,sizeAbove->Bk
open PySem.Shared renaming TypeIs->mw
open PySem.Str renaming ofString->ik
open PySem.Value renaming ref->dh,none->jq,type->nc,isInt_shape->nv,builtin->ux,int->Ap,bool->Ci
open PySem.W renaming Frag->aq,kitOne->cu,subIn->jv,kla_obj->ki,CodeHd->lj,keepIn->nr,envX->nu,fnOf->pg,kla_fn->pz,tabObj->ub,excIn->uq,methodObj->vg,nsIn->vk,codeIn->xj,kitCls->xl,cellsFrom_some->zj,hideAll_size->Bc,hideAll_none->Bd,hideAll_get->Bg,of_hideAll->Bo,callWith_K->Br
open PySem.Walks renaming list->Cr
open PySem.pickOrder renaming go->yg
open Sum renaming inl->wo,inr->wq
set_option Elab.async false
set_option linter.all false
set_option maxRecDepth 100000
set_option maxHeartbeats 4000000
namespace L2.Mr
open PySem PySem.Spec PySem.Calls PyProof.Rows PySem.W
def MZ (o:Obj):Bool:=match o.cls,o.data with
 | .none,.fields _=>false
 |_,_=>true
def lU (h:cp):List ai->Frag
 | []=>[]
 |a::as=>match h.get? a with
  |some o=>match MZ o with
   |true=>(a,o)::lU h as
   |false=>lU h as
  |none=>lU h as
def qJ (h:cp):Frag:=lU h (bf h.objs.size)
theorem tL (h:cp):∀as,(lU h as).In h
 | [],_,_,e=>nomatch e
 |a::as,b,o,e=>by
  unfold lU at e
  split at e
  ·rename_i o' q
   split at e
   ·rw[iw]at e
    cases z:b==a with
    |true=>rw[z]at e;cases e;rw[eq_of_beq z];exact q
    |false=>rw[z]at e;exact tL h as b o e
   ·exact tL h as b o e
  ·exact tL h as b o e
theorem tM (h:cp):∀as,noTabs (lU h as)=true
 | []=>rfl
 |a::as=>by
  unfold lU
  split
  ·split
   ·rename_i q;show(_&&_)=true;rw[cy];refine⟨?_,tM h as⟩;exact q
   ·exact tM h as
  ·exact tM h as
def bE (K:Frag) (f:ai):Option bq:=match K.lookup f with
 |some o=>match o.data with
  | .func fd=>some { fd with kwdefaults:=.none,doc:=.none,pyModule:=.none,annotations:=none,closureTuple:=.none }
  |_=>none
 |none=>none
theorem M1 {K:Frag}{f:ai}{n q:Str}{A:lx}{B:List gv}{S:iu}{dV cd:af}(h:bE K f=some (fnOf n q A B S dV .none .none .none none cd .none)):
  ∃(oc:af) (od:Option ai) (kV dc pm:af) (an:Option ai) (ct:af) (sl:Array (Option af)),K.lookup f=some ⟨oc,od,.func (fnOf n q A B S dV kV dc pm an cd ct),sl⟩:=by
 unfold bE at h
 split at h
 ·rename_i o e
  split at h
  ·rename_i fd q;obtain⟨oc,od,dt,sl⟩:=o;cases fd;simp only[Ao,FuncData.mk.injEq]at h;obtain⟨rfl,rfl,rfl,rfl,rfl,rfl,rfl,rfl,_,_,_,_,rfl,_,rfl⟩:=h;simp only at q;subst q;exact⟨_,_,_,_,_,_,_,_,e⟩
  ·cases h
 ·cases h
theorem aY {F:List (Frag->Bool)}{K:Frag}(h:F.all (λf=>f K)=true) (i:Nat) {f:Frag->Bool}(e:F[i]?=some f):f K=true:=gk.mp h f (bx e)
theorem cR {l m:List (Option bq)}(h:l=m) (i:Nat) {a b:Option bq}(e:l[i]?=some a) (e':m[i]?=some b):a=b:=by subst h;rw[e]at e';exact cx e'
def tN (K:Frag) (q:ai):Bool:=match K.lookup q with
 |some ⟨_,_,.cls _,_⟩=>true
 |_=>false
theorem EJ {K:Frag}{q:ai}(h:tN K q=true):∃lo ld lc ls,K.lookup q=some ⟨lo,ld,.cls lc,ls⟩:=by
 unfold tN at h
 split at h
 ·exact⟨_,_,_,_,by assumption⟩
 ·cases h
def yT (K:Frag) (n:Str) (v:Int):Bool:=match nsIn K ff n with
 |some (some (.int i _))=>i==v
 |_=>false
theorem M3 {K:Frag}{n:Str}{v:Int}(h:yT K n v=true):∃t,nsIn K ff n=some (some (.int v t)):=by
 unfold yT at h
 split at h
 ·rename_i i t e;rw[eq_of_beq h]at e;exact⟨t,e⟩
 ·cases h
theorem yU (p:bg) (w:cn) (N:Nat) {α:Type}(f:ag->α):(openEnds treeTable p w N).map f=(((Fast.tw10274390034422433532 Fast.tw14364793385576792824 (opening p) w N (PySem.start (opening p)).1 (PySem.start (opening p)).2).bind (Fast.tw14289696077712309145 p)).bind λs₀=>match s₀.heap.isNs ff&&s₀.gens.size==0 with
 |true=>(Fast.tw14082659384304107361 Fast.tw14364793385576792824 p w s₀.heap.objs.size (s₀.heap.nsMap ff "__annotations__") N s₀ (topStub p)).bind λs₁=>match staticsOk (importedModules p.main.body) s₀.heap s₁.heap&&namesBound p s₁.heap&&gensDone s₁&&laidKept s₀.heap s₁.heap with
   |true=>some s₁
   |false=>none
 |false=>none).map f:=by
 rw[<-Fast.te10274390034422433532,<-Fast.te14364793385576792824,<-Fast.te14289696077712309145,<-Fast.te14082659384304107361];rfl
abbrev EK:List af:=[.type "ValueError",.type "Exception",.type "BaseException",.type "object"]
def M4 (s:gv) (cd:ai):Option bq:=match s with
 | .FunctionDef n a b _ _ _ sc _ _ _=>some (fnOf n n a b sc .none .none .none .none none (.ref cd) .none)
 |_=>none
def fE (p:bg) (i:Nat) (cd:ai):Option bq:=M4 (p.main.body.getD i (.Pass ⟨0,0,0,0⟩)) cd
def nR (K:Frag) (n:Str) (a:ai):Bool:=decide (nsIn K ff n=some (some (.ref a)))
def nN (K:Frag) (n:Str):Bool:=decide (nsIn K ff n=some none)
def sI (K:Frag) (a b:af) (v:Bool):Bool:=decide (subIn K a b=some v)
def kI (K:Frag) (a b:ai) (v:Bool):Bool:=decide (kitOne K (.ref a) (.ref b)=some v)
theorem dA {F:List (Frag->Bool)}{K:Frag}(h:F.all (λf=>f K)=true) (i:Nat) {g:Frag->Prop}[∀K,Decidable (g K)] (e:F[i]?=some (λK=>decide (g K))):g K:=of_decide_eq_true (aY h i e)
end L2.Mr
namespace L2.Mr.K60
open PySem PySem.Spec PySem.Calls PySem.W PyProof.Rows L2.Mr
def vw:bg:={ ae with main:={ ae.main with body:=List.filterMap (λi=>ae.main.body[i]?) [1,2,3,4,5,6,7,8,9,10,11,12,13,14,15,17,18,19,20,22,23,24,25,26,27,28,29,30,31,33,34,35,36,37,39,40,41,42,43,44,45,46,47,48,49,50,51,52,53,54,55] } }
def Xw:ag->Bool:=λs=>xlAt vw [] s&&recOk (RowW.records (OpenRow.toRowW PySem.Challenge.rw_nearorders_k60_rings_known.row)) s
def obF:List (Frag->Bool):=[(nR · "is_whole" 202),(nR · "is_between" 209),(nR · "is_rising" 214),(nR · "rounded_up" 221),(nR · "is_thing" 228),(nR · "are_things" 233),(nR · "is_pair" 240),(nR · "are_pairs" 245),(nR · "has_alike" 250),(nR · "is_complete" 255),(nR · "is_order" 262),(nR · "need_order" 269),(nR · "are_loose" 276),(nR · "may_step" 283),(nR · "steps_of" 290),(nR · "is_ring" 295),(nR · "shown_by" 300),(nR · "ring_shows" 307),(nR · "_law_cell_at" 314),(nR · "_law_state" 321),(nR · "_law_take" 328),(nR · "_law_mixed" 335),(nR · "_law_closed" 342),(nR · "_law_order" 347),(nR · "_law_goes" 354),(nR · "_law_ring" 359),(nR · "_law_loose" 366),(nR · "_law_bent" 373),(nR · "_law_whole" 380),(nR · "_law_is_ring" 385),(nR · "_law_same" 390),(nR · "_law_ring_shows" 395),(nR · "_law_refused" 400),(nR · "_law_bad_order" 407),(nR · "law" 412),(nR · "NoOrder" 37),(nR · "NoNumber" 49),(nR · "NoPairs" 61),(nR · "Round" 73),(nR · "NoThing" 85),(nR · "NoRow" 97),(nR · "TooMany" 145),(nR · "TooFew" 157),(nR · "NoText" 169),(nR · "NoLine" 181),(nR · "NoDeed" 193),(nR · "NoSeating" 109),(nR · "NoRing" 121),(nR · "NoSizes" 133),(nR · "NearError" 24),(nN · "ValueError"),(nN · "all"),(nN · "any"),(nN · "bool"),(nN · "int"),(nN · "isinstance"),(nN · "len"),(nN · "list"),(nN · "max"),(nN · "min"),(nN · "range"),(nN · "set"),(nN · "sorted"),(nN · "tuple"),(nN · "zip"),(codeIn · (.ref 201) "is_whole"),(codeIn · (.ref 208) "is_between"),(codeIn · (.ref 213) "is_rising"),(codeIn · (.ref 220) "rounded_up"),(codeIn · (.ref 227) "is_thing"),(codeIn · (.ref 232) "are_things"),(codeIn · (.ref 239) "is_pair"),(codeIn · (.ref 244) "are_pairs"),(codeIn · (.ref 249) "has_alike"),(codeIn · (.ref 254) "is_complete"),(codeIn · (.ref 261) "is_order"),(codeIn · (.ref 268) "need_order"),(codeIn · (.ref 275) "are_loose"),(codeIn · (.ref 282) "may_step"),(codeIn · (.ref 289) "steps_of"),(codeIn · (.ref 294) "is_ring"),(codeIn · (.ref 299) "shown_by"),(codeIn · (.ref 306) "ring_shows"),(codeIn · (.ref 313) "_law_cell_at"),(codeIn · (.ref 320) "_law_state"),(codeIn · (.ref 327) "_law_take"),(codeIn · (.ref 334) "_law_mixed"),(codeIn · (.ref 341) "_law_closed"),(codeIn · (.ref 346) "_law_order"),(codeIn · (.ref 353) "_law_goes"),(codeIn · (.ref 358) "_law_ring"),(codeIn · (.ref 365) "_law_loose"),(codeIn · (.ref 372) "_law_bent"),(codeIn · (.ref 379) "_law_whole"),(codeIn · (.ref 384) "_law_is_ring"),(codeIn · (.ref 389) "_law_same"),(codeIn · (.ref 394) "_law_ring_shows"),(codeIn · (.ref 399) "_law_refused"),(codeIn · (.ref 406) "_law_bad_order"),(codeIn · (.ref 411) "law"),(keepIn · (.ref 202)),(keepIn · (.ref 209)),(keepIn · (.ref 214)),(keepIn · (.ref 221)),(keepIn · (.ref 228)),(keepIn · (.ref 233)),(keepIn · (.ref 240)),(keepIn · (.ref 245)),(keepIn · (.ref 250)),(keepIn · (.ref 255)),(keepIn · (.ref 262)),(keepIn · (.ref 269)),(keepIn · (.ref 276)),(keepIn · (.ref 283)),(keepIn · (.ref 290)),(keepIn · (.ref 295)),(keepIn · (.ref 300)),(keepIn · (.ref 307)),(keepIn · (.ref 314)),(keepIn · (.ref 321)),(keepIn · (.ref 328)),(keepIn · (.ref 335)),(keepIn · (.ref 342)),(keepIn · (.ref 347)),(keepIn · (.ref 354)),(keepIn · (.ref 359)),(keepIn · (.ref 366)),(keepIn · (.ref 373)),(keepIn · (.ref 380)),(keepIn · (.ref 385)),(keepIn · (.ref 390)),(keepIn · (.ref 395)),(keepIn · (.ref 400)),(keepIn · (.ref 407)),(keepIn · (.ref 412)),(yT · "MOST_THINGS" 6),λK=>decide (tabIn K "law" = some (411,409)),(sI · (.ref 37) (.ref 24) true),(sI · (.ref 49) (.ref 24) true),(sI · (.ref 61) (.ref 24) true),(sI · (.ref 73) (.ref 24) true),(sI · (.ref 85) (.ref 24) true),(sI · (.ref 97) (.ref 24) true),(sI · (.ref 145) (.ref 24) true),(sI · (.ref 157) (.ref 24) true),(sI · (.ref 169) (.ref 24) true),(sI · (.ref 181) (.ref 24) true),(sI · (.ref 193) (.ref 24) true),(sI · (.ref 109) (.ref 24) true),(sI · (.ref 121) (.ref 24) true),(sI · (.ref 133) (.ref 24) true),(kI · 37 37 true),(kI · 37 49 false),(kI · 37 61 false),(kI · 37 73 false),(kI · 37 85 false),(kI · 37 97 false),(kI · 37 145 false),(kI · 37 157 false),(kI · 37 169 false),(kI · 37 181 false),(kI · 37 193 false),(kI · 37 109 false),(kI · 37 121 false),(kI · 37 133 false),(kI · 121 37 false),(kI · 121 49 false),(kI · 121 61 false),(kI · 121 73 false),(kI · 121 85 false),(kI · 121 97 false),(kI · 121 145 false),(kI · 121 157 false),(kI · 121 169 false),(kI · 121 181 false),(kI · 121 193 false),(kI · 121 109 false),(kI · 121 121 true),(kI · 121 133 false),λK=>decide (findIn K (.ref 37) "__getattribute__" = some (some (.builtin "BaseException.__getattribute__"))),λK=>decide (findIn K (.ref 37) "__getattr__" = some none),λK=>decide (findIn K (.ref 37) "__class__" = some (some (.builtin "object.__class__"))),λK=>decide (mroIn K 37 (.type "object")=some true),(sI · (.ref 37) (.type "BaseException") true),λK=>decide (kitCls K (.ref 37) (.ref 37)=some true),(tN · 37),λK=>decide (findIn K (.ref 121) "__getattribute__" = some (some (.builtin "BaseException.__getattribute__"))),λK=>decide (findIn K (.ref 121) "__getattr__" = some none),λK=>decide (findIn K (.ref 121) "__class__" = some (some (.builtin "object.__class__"))),λK=>decide (mroIn K 121 (.type "object")=some true),(sI · (.ref 121) (.type "BaseException") true),λK=>decide (kitCls K (.ref 121) (.ref 121)=some true),(tN · 121),(excIn · 37 EK "ValueError.__new__"),(excIn · 121 EK "ValueError.__new__"),λK=>decide (kitOne K (.ref 37) (.type "ValueError")=some true),λK=>decide (kitOne K (.ref 121) (.type "ValueError")=some true),(sI · (.ref 24) (.type "BaseException") true),(sI · (.type "type") (.type "tuple") false),λK=>decide (kitCls K (.ref 24) (.ref 24)=some true)]
def yV (K:Frag):List (Option bq):=[bE K 202,bE K 209,bE K 214,bE K 221,bE K 228,bE K 233,bE K 240,bE K 245,bE K 250,bE K 255,bE K 262,bE K 269,bE K 276,bE K 283,bE K 290,bE K 295,bE K 300,bE K 307,bE K 314,bE K 321,bE K 328,bE K 335,bE K 342,bE K 347,bE K 354,bE K 359,bE K 366,bE K 373,bE K 380,bE K 385,bE K 390,bE K 395,bE K 400,bE K 407,bE K 412]
def yW:List (Option bq):=[fE ae 17 201,fE ae 18 208,fE ae 19 213,fE ae 20 220,fE ae 23 227,fE ae 24 232,fE ae 25 239,fE ae 26 244,fE ae 27 249,fE ae 28 254,fE ae 29 261,fE ae 30 268,fE ae 31 275,fE ae 33 282,fE ae 34 289,fE ae 35 294,fE ae 36 299,fE ae 37 306,fE ae 39 313,fE ae 40 320,fE ae 41 327,fE ae 42 334,fE ae 43 341,fE ae 44 346,fE ae 45 353,fE ae 46 358,fE ae 47 365,fE ae 48 372,fE ae 49 379,fE ae 50 384,fE ae 51 389,fE ae 52 394,fE ae 53 399,fE ae 54 406,fE ae 55 411]
def ob (K:Frag):Bool×List (Option bq):=(obF.all (λf=>f K),yV K)
abbrev obE:Bool×List (Option bq):=(true,yW)
theorem EL {α β γ:Type}{o:Option α}{f:α->β}{g:α->γ}{a:β}{b:γ}(h1:o.map f=some a) (h2:o.map g=some b):o.map (λs=>(f s,g s))=some (a,b):=by
 cases o with
 |none=>cases h1
 |some s=>cases h1;cases h2;rfl
theorem M5 (w:cn):(openEnds treeTable ae w 8000).map (λs=>openSeen vw [] (importedModules (ae).main.body) Xw true s)=some (openGood vw []):=by rw[yU,Fast.te4187177175401517315];kernel_rfl
theorem M6 (w:cn):(openEnds treeTable ae w 8000).map (λs=>obF.all (λf=>f (qJ s.heap)))=some true:=by rw[yU];kernel_rfl
theorem M7 (w:cn):(openEnds treeTable ae w 8000).map (λs=>yV (qJ s.heap))=some yW:=by rw[yU];kernel_rfl
theorem left:LeftO ae vw [] Xw (λs=>ob (qJ s.heap)) (λ_=>obE) 8000:=λw=>EL (M5 w) (EL (M6 w) (M7 w))
end L2.Mr.K60
namespace L2
open PySem PySem.Spec PyProof.Rows
abbrev gK:=Sum Int Str
def EM:gK->af->Bool
 | .inl k,v=>Value.isInt k v
 | .inr x,v=>Value.isStrOf x v
def M8 (w:cn):gK->Int
 | .inl k=>hashInt k
 | .inr x=>hashStr w x
theorem lC:∀{k:gK}{v:af},EM k v=true->(∃i t,k=wo i/\v=Ap i t)∨(∃x t,k=wq x/\v=Value.str x t)
 | .inl i,v,h=>by obtain⟨t,e⟩:=nv (k:=i) (v:=v) h;exact .inl ⟨i,t,rfl,e⟩
 | .inr x,v,h=>by obtain⟨t,e⟩:=Value.isStrOf_shape (x:=x) (v:=v) h;exact .inr ⟨x,t,rfl,e⟩
theorem M9 (a b:Int):decide ((wo a:gK)=wo b)=(a==b):=by
 by_cases e:a=b
 ·subst e;simp
 ·have h:¬ (wo a:gK)=wo b:=λq=>e (Sum.inl.inj q);rw[decide_eq_false h];exact(beq_eq_false_iff_ne.mpr e).symm
theorem NA (a b:Str):decide ((wq a:gK)=wq b)=decide (a=b):=by
 by_cases e:a=b
 ·subst e;simp
 ·have h:¬ (wq a:gK)=wq b:=λq=>e (Sum.inr.inj q);rw[decide_eq_false h,decide_eq_false e]
theorem NB (a:Int) (b:Str):decide ((wo a:gK)=wq b)=false:=decide_eq_false (λq=>nomatch q)
theorem NC (a:Str) (b:Int):decide ((wq a:gK)=wo b)=false:=decide_eq_false (λq=>nomatch q)
def yX (prog:bg) (w:cn):PySem.KeyKind prog w gK where
 is:=EM
 hash:=M8 w
 inj:=λv a b ha hb=>by
  rcases lC ha with⟨i,t,rfl,rfl⟩|⟨x,t,rfl,rfl⟩
  ·rcases lC hb with⟨j,u,rfl,e⟩|⟨y,u,rfl,e⟩
   ·injection e with e1 _;rw[e1]
   ·exact nomatch e
  ·rcases lC hb with⟨j,u,rfl,e⟩|⟨y,u,rfl,e⟩
   ·exact nomatch e
   ·injection e with e1 _;rw[e1]
 byValue:=λk v h=>by rcases lC h with⟨i,t,rfl,rfl⟩|⟨x,t,rfl,rfl⟩ <;> rfl
 pyHash:=λhv h=>by
  rcases lC hv with⟨i,t,rfl,rfl⟩|⟨x,t,rfl,rfl⟩
  ·exact wpAny_pyHash_int h
  ·exact wpAny_pyHash_str h
 eqBool:=λhu hv h=>by
  rcases lC hu with⟨i,t,rfl,rfl⟩|⟨x,t,rfl,rfl⟩
  ·rcases lC hv with⟨j,u,rfl,rfl⟩|⟨y,u,rfl,rfl⟩
   ·rw[M9]at h;exact wpAny_eqBool_int h
   ·rw[NB]at h;exact ue i t y u _ _ _ _ h
  ·rcases lC hv with⟨j,u,rfl,rfl⟩|⟨y,u,rfl,rfl⟩
   ·rw[NC]at h;exact uf x t j u _ _ _ _ h
   ·rw[NA]at h;exact wpAny_eqBool_str h
 «strs»:=λk x t v h=>by
  rcases lC h with⟨i,u,rfl,e⟩|⟨y,u,rfl,e⟩
  ·exact nomatch e
  ·injection e with e1 _;subst e1
   cases v <;> rfl
inductive V where
 |non|bl (b:Bool)|int (i:Int)|str (x:Str)|byt (b:Array UInt8)|flt (b:UInt64)|ref (a:ai)|ty (n:String)
 deriving DecidableEq
def RelV:V->af->Prop
 | .non,u=>u=jq
 | .bl b,u=>u=Ci b
 | .int i,u=>∃t,u=Ap i t
 | .str x,u=>∃t,u=Value.str x t
 | .byt b,u=>∃t,u=Value.bytes b t
 | .flt b,u=>∃t,u=Value.float b t
 | .ref a,u=>u=dh a
 | .ty n,u=>u=nc n
abbrev Vals:List V->List af->Prop:=Paired RelV
theorem Vals.length {xs:List V}{us:List af}(r:Vals xs us):xs.length=us.length:=Paired.length r
theorem Vals.get:∀{xs:List V}{us:List af}{i:Nat}{x:V},Vals xs us->xs[i]?=some x->∃u,us[i]?=some u/\RelV x u
 |_,_,_,_,.nil,e=>by simp at e
 |_,_,0,_,.cons r _,e=>by simp at e;subst e;exact⟨_,rfl,r⟩
 |_,_,i+1,x,.cons _ t,e=>by obtain⟨u,h1,h2⟩:=Vals.get (i:=i) (x:=x) t (by simpa using e);exact⟨u,by simpa using h1,h2⟩
theorem Vals.set {x:V}{u:af}(r:RelV x u):∀{xs:List V}{us:List af}(i:Nat),Vals xs us->Vals (xs.set i x) (us.set i u)
 |_,_,_,.nil=>.nil
 |_,_,0,.cons _ t=>.cons r t
 |_,_,i+1,.cons q t=>.cons q (Vals.set r i t)
theorem Vals.append:∀{xs ys:List V}{us ws:List af},Vals xs us->Vals ys ws->Vals (xs++ys) (us++ws)
 |_,_,_,_,.nil,s=>s
 |_,_,_,_,.cons r t,s=>.cons r (Vals.append t s)
theorem Vals.take:∀{xs:List V}{us:List af}(n:Nat),Vals xs us->Vals (xs.take n) (us.take n)
 |_,_,0,_=>.nil
 |_,_,_+1,.nil=>.nil
 |_,_,n+1,.cons r t=>.cons r (Vals.take n t)
theorem Vals.drop:∀{xs:List V}{us:List af}(n:Nat),Vals xs us->Vals (xs.drop n) (us.drop n)
 |_,_,0,r=>r
 |_,_,_+1,.nil=>.nil
 |_,_,n+1,.cons _ t=>Vals.drop n t
def EN:Option V->Option af->Prop
 |some v,some u=>RelV v u
 |none,none=>True
 |_,_=>False
def KV {κ:Type}:List (κ×V)->List (κ×af)->Prop:=Paired λ(p:κ×V) (q:κ×af)=>p.1=q.1/\RelV p.2 q.2
def kV:gK->V
 | .inl i=>.int i
 | .inr x=>.str x
inductive HO where
 |lst (xs:List V)
 |tup (xs:List V)
 |dK (kvs:List (gK×V))|dT (kvs:List (List gK×V))
 |set (S:Int->Bool) (n:Nat)
 |ins (C dx:ai) (fs:List (Str×V))
 |own (x:ai)
 |xd (fs:List (Str×V))
 |met (f x:ai)
 |rng (lo hi:Int)
 |frz (o:Obj) (u:HO)
 |tbl (ps:Array af)
 |ext (φ:cp->Prop)
abbrev Hp:=ai->Option HO
def upd (H:Hp) (a:ai) (o:HO):Hp:=λb=>if b=a then some o else H b
theorem cK {H:Hp}{a:ai}{o:HO}:upd H a o a=some o:=by unfold upd;rw[if_pos rfl]
theorem bO {H:Hp}{a b:ai}{o:HO}(h:b≠a):upd H a o b=H b:=by unfold upd;rw[if_neg h]
theorem lV {H:Hp}{a b:ai}{o u:HO}(h:H a=some o) (h':H b=some u) (d:o≠u):a≠b:=by intro e;subst e;rw[h]at h';exact d (cx h')
theorem eX {H:Hp}{a b:ai}{o:HO}(h:H a=some o) (h':H b=none):a≠b:=by intro e;subst e;rw[h]at h';cases h'
def IsTupX (h:cp) (a:ai) (items:Array af):Prop:=∃o,h.get? a=some o/\o.cls=.type "tuple"/\o.dict=none/\∃n,o.data=.seq items n
theorem IsTupX.tup {h:cp}{a:ai}{items:Array af}(x:IsTupX h a items):Bn h a items:=let ⟨o,e,c,_,d⟩:=x;⟨o,e,c,d⟩
theorem IsTupX.lt {h:cp}{a:ai}{items:Array af}(x:IsTupX h a items):a<h.objs.size:=let ⟨_,e,_⟩:=x;ao e
theorem IsTupX.new (h:cp) (items:Array af):IsTupX (h.push { cls:=.type "tuple",data:=.seq items }) h.objs.size items:=⟨_,ax _ rfl,rfl,rfl,_,rfl⟩
section
variable(P:bg) (w:cn)
def ObjOk (H:Hp) (h:cp) (a:ai):HO->Prop
 | .lst xs=>xs.length<=ck/\∃(its:List af) (n:Nat),Vals xs its/\h.get? a=some { cls:=.type "list",data:=.seq its.toArray n }
 | .tup xs=>xs.length<=ck/\∃its:List af,Vals xs its/\IsTupX h a its.toArray
 | .dK kvs=>kvs.length<=ck/\(a==sysModules)=false/\∃vs,KV kvs vs/\h.DictOf (yX P w) a vs
 | .dT kvs=>kvs.length<=ck/\(a==sysModules)=false/\∃xs:List (List gK×ai×af),
   Paired (λ(p:List gK×V) (q:List gK×ai×af)=>p.1=q.1/\H q.2.1=some (.tup (p.1.map kV))/\RelV p.2 q.2.2) kvs xs /\
   ∃o es ep,h.get? a=some o/\o.ExactDict/\o.data=.dict es ep/\es.toList=xs.map (entryOfKey (tupleKind (yX P w)))/\(xs.map (·.1)).Nodup
 | .set S n=>h.SetOf (intKind P w) a S n
 | .ins C dx fs=>H dx=some (.own a)/\fs.length<=1000/\dx≠a/\h.get? a=some (PySem.W.instObj C dx) /\
   ∃mA,h.Ns1 dx mA/\(∀f,EN (fs.lookup f) (mA f))/\PySem.Within mA (fs.map (·.1))
 | .own _=>∃o,h.get? a=some o
 | .xd fs=>∃mA,h.Ns1 a mA/\∀f,EN (fs.lookup f) (mA f)
 | .rng lo hi=>∃t u v,h.get? a=some { cls:=.type "range",data:=.fields #[.int lo t,.int hi u,.int 1 v] }
 | .frz o u=>h.get? a=some o/\ObjOk H h a u
 | .tbl ps=>h.get? a=some { cls:=.none,data:=.fields ps }
 | .met f x=>h.get? a=some (vg (.ref f) (.ref x))
 | .ext φ=>φ h/\(∃o,h.get? a=some o)/\∀h1 h2:cp,φ h1->(∀o,h1.get? a=some o->h2.get? a=some o)->φ h2
def HOk (H:Hp) (h:cp):Prop:=∀a o,H a=some o->ObjOk P w H h a o
end
section
variable{P:bg}{w:cn}{H H':Hp}{h h':cp}{a:ai}{o:HO}
theorem ObjOk.lt (x:ObjOk P w H h a o):a<h.objs.size:=by
 cases o with
 |lst xs=>obtain⟨_,_,_,_,e⟩:=x;exact ao e
 |tup xs=>obtain⟨_,_,_,p⟩:=x;exact p.lt
 |dK kvs=>obtain⟨_,_,_,_,o,_,_,e,_⟩:=x;exact ao e
 |dT kvs=>obtain⟨_,_,_,_,o,_,_,e,_⟩:=x;exact ao e
 |set S n=>obtain⟨o,_,_,_,e,_⟩:=x;exact ao e
 |ins C dx fs=>obtain⟨_,_,_,e,_⟩:=x;exact ao e
 |own y=>obtain⟨_,e⟩:=x;exact ao e
 |xd fs=>obtain⟨_,⟨_,_,_,e,_⟩,_⟩:=x;exact ao e
 |rng lo hi=>obtain⟨_,_,_,e⟩:=x;exact ao e
 |frz ob u=>obtain⟨e,_⟩:=x;exact ao e
 |tbl ps=>exact ao (show h.get? a=some _ from x)
 |met f y=>exact ao (show h.get? a=some _ from x)
 |ext φ=>obtain⟨_,⟨_,e⟩,_⟩:=x;exact ao e
theorem Paired.mapP {α β:Type}{F G:α->β->Prop}:∀{l₁:List α}{l₂:List β},Paired F l₁ l₂->(∀a b,F a b->G a b)->Paired G l₁ l₂
 |_,_,.nil,_=>.nil
 |_,_,.cons r t,f=>.cons (f _ _ r) (Paired.mapP t f)
theorem ObjOk.stay (x:ObjOk P w H h a o) (k:∀b u,(b=a∨H b=some (.own a))->h.get? b=some u->h'.get? b=some u)
  (ho:∀b,H b=some (.own a)->H' b=some (.own a)) (ht:∀b xs,H b=some (.tup xs)->H' b=some (.tup xs)):ObjOk P w H' h' a o:=by
 induction o with
 |lst xs=>obtain⟨z,its,n,r,e⟩:=x;exact⟨z,its,n,r,k _ _ (.inl rfl) e⟩
 |tup xs=>obtain⟨z,its,r,ob,e,c⟩:=x;exact⟨z,its,r,ob,k _ _ (.inl rfl) e,c⟩
 |dK kvs=>obtain⟨z,y,vs,r,ob,es,ep,e,c⟩:=x;exact⟨z,y,vs,r,ob,es,ep,k _ _ (.inl rfl) e,c⟩
 |dT kvs=>obtain⟨z,y,xs,r,ob,es,ep,e,c⟩:=x;exact⟨z,y,xs,Paired.mapP r λp q z=>⟨z.1,ht _ _ z.2.1,z.2.2⟩,ob,es,ep,k _ _ (.inl rfl) e,c⟩
 |set S n=>obtain⟨ob,es,ep,t,e,c⟩:=x;exact⟨ob,es,ep,t,k _ _ (.inl rfl) e,c⟩
 |ins C dx fs=>obtain⟨d,z,ne,e,mA,⟨od,es,ep,e2,c⟩,r⟩:=x;exact⟨ho _ d,z,ne,k _ _ (.inl rfl) e,mA,⟨od,es,ep,k _ _ (.inr d) e2,c⟩,r⟩
 |own y=>obtain⟨ob,e⟩:=x;exact⟨ob,k _ _ (.inl rfl) e⟩
 |xd fs=>obtain⟨mA,⟨od,es,ep,e,c⟩,r⟩:=x;exact⟨mA,⟨od,es,ep,k _ _ (.inl rfl) e,c⟩,r⟩
 |rng lo hi=>obtain⟨t,u,v,e⟩:=x;exact⟨t,u,v,k _ _ (.inl rfl) e⟩
 |frz ob u ih=>obtain⟨e,q⟩:=x;exact⟨k _ _ (.inl rfl) e,ih q⟩
 |tbl ps=>have e:h.get? a=some { cls:=.none,data:=.fields ps }:=x;show h'.get? a=some { cls:=.none,data:=.fields ps };exact k a _ (.inl rfl) e
 |met f y=>have e:h.get? a=some (vg (.ref f) (.ref y)):=x;show h'.get? a=some (vg (.ref f) (.ref y));exact k a _ (.inl rfl) e
 |ext φ=>obtain⟨p,⟨o,e⟩,st⟩:=x;exact⟨st _ _ p λo q=>k _ _ (.inl rfl) q,⟨o,k _ _ (.inl rfl) e⟩,st⟩
theorem HOk.lt (x:HOk P w H h) (e:H a=some o):a<h.objs.size:=(x a o e).lt
theorem HOk.fresh (x:HOk P w H h) (e:h.objs.size<=a):H a=none:=by
 cases q:H a with
 |none=>rfl
 |some u=>exact absurd (au (x.lt q) e) (gp _)
theorem HOk.kept (x:HOk P w H h) (k:∀b u,h.get? b=some u->h'.get? b=some u):HOk P w H h':=λa o e=>(x a o e).stay (λb u _ q=>k b u q) (λ_ q=>q) λ_ _ q=>q
theorem HOk.laid (x:HOk P w H h) (k:∀b u,h.get? b=some u->h'.get? b=some u) (hp:h.objs.size<=a) (new:ObjOk P w (upd H a o) h' a o):HOk P w (upd H a o) h':=λb u e=>by
 have hn:=x.fresh hp
 by_cases hb:b=a
 ·subst hb;rw[cK]at e;cases e;exact new
 ·rw[bO hb]at e;exact(x b u e).stay (λc v _ q=>k c v q) (λc q=>by rw[bO (eX q hn)];exact q) λc xs q=>by rw[bO (eX q hn)];exact q
end
def Rd (H:Hp) (a:ai) (u:HO):Prop:=H a=some u∨∃o,H a=some (.frz o u)
theorem Rd.ok {P:bg}{w:cn}{H:Hp}{h:cp}{a:ai}{u:HO}(r:Rd H a u) (x:HOk P w H h):ObjOk P w H h a u:=by
 rcases r with r|⟨o,r⟩
 ·exact x a u r
 ·obtain⟨_,q⟩:=x a _ r;exact q
def tO:Option HO->Prop
 |some (.lst _)=>True
 |some (.dK _)=>True
 |some (.dT _)=>True
 |some (.set _ _)=>True
 |some (.ins _ _ _)=>True
 |some (.ext _)=>True
 |_=>False
section
variable{P:bg}{w:cn}{H:Hp}{h h':cp}{x e:ai}{o':HO}
theorem HOk.write (ok:HOk P w H h) (mu:tO (H x)) (he:e=x∨H e=some (.own x)) (k:∀b u,b≠e->h.get? b=some u->h'.get? b=some u) (heo:∃u,h'.get? e=some u)
  (new:ObjOk P w (upd H x o') h' x o'):HOk P w (upd H x o') h':=λb u q=>by
 have nown:∀c y,H c=some (.own y)->c≠x:=λc y r z=>by subst z;rw[r]at mu;exact mu
 have ntup:∀c xs,H c=some (.tup xs)->c≠x:=λc xs r z=>by subst z;rw[r]at mu;exact mu
 by_cases hb:b=x
 ·subst hb;rw[cK]at q;cases q;exact new
 ·rw[bO hb]at q
  by_cases hbe:b=e
  ·have q':H b=some (.own x):=by
    rcases he with z|z
    ·exact absurd (hbe.trans z) hb
    ·rw[hbe];exact z
   rw[q]at q';cases q';obtain⟨v,hv⟩:=heo;exact⟨v,by rw[hbe];exact hv⟩
  ·refine(ok b u q).stay (λc v hc r=>k c v ?_ r) (λc r=>by rw[bO (nown c b r)];exact r) λc xs r=>by rw[bO (ntup c xs r)];exact r
   rcases hc with rfl|hc
   ·exact hbe
   ·rintro rfl
    rcases he with z|z
    ·exact nown c b hc z
    ·rw[hc]at z;cases z;exact hb rfl
end
structure Un (fs ex:List ai) (H H':Hp) (h h':cp):Prop where
 keep:∀b o,h.get? b=some o->H b=none->b∉fs->b∉ex->h'.get? b=some o
 slot:∀b o,h.get? b=some o->H b=none->b∈fs->b∉ex->∃sl,h'.get? b=some { o with slots:=sl }
 free:∀b o,h.get? b=some o->H b=none->b∉ex->H' b=none
 there:∀b o,h.get? b=some o->b∉ex->∃o',h'.get? b=some o'
 tups:∀b xs,H b=some (.tup xs)->H' b=some (.tup xs)
 frzs:∀b o u,H b=some (.frz o u)->H' b=some (.frz o u)
 tbls:∀b ps,H b=some (.tbl ps)->∃more,H' b=some (.tbl (ps++more))
section
variable{fs fs' ex ex':List ai}{H H1 H2:Hp}{h h1 h2 h':cp}{a x e:ai}{o:HO}
theorem Un.any (u:Un fs ex H H1 h h1) {b:ai}{ob:Obj}(q:h.get? b=some ob) (n:H b=none) (hx:b∉ex):∃sl,h1.get? b=some { ob with slots:=sl }:=by
 by_cases hb:b∈fs
 ·exact u.slot b ob q n hb hx
 ·exact⟨ob.slots,u.keep b ob q n hb hx⟩
theorem Un.kept (k:∀b u,h.get? b=some u->h'.get? b=some u):Un fs ex H H h h':=⟨λb ob q _ _ _=>k b ob q,λb ob q _ _ _=>⟨ob.slots,k b ob q⟩,λ_ _ _ n _=>n,λb ob q _=>⟨ob,k b ob q⟩,λ_ _ q=>q,λ_ _ _ q=>q,λ_ ps q=>⟨#[],by rw[q];simp⟩⟩
theorem Un.refl:Un fs ex H H h h:=Un.kept λ_ _ q=>q
theorem Un.laid (k:∀b u,h.get? b=some u->h'.get? b=some u) (hp:h.objs.size<=a) (hn:H a=none):Un fs ex H (upd H a o) h h' where
 keep:=λb u q _ _ _=>k b u q
 slot:=λb u q _ _ _=>⟨u.slots,k b u q⟩
 free:=λb u q n _=>by rw[bO (bc (au (ao q) hp))];exact n
 there:=λb u q _=>⟨u,k b u q⟩
 tups:=λb xs q=>by rw[bO (eX q hn)];exact q
 frzs:=λb u xs q=>by rw[bO (eX q hn)];exact q
 tbls:=λb ps q=>⟨#[],by rw[bO (eX q hn),q];simp⟩
theorem Un.write (mu:tO (H x)) (he:e=x∨H e=some (.own x)) (k:∀b u,b≠e->h.get? b=some u->h'.get? b=some u) (heo:∃u,h'.get? e=some u):Un fs ex H (upd H x o) h h':=by
 have hx:∀b,H b=none->b≠x:=λb n z=>by subst z;rw[n]at mu;exact mu
 have hb:∀b,H b=none->b≠e:=λb n z=>by
  subst z
  rcases he with r|r
  ·exact hx b n r
  ·rw[n]at r;cases r
 have hm:∀b u,H b=some u->¬ tO (some u)->b≠x:=λb u q nm z=>by subst z;rw[q]at mu;exact nm mu
 refine⟨λb u q n _ _=>k b u (hb b n) q,λb u q n _ _=>⟨u.slots,k b u (hb b n) q⟩,λb u q n _=>by rw[bO (hx b n)];exact n,λb u q _=>?_,
  λb xs q=>by rw[bO (hm b _ q λz=>z)];exact q,λb u xs q=>by rw[bO (hm b _ q λz=>z)];exact q,λb ps q=>⟨#[],by rw[bO (hm b _ q λz=>z),q];simp⟩⟩
 by_cases hbe:b=e
 ·subst hbe;exact heo
 ·exact⟨u,k b u hbe q⟩
end
def tP (h:cp) (H:Hp):List ai:=(bf h.objs.size).filter λa=>(H a).isSome
def jO (h:cp) (H:Hp):cp:=PySem.W.hideAll h (tP h H)
theorem ND (h:cp) (H:Hp):(jO h H).objs.size=h.objs.size:=Bc _ _
theorem NF {h:cp}{H:Hp}{b:ai}{o:Obj}(e:h.get? b=some o) (n:H b=none):(jO h H).get? b=some o:=Bg _ e λhm=>by have q:(H b).isSome=true:=(nh.mp hm).2;rw[n]at q;simp at q
theorem NG {h:cp}{H:Hp}{b:ai}{o:Obj}(e:(jO h H).get? b=some o):h.get? b=some o/\H b=none:=by
 have e':h.get? b=some o:=Bo (tP h H) e;refine⟨e', ?_⟩
 cases q:H b with
 |none=>rfl
 |some x=>have hm:b∈tP h H:=nh.mpr ⟨bp.mpr (ao e'),by simp[q]⟩;have z:(jO h H).get? b=none:=Bd (tP h H) hm;rw[z]at e;cases e
structure Mod (K:aq) (mg:Str->Option af) (base:cp):Prop where
 kin:K.In base
 glob:base.Ns ff mg
 blt:∃mb,base.Ns builtinsNs mb/\∀x:Str,x ≠ "__name__"->mb x=dz x
 nolimit:base.NoLimit
structure Cx where
 prog:bg
 w:cn
 K:aq
 mg:Str->Option af
 base:cp
 A:cg
 N:List Str
 s₀:ag
 H₀:Hp
 env:Env
 outer:List Env
 stack:List Env
 ex:List ai
 fn:Str->Bool
 calm:Bool
 pn:List (ai×Obj)
 xe:af->ag->Prop
def dH (l:List Env):List ai:=l.filterMap (·.frame)
abbrev Cx.fs (X:Cx):List ai:=dH X.outer
def oS (sc:iu) (x:Str):Prop:=sc.names.lookup x=some .local∨sc.names.lookup x=some .cell∨sc.names.lookup x=some .free
def lW (sc:iu) (x:Str):Prop:=sc.names.lookup x=some .local∨sc.names.lookup x=some .cell
def EO (env:Env) (h:cp) (m:Str->Option af) (x:Str) (u:af):Prop:=(env.kindOf x=some .local/\m x=some u)∨((env.kindOf x=some .cell∨env.kindOf x=some .free)/\∃c,env.cells.lookup x=some c/\h.IsCell c (some u))
structure Cx.Ok (X:Cx):Prop where
 mod:Mod X.K X.mg X.base
 kind:X.env.scope.kind=.function
 glob:X.env.globals=ff
 blt:X.env.builtins=builtinsNs
 above:X.s₀.heap.objs.size<=X.env.locals
 inj:∀x y c,X.env.cells.lookup x=some c->X.env.cells.lookup y=some c->x=y
 has:∀x,(X.env.kindOf x=some .cell∨X.env.kindOf x=some .free)->∃c,X.env.cells.lookup x=some c
 cab:∀x c,X.fn x=true->X.env.cells.lookup x=some c->X.s₀.heap.objs.size<=c
 hd:X.calm=true->X.A.handled=none
 frames:X.A.frames=some X.stack
 stk:X.stack=X.outer∨(X.stack=X.env::X.outer/\X.env.frame=some X.env.locals)
 exf:∀b∈X.ex,b≠X.env.locals/\∀x c,X.env.cells.lookup x=some c->c≠b
 bs:∀b o,X.base.get? b=some o->X.s₀.heap.get? b=some o/\X.H₀ b=none
 bsz:X.base.objs.size<=X.s₀.heap.objs.size
 noex:∀b o,X.base.get? b=some o->b∉X.ex
 exfs:∀b∈X.ex,b∉X.fs
 funs:X.s₀.heap.FunFrames X.base X.outer
 frf:∀b∈X.fs,X.H₀ b=none
structure Inv (X:Cx) (pins:List (ai×Obj)) (σ:List (Option V)) (H:Hp) (s:ag):Prop where
 ok:X.Ok
 os:s.os=X.s₀.os
 bare:sv s.gens
 base:Un X.fs X.ex X.H₀ H X.s₀.heap s.heap
 loc:∃m,s.heap.Ns X.env.locals m/\∀(i:Nat) (x:Str) (v:V),X.N[i]?=some x->σ[i]?=some (some v)->oS X.env.scope x->∃u,RelV v u/\EO X.env s.heap m x u
 cell:∀x c,X.env.cells.lookup x=some c->∃v,s.heap.IsCell c v
 free:H X.env.locals=none
 freeC:∀x c,X.env.cells.lookup x=some c->H c=none
 pin:∀p∈X.pn++pins,s.heap.get? p.1=some p.2/\H p.1=none/\p.1≠X.env.locals/\p.1∉X.fs/\∀v,p.2.data≠.cell v
 hok:HOk X.prog X.w H s.heap
 len:σ.length=X.N.length
section
variable{X:Cx}{pins:List (ai×Obj)}{σ:List (Option V)}{H H':Hp}{s:ag}{h':cp}
theorem Cx.Ok.nofr (ok:X.Ok) {b:ai}{o:Obj}(e:X.base.get? b=some o):b∉X.fs:=λhb=>by have:=(ok.funs.mem hb).1;rw[e]at this;cases this
theorem Inv.bs (I:Inv X pins σ H s):∀b o,X.base.get? b=some o->s.heap.get? b=some o/\H b=none:=λb o e=>⟨I.base.keep b o (I.ok.bs b o e).1 (I.ok.bs b o e).2 (I.ok.nofr e) (I.ok.noex b o e),I.base.free b o (I.ok.bs b o e).1 (I.ok.bs b o e).2 (I.ok.noex b o e)⟩
theorem Inv.bk (I:Inv X pins σ H s):∀b o,X.base.get? b=some o->s.heap.get? b=some o:=λb o e=>(I.bs b o e).1
theorem Inv.mod (I:Inv X pins σ H s):Mod X.K X.mg X.base:=I.ok.mod
theorem Inv.kIn (I:Inv X pins σ H s):X.K.In s.heap:=I.ok.mod.kin.keeps I.bk
theorem Inv.lt (I:Inv X pins σ H s):X.env.locals<s.heap.objs.size:=let ⟨_,hn,_⟩:=I.loc;hn.lt
theorem Inv.sz (I:Inv X pins σ H s):X.s₀.heap.objs.size<=s.heap.objs.size:=dq I.ok.above (gq I.lt)
theorem Inv.nofs (I:Inv X pins σ H s) {a:ai}(h:s.heap.objs.size<=a):a∉X.fs:=λhb=>by obtain⟨_,o,ho,_⟩:=I.ok.funs.mem hb;exact absurd (au (ao ho) (dq I.sz h)) (gp _)
theorem Inv.cne (I:Inv X pins σ H s):∀x c,X.env.cells.lookup x=some c->c≠X.env.locals:=λx c e z=>by obtain⟨v,o,ho,hd⟩:=I.cell x c e;obtain⟨m,⟨o',es,ep,ho',hd',_⟩,_⟩:=I.loc;rw[z,ho']at ho;cases ho;rw[hd']at hd;cases hd
theorem Inv.funs (I:Inv X pins σ H s):s.heap.FunFrames X.base X.outer:=by
 have all:∀(l:List Env),(∀b∈dH l,b∈X.fs)->X.s₀.heap.FunFrames X.base l->s.heap.FunFrames X.base l:=by
  intro l
  induction l with
  |nil=>intro _ _;trivial
  |cons env r ih=>intro hs hl;obtain⟨hk,⟨L,o,hf,hn,ho,hd⟩,hr⟩:=hl;have hL:L∈X.fs:=hs L (by unfold dH;rw[cb,hf];exact bh);obtain⟨sl,e⟩:=I.base.slot L o ho (I.ok.frf L hL) hL λz=>I.ok.exfs L z hL;exact⟨hk,⟨L,_,hf,hn,e,hd⟩,ih (λb hb=>hs b (by unfold dH;rw[cb,hf];exact ay _ hb)) hr⟩
 exact all X.outer (λ_ hb=>hb) I.ok.funs
theorem Inv.stack (I:Inv X pins σ H s):s.heap.FunFrames X.base X.stack:=by
 rcases I.ok.stk with e|⟨e,hf⟩
 ·rw[e];exact I.funs
 ·rw[e];obtain⟨m,hn,_⟩:=I.loc;refine .cons (by rw[I.ok.kind];decide) hf hn ?_ I.funs;exact Heap.get?_none_of_le (dq I.ok.bsz I.ok.above)
theorem Inv.stkSub (I:Inv X pins σ H s):∀b∈dH X.stack,b∈X.env.locals::X.fs:=λb hb=>by
 rcases I.ok.stk with e|⟨e,hf⟩
 ·rw[e]at hb;exact ay _ hb
 ·rw[e]at hb;unfold dH at hb;rw[cb,hf]at hb;exact hb
theorem Inv.stkFree (I:Inv X pins σ H s):∀b∈dH X.stack,H b=none:=λb hb=>by
 rcases ba.mp (I.stkSub b hb)with e|hb
 ·rw[e];exact I.free
 ·obtain⟨_,o,ho,_⟩:=I.ok.funs.mem hb;exact I.base.free b o ho (I.ok.frf b hb) λz=>I.ok.exfs b z hb
theorem Inv.step {g':Array GenState}{t':Nat}{d':Drawn}{ch:List ai}(I:Inv X pins σ H s)
  (hch:∀b∈ch,(b∈X.ex∨X.s₀.heap.objs.size<=b)/\b≠X.env.locals/\(∀x c,X.env.cells.lookup x=some c->c≠b)/\∀p∈X.pn++pins,p.1≠b)
  (keep:∀b o,b≠X.env.locals->b∉X.fs->b∉ch->s.heap.get? b=some o->H b=none->h'.get? b=some o)
  (slot:∀b o,b≠X.env.locals->b∈X.fs->b∉ch->s.heap.get? b=some o->H b=none->∃sl,h'.get? b=some { o with slots:=sl }) (free:∀b o,b∉ch->s.heap.get? b=some o->H b=none->H' b=none)
  (there:∀b o,b∉ch->s.heap.get? b=some o->∃o',h'.get? b=some o')
  (tups:∀b xs,H b=some (.tup xs)->H' b=some (.tup xs)) (frzs:∀b o u,H b=some (.frz o u)->H' b=some (.frz o u)) (tbls:∀b ps,H b=some (.tbl ps)->∃more,H' b=some (.tbl (ps++more)))
  (ns:∀m,s.heap.Ns X.env.locals m->h'.Ns X.env.locals m) (hok:HOk X.prog X.w H' h') (hg:sv g'):
  Inv X pins σ H' { s with heap:=h',gens:=g',drawn:=d',toks:=t' }:=by
 have neL:∀b o,X.s₀.heap.get? b=some o->b≠X.env.locals:=λb o e=>bc (au (ao e) I.ok.above);have neC:∀b o,X.s₀.heap.get? b=some o->b∉X.ex->b∉ch:=λb o e hx hb=>by
  rcases(hch b hb).1 with z|z
  ·exact hx z
  ·exact absurd (au (ao e) z) (gp _)
 have cellK:∀x c,X.env.cells.lookup x=some c->∀v,s.heap.IsCell c v->h'.IsCell c v:=λx c e v ⟨o,ho,hd⟩=>by
  have nch:c∉ch:=λz=>(hch c z).2.2.1 x c e rfl
  by_cases hc:c∈X.fs
  ·obtain⟨sl,q⟩:=slot c o (I.cne x c e) hc nch ho (I.freeC x c e);exact⟨_,q,hd⟩
  ·exact⟨o,keep c o (I.cne x c e) hc nch ho (I.freeC x c e),hd⟩
 refine⟨I.ok,I.os,hg,⟨λb o e n hb hx=>?_,λb o e n hb hx=>?_,λb o e n hx=>?_,λb o e hx=>?_,λb xs e=>tups b xs (I.base.tups b xs e),λb o xs e=>frzs b o xs (I.base.frzs b o xs e),λb ps e=>?_⟩, ?_,λx c e=>?_, ?_,λx c e=>?_,λp hp=>?_,hok,I.len⟩
 ·exact keep b o (neL b o e) hb (neC b o e hx) (I.base.keep b o e n hb hx) (I.base.free b o e n hx)
 ·obtain⟨sl,e1⟩:=I.base.slot b o e n hb hx;obtain⟨sl',e2⟩:=slot b _ (neL b o e) hb (neC b o e hx) e1 (I.base.free b o e n hx);exact⟨sl',e2⟩
 ·obtain⟨o',e1⟩:=I.base.there b o e hx;exact free b o' (neC b o e hx) e1 (I.base.free b o e n hx)
 ·obtain⟨o',e1⟩:=I.base.there b o e hx;exact there b o' (neC b o e hx) e1
 ·obtain⟨m1,e1⟩:=I.base.tbls b ps e;obtain⟨m2,e2⟩:=tbls b _ e1;exact⟨m1++m2,by rw[e2,Array.append_assoc]⟩
 ·obtain⟨m,hn,hl⟩:=I.loc;refine⟨m,ns m hn,λi x v e1 e2 e3=>?_⟩;obtain⟨u,r,l⟩:=hl i x v e1 e2 e3;refine⟨u,r, ?_⟩
  rcases l with l|⟨k,c,e,z⟩
  ·exact .inl l
  ·exact .inr ⟨k,c,e,cellK x c e _ z⟩
 ·obtain⟨v,z⟩:=I.cell x c e;exact⟨v,cellK x c e v z⟩
 ·obtain⟨m,⟨o,_,_,ho,_⟩,_⟩:=I.loc;exact free _ o (λz=>(hch _ z).2.1 rfl) ho I.free
 ·obtain⟨v,o,ho,hd⟩:=I.cell x c e;exact free c o (λz=>(hch c z).2.2.1 x c e rfl) ho (I.freeC x c e)
 ·obtain⟨e,n,ne,nf,d⟩:=I.pin p hp;have nch:p.1∉ch:=λz=>(hch p.1 z).2.2.2 p hp rfl;exact⟨keep p.1 p.2 ne nf nch e n,free p.1 p.2 nch e n,ne,nf,d⟩
theorem Inv.un {t':Nat}(I:Inv X pins σ H s) (u:Un X.fs [] H H' s.heap h') (hok:HOk X.prog X.w H' h'):Inv X pins σ H' { s with heap:=h',toks:=t' }:=by obtain⟨m,⟨o,es,ep,ho,r⟩,_⟩:=id I.loc;obtain⟨sl,hL⟩:=u.any ho I.free (by simp);exact I.step (g':=s.gens) (d':=s.drawn) (ch:=[]) (λ_ z=>nomatch z) (λb o _ hb _ e n=>u.keep b o e n hb (by simp)) (λb o _ hb _ e n=>u.slot b o e n hb (by simp)) (λb o _ e n=>u.free b o e n (by simp)) (λb o _ e=>u.there b o e (by simp)) u.tups u.frzs u.tbls (λm' hm=>by obtain⟨o',es',ep',ho',r'⟩:=hm;rw[ho]at ho';cases ho';exact⟨_,es',ep',hL,r'⟩) hok I.bare
theorem Inv.call {g':Array GenState}{t':Nat}{d':Drawn}{ch:List ai}(I:Inv X pins σ H s) (u:Un (dH X.stack) ch H H' s.heap h') (hok:HOk X.prog X.w H' h') (hg:sv g')
  (hch:∀b∈ch,(b∈X.ex∨X.s₀.heap.objs.size<=b)/\b≠X.env.locals/\(∀x c,X.env.cells.lookup x=some c->c≠b)/\∀p∈X.pn++pins,p.1≠b):
  Inv X pins σ H' { s with heap:=h',gens:=g',drawn:=d',toks:=t' }:=by
 obtain⟨m,⟨o,es,ep,ho,r⟩,_⟩:=id I.loc;obtain⟨sl,hL⟩:=u.any ho I.free λz=>(hch _ z).2.1 rfl;exact I.step (ch:=ch) hch (λb o hL hb hc e n=>u.keep b o e n (λz=>(ba.mp (I.stkSub b z)).elim hL hb) hc) (λb o _ _ hc e n=>u.any e n hc) (λb o hc e n=>u.free b o e n hc) (λb o hc e=>u.there b o e hc) u.tups u.frzs u.tbls (λm' hm=>by obtain⟨o',es',ep',ho',r'⟩:=hm;rw[ho]at ho';cases ho';exact⟨_,es',ep',hL,r'⟩) hok hg
theorem Inv.turned {t':Nat}{it:ai}(I:Inv X pins σ H s) (k:∀b o,b≠it->s.heap.get? b=some o->h'.get? b=some o) (hn:H it=none) (hL:it≠X.env.locals)
  (h1:it∈X.ex∨X.s₀.heap.objs.size<=it) (h2:∀x c,X.env.cells.lookup x=some c->c≠it) (h3:∀p∈X.pn++pins,p.1≠it):Inv X pins σ H { s with heap:=h',toks:=t' }:=by
 have nit:∀b u,H b=some u->b≠it:=λb u e z=>by rw[z,hn]at e;cases e
 refine I.step (g':=s.gens) (d':=s.drawn) (ch:=[it]) (λb hb=>?_) (λb o _ _ hc e _=>k b o (λz=>hc (by simp[z])) e) (λb o _ _ hc e _=>⟨o.slots,k b o (λz=>hc (by simp[z])) e⟩) (λ_ _ _ _ n=>n)
  (λb o hc e=>⟨o,k b o (λz=>hc (by simp[z])) e⟩) (λ_ _ e=>e) (λ_ _ _ e=>e) (λb ps e=>⟨#[],by rw[e];simp⟩) (λm hm=>?_) (λb u e=>?_) I.bare
 ·have e:b=it:=by simpa using hb
  subst e;exact⟨h1,hL,h2,h3⟩
 ·obtain⟨o,es,ep,ho,r⟩:=hm;exact⟨o,es,ep,k _ o (cm hL) ho,r⟩
 ·refine(I.hok b u e).stay (λc v hc q=>k c v ?_ q) (λ_ q=>q) λ_ _ q=>q
  rcases hc with z|z
  ·rw[z];exact nit b u e
  ·exact nit c _ z
theorem Inv.tok (I:Inv X pins σ H s) (t:Nat):Inv X pins σ H { s with toks:=t }:=I.un (h':=s.heap) (t':=t) Un.refl I.hok
theorem Inv.kept {t':Nat}(I:Inv X pins σ H s) (k:∀b u,s.heap.get? b=some u->h'.get? b=some u):Inv X pins σ H { s with heap:=h',toks:=t' }:=I.un (Un.kept k) (I.hok.kept k)
theorem Inv.laid {a:ai}{o:HO}{t':Nat}(I:Inv X pins σ H s) (k:∀b u,s.heap.get? b=some u->h'.get? b=some u) (hp:s.heap.objs.size<=a) (new:ObjOk X.prog X.w (upd H a o) h' a o):
  Inv X pins σ (upd H a o) { s with heap:=h',toks:=t' }:=I.un (Un.laid k hp (I.hok.fresh hp)) (I.hok.laid k hp new)
theorem Inv.write {x e:ai}{o:HO}{t':Nat}(I:Inv X pins σ H s) (mu:tO (H x)) (he:e=x∨H e=some (.own x)) (k:∀b u,b≠e->s.heap.get? b=some u->h'.get? b=some u) (heo:∃u,h'.get? e=some u)
  (new:ObjOk X.prog X.w (upd H x o) h' x o):Inv X pins σ (upd H x o) { s with heap:=h',toks:=t' }:=I.un (Un.write mu he k heo) (I.hok.write mu he k heo new)
theorem Inv.pins_of {pins':List (ai×Obj)}(I:Inv X pins σ H s) (h:∀p∈pins',s.heap.get? p.1=some p.2/\H p.1=none/\p.1≠X.env.locals/\p.1∉X.fs/\∀v,p.2.data≠.cell v):Inv X pins' σ H s:=⟨I.ok,I.os,I.bare,I.base,I.loc,I.cell,I.free,I.freeC,λp hp=>(br.mp hp).elim (λz=>I.pin p (jw _ z)) (h p),I.hok,I.len⟩
theorem yY {N:List Str}(hN:N.Nodup) {i j:Nat}{x:Str}(a:N[i]?=some x) (b:N[j]?=some x):i=j:=by obtain⟨h1,e1⟩:=az.mp a;obtain⟨h2,e2⟩:=az.mp b;exact(List.getElem_inj hN).mp (e1.trans e2.symm)
theorem ER {M:Aq}{A:cg}{E:af->ag->Prop}{i:Nat}{x:Str}{v:V}{u:af}{Q:Unit->ag->Prop}(I:Inv X pins σ H s) (hN:X.N.Nodup) (hi:X.N[i]?=some x) (hx:lW X.env.scope x) (r:RelV v u)
  (h:∀s',Inv X pins (σ.set i (some v)) H s'->(∃a,ig a s.heap s'.heap/\(a=X.env.locals∨X.env.cells.lookup x=some a))->Q () s') (hf:X.fn x=true∨X.env.scope.names.lookup x=some .local:=by first|exact .inl rfl|exact .inr rfl|assumption):wpAny M A (storeName X.env x u) Q E s:=by
 obtain⟨m,hn,hl⟩:=id I.loc;have hcls:(X.env.scope.kind==.class||(X.env.scope.kind==.module&&X.env.locals != X.env.globals))=false:=by rw[I.ok.kind];rfl
 have hiσ:i<σ.length:=by rw[I.len];exact(az.mp hi).1
 have cne:=I.cne;have tracked:∀{a:ai}{h':cp},(∃o,s.heap.get? a=some o/\H a=none)->ig a s.heap h'->HOk X.prog X.w H h':=λ{a h'} ha hs b ob e=>by
  obtain⟨_,_,hfree⟩:=ha;refine(I.hok b ob e).stay (λc w' hc q=>(hs.2 c ?_).trans q) (λ_ q=>q) λ_ _ q=>q
  rintro rfl
  rcases hc with rfl|hc
  ·rw[hfree]at e;cases e
  ·rw[hfree]at hc;cases hc
 rcases hx with hk|hk
 ·refine wpAny_storeName_local hk hn (λh' hn' hs=>?_) hcls;obtain⟨oL,_,_,hoL,_⟩:=id hn;refine h _ ⟨I.ok,I.os,I.bare,⟨λb o e n hb hx=>?_,λb o e n hb hx=>?_,I.base.free,λb o e hx=>?_,I.base.tups,I.base.frzs,I.base.tbls⟩,⟨_,hn',λj y v' e1 e2 e3=>?_⟩,λy c e=>?_,I.free,I.freeC,λp hp=>?_,tracked ⟨oL,hoL,I.free⟩ hs,by simpa using I.len⟩ ⟨_,hs,.inl rfl⟩
  ·exact(hs.2 b (bc (au (ao e) I.ok.above))).trans (I.base.keep b o e n hb hx)
  ·obtain⟨sl,e1⟩:=I.base.slot b o e n hb hx;exact⟨sl,(hs.2 b (bc (au (ao e) I.ok.above))).trans e1⟩
  ·obtain⟨o',e1⟩:=I.base.there b o e hx;exact⟨o',(hs.2 b (bc (au (ao e) I.ok.above))).trans e1⟩
  ·by_cases hj:j=i
   ·subst hj;rw[hi]at e1;cases e1;rw[dk hiσ]at e2;cases e2;exact⟨u,r,.inl ⟨hk,by simp⟩⟩
   ·rw[fq (cm hj)]at e2;obtain⟨u',r',q⟩:=hl j y v' e1 e2 e3;refine⟨u',r', ?_⟩
    rcases q with⟨k,e⟩|⟨k,c,e,z⟩
    ·refine .inl ⟨k, ?_⟩;have:y≠x:=λe=>hj (yY hN e1 (e▸hi));simp[this,e]
    ·exact .inr ⟨k,c,e,z.sameBut hs (cne y c e)⟩
  ·obtain⟨w',z⟩:=I.cell y c e;exact⟨w',z.sameBut hs (cne y c e)⟩
  ·obtain⟨e,n,ne,nf,d⟩:=I.pin p hp;exact⟨(hs.2 p.1 ne).trans e,n,ne,nf,d⟩
 ·have hfn:X.fn x=true:=by
   rcases hf with z|z
   ·exact z
   ·rw[z]at hk;cases hk
  obtain⟨c,hc⟩:=I.ok.has x (.inl hk);obtain⟨w',z⟩:=I.cell x c hc;refine wpAny_storeName_cell I.ok.kind hk hc z (λh' hc' hs=>?_);obtain⟨oc,hoc,hocd⟩:=id z;refine h { s with heap:=h' } ⟨I.ok,I.os,I.bare,⟨λb o e n hb hx=>?_,λb o e n hb hx=>?_,I.base.free,λb o e hx=>?_,I.base.tups,I.base.frzs,I.base.tbls⟩,⟨m,hn.sameBut hs (cm (cne x c hc)),λj y v' e1 e2 e3=>?_⟩,λy c' e=>?_,I.free,I.freeC,λp hp=>?_,tracked ⟨oc,hoc,I.freeC x c hc⟩ hs,by simpa using I.len⟩ ⟨c,hs,.inr hc⟩
  ·exact(hs.2 b (bc (au (ao e) (I.ok.cab x c hfn hc)))).trans (I.base.keep b o e n hb hx)
  ·obtain⟨sl,e1⟩:=I.base.slot b o e n hb hx;exact⟨sl,(hs.2 b (bc (au (ao e) (I.ok.cab x c hfn hc)))).trans e1⟩
  ·obtain⟨o',e1⟩:=I.base.there b o e hx;exact⟨o',(hs.2 b (bc (au (ao e) (I.ok.cab x c hfn hc)))).trans e1⟩
  ·by_cases hj:j=i
   ·subst hj;rw[hi]at e1;cases e1;rw[dk hiσ]at e2;cases e2;exact⟨u,r,.inr ⟨.inl hk,c,hc,hc'⟩⟩
   ·rw[fq (cm hj)]at e2;obtain⟨u',r',q⟩:=hl j y v' e1 e2 e3;refine⟨u',r', ?_⟩
    rcases q with q|⟨k,c',e,z'⟩
    ·exact .inl q
    ·refine .inr ⟨k,c',e,z'.sameBut hs ?_⟩
     rintro rfl
     exact hj (yY hN e1 (I.ok.inj _ _ _ e hc▸hi))
  ·by_cases hcc:c'=c
   ·subst hcc;exact⟨_,hc'⟩
   ·obtain⟨w2,z2⟩:=I.cell y c' e;exact⟨w2,z2.sameBut hs hcc⟩
  ·obtain⟨e,n,ne,nf,d⟩:=I.pin p hp;refine⟨(hs.2 p.1 ?_).trans e,n,ne,nf,d⟩;intro q;rw[q,hoc]at e;have q':oc=p.2:=cx e;exact d w' (by rw[<-q'];exact hocd)
theorem yZ {M:Aq}{A:cg}{E:af->ag->Prop}{i:Nat}{x:Str}{v:V}{u:af}{Q:Unit->ag->Prop}(I:Inv X pins σ H s) (hN:X.N.Nodup) (hi:X.N[i]?=some x) (hx:lW X.env.scope x) (r:RelV v u)
  (h:∀s',Inv X pins (σ.set i (some v)) H s'->Q () s') (hf:X.fn x=true∨X.env.scope.names.lookup x=some .local:=by first|exact .inl rfl|exact .inr rfl|assumption):wpAny M A (storeName X.env x u) Q E s:=
 ER I hN hi hx r (λs' I' _=>h s' I') hf
theorem Inv.call' {s':ag}{ch:List ai}(I:Inv X pins σ H s) (ho:s'.os=s.os) (u:Un (dH X.stack) ch H H' s.heap s'.heap) (hok:HOk X.prog X.w H' s'.heap) (hg:sv s'.gens)
  (hch:∀b∈ch,(b∈X.ex∨X.s₀.heap.objs.size<=b)/\b≠X.env.locals/\(∀x c,X.env.cells.lookup x=some c->c≠b)/\∀p∈X.pn++pins,p.1≠b):Inv X pins σ H' s':=by
 obtain⟨h',g',d',t',o'⟩:=s';have e:o'=s.os:=ho;subst e;exact I.call (g':=g') (t':=t') (d':=d') u hok hg hch
end
abbrev XK:=af->Option ai->Hp->Prop
abbrev St:=List (Option V)
abbrev VK:=V->Hp->Prop
abbrev TE:=St->Hp->VK->Prop
abbrev TT:=St->Hp->(Bool->Hp->Prop)->Prop
abbrev TA:=St->Hp->(List V->Hp->Prop)->Prop
structure Ends where
 nx:St->Hp->Prop
 rt:VK
 bk:St->Hp->Prop:=λ_ _=>False
 ct:St->Hp->Prop:=λ_ _=>False
abbrev TS:=Ends->St->Hp->Prop
def EP (X:Cx) (pins:List (ai×Obj)) (σ:St) (Q:VK) (u:af) (s':ag):Prop:=∃v H',Inv X pins σ H' s'/\RelV v u/\Q v H'
def TP (X:Cx) (pins:List (ai×Obj)) (σ:St) (Q:Bool->Hp->Prop) (b:Bool) (s':ag):Prop:=∃H',Inv X pins σ H' s'/\Q b H'
def AP (X:Cx) (pins:List (ai×Obj)) (σ:St) (Q:List V->Hp->Prop) (us:List af) (s':ag):Prop:=∃vs H',Inv X pins σ H' s'/\Vals vs us/\Q vs H'
def SP (X:Cx) (pins:List (ai×Obj)) (D:Ends) (f:Flow) (s':ag):Prop:=
 match f with
 | .next=>∃σ' H',Inv X pins σ' H' s'/\D.nx σ' H'
 | .brk=>∃σ' H',Inv X pins σ' H' s'/\D.bk σ' H'
 | .cont=>∃σ' H',Inv X pins σ' H' s'/\D.ct σ' H'
 | .ret u=>∃v σ' H',Inv X pins σ' H' s'/\RelV v u/\D.rt v H'
def PE (X:Cx) (e:bu) (t:TE):Prop:=∀(pins:List (ai×Obj)) (s:ag) (σ:St) (H:Hp) (Q:VK),Inv X pins σ H s->t σ H Q->wpAny (model X.prog X.w) X.A (eval e X.env) (EP X pins σ Q) X.xe s
def PT (X:Cx) (e:bu) (t:TT):Prop:=∀(pins:List (ai×Obj)) (s:ag) (σ:St) (H:Hp) (Q:Bool->Hp->Prop),Inv X pins σ H s->t σ H Q->wpAny (model X.prog X.w) X.A (isTrue e X.env (eval e X.env)) (TP X pins σ Q) X.xe s
def PW (X:Cx) (e:bu) (t:TT):Prop:=∀(whole:Sem af) (pins:List (ai×Obj)) (s:ag) (σ:St) (H:Hp) (Q:Bool->Hp->Prop),Inv X pins σ H s->t σ H Q->wpAny (model X.prog X.w) X.A (isTrue e X.env whole) (TP X pins σ Q) X.xe s
theorem PW.pt {X:Cx}{e:bu}{t:TT}(h:PW X e t):PT X e t:=h _
def PA (X:Cx) (es:List bu) (t:TA):Prop:=∀(pos:Pos) (pins:List (ai×Obj)) (s:ag) (σ:St) (H:Hp) (Q:List V->Hp->Prop),Inv X pins σ H s->t σ H Q->wpAny (model X.prog X.w) X.A (spliced (backTo pos (aw es X.env))) (AP X pins σ Q) X.xe s
def PS (X:Cx) (st:gv) (t:TS):Prop:=∀(pins:List (ai×Obj)) (s:ag) (σ:St) (H:Hp) (D:Ends),Inv X pins σ H s->t D σ H->wpAny (model X.prog X.w) X.A (exec st X.env) (SP X pins D) X.xe s
def PSs (X:Cx) (st:List gv) (t:TS):Prop:=∀(pins:List (ai×Obj)) (s:ag) (σ:St) (H:Hp) (D:Ends),Inv X pins σ H s->t D σ H->wpAny (model X.prog X.w) X.A (execs st X.env) (SP X pins D) X.xe s
theorem aX {α:Type}{t:Sem α}{Q Q':α->ag->Prop}{M:Aq}{A:cg}{E:af->ag->Prop}{s:ag}(h:wpAny M A t Q E s) (hQ:∀a s,Q a s->Q' a s):wpAny M A t Q' E s:=ka h hQ λ_ _ x=>x
section
variable{X:Cx}
def NH (i:Nat):TE:=λσ H Q=>∃v,σ[i]?=some (some v)/\Q v H
def tC (v:V):TE:=λ_ H Q=>Q v H
theorem zA {i:Nat}{x:Str}{pos:Pos}(hN:X.N[i]?=some x) (hv:oS X.env.scope x) (hd:(x==("__debug__" : Str))=false:=by decide) (hcd:(x==("__classdict__" : Str))=false:=by decide):PE X (.Name x pos) (NH i):=by
 intro pins s σ H Q I h;obtain⟨v,e,h⟩:=h;obtain⟨m,hn,hl⟩:=I.loc;obtain⟨u,r,l⟩:=hl i x v hN e hv;have fin:EP X pins σ Q u s:=⟨v,H,I,r,h⟩
 rcases l with⟨hk,hm⟩|⟨hk,c,hc,hcell⟩
 ·exact wpAny_Name (wpAny_loadName_local I.ok.kind hk hn hm fin) hd
 ·rcases hk with hk|hk
  ·exact wpAny_Name (wpAny_loadName_cell I.ok.kind hk hc hcell fin) hd
  ·exact wpAny_Name (wpAny_loadName_free I.ok.kind hk hc hcell fin hcd) hd
theorem NI {i j pos}:PE X (.Constant (.int i) j pos) (tC (.int i)):=λ_ _ _ H _ I h=>wpAny_Constant_int ⟨.int i,H,I.tok _,⟨_,rfl⟩,h⟩
theorem NJ {b j pos}:PE X (.Constant (.bool b) j pos) (tC (.bl b)):=λ_ _ _ H _ I h=>Constant_bool ⟨.bl b,H,I,rfl,h⟩
theorem ES {j pos}:PE X (.Constant .none j pos) (tC .non):=λ_ _ _ H _ I h=>Constant_none ⟨.non,H,I,rfl,h⟩
theorem NK {x j pos}:PE X (.Constant (.str x) j pos) (tC (.str x)):=λ_ _ _ H _ I h=>Calls.Constant_str ⟨.str x,H,I.tok _,⟨_,rfl⟩,h⟩
def Gl (X:Cx) (x:Str):Prop:=X.env.kindOf x=some .globalImplicit
theorem qK {E:af->ag->Prop}{pins:List (ai×Obj)}{s:ag}{σ:St}{H:Hp}{x:Str}{u:af}{pos:Pos}{Q:af->ag->Prop}(I:Inv X pins σ H s) (hg:Gl X x) (hm:X.mg x=some u) (h:Q u s)
  (hd:(x==("__debug__" : Str))=false:=by decide):wpAny (model X.prog X.w) X.A (eval (.Name x pos) X.env) Q E s:=
 xu I.ok.kind hg (Calls.loadGlobal_global (by rw[I.ok.glob];exact I.mod.glob.keeps I.bk) hm h) hd
theorem lX {E:af->ag->Prop}{pins:List (ai×Obj)}{s:ag}{σ:St}{H:Hp}{x:Str}{u:af}{pos:Pos}{Q:af->ag->Prop}(I:Inv X pins σ H s) (hg:Gl X x) (hm:X.mg x=none) (hv:dz x=some u) (h:Q u s)
  (hn:x ≠ "__name__" := by decide) (hd:(x==("__debug__" : Str))=false:=by decide):wpAny (model X.prog X.w) X.A (eval (.Name x pos) X.env) Q E s:=by
 obtain⟨mb,h1,h2⟩:=I.mod.blt;exact xu I.ok.kind hg (Calls.loadGlobal_builtin (by rw[I.ok.glob];exact I.mod.glob.keeps I.bk) hm (by rw[I.ok.blt];exact h1.keeps I.bk) ((h2 x hn).trans hv) h) hd
theorem ET {x:Str}{v:V}{u:af}{pos:Pos}(hg:Gl X x) (hm:X.mg x=some u) (r:RelV v u) (hd:(x==("__debug__" : Str))=false:=by decide):PE X (.Name x pos) (tC v):=λ_ _ _ H _ I h=>qK I hg hm ⟨v,H,I,r,h⟩ hd
variable{a b:bu}{ta tb:TE}{pos:Pos}
def tB (t:TE):TT:=λσ H Q=>t σ H λx H1=>∃c,x=.bl c/\Q c H1
variable{tA tB':TT}{rest:List bu}
def EU (t u:TT):TT:=λσ H Q=>t σ H λc H1=>if c=true then u σ H1 Q else Q false H1
def EV (t u:TT):TT:=λσ H Q=>t σ H λc H1=>if c=true then Q true H1 else u σ H1 Q
def NL (t:TT):TT:=λσ H Q=>t σ H λc H1=>Q (!c) H1
theorem NM (ha:PT X a tA):PW X (.BoolOp .And [a] pos) tA:=by
 intro wh pins s σ H Q I h;refine isTrue_and (aX (ha pins s σ H Q I h) λc s1 e=>?_)
 cases c with
 |true=>exact isTrue_and_nil e
 |false=>exact e
theorem NN (ha:PT X a tA):PW X (.BoolOp .Or [a] pos) tA:=by
 intro wh pins s σ H Q I h;refine isTrue_or (aX (ha pins s σ H Q I h) λc s1 e=>?_)
 cases c with
 |false=>exact isTrue_or_nil e
 |true=>exact e
theorem NO (ha:PT X a tA) (hb:PW X (.BoolOp .And (b::rest) pos) tB'):PW X (.BoolOp .And (a::b::rest) pos) (EU tA tB'):=by
 intro wh pins s σ H Q I h;refine isTrue_and (aX (ha pins s σ H _ I h) λc s1 ⟨H1,I1,q1⟩=>?_)
 cases c with
 |true=>exact hb wh pins s1 σ H1 Q I1 q1
 |false=>exact⟨H1,I1,q1⟩
theorem NP (ha:PT X a tA) (hb:PW X (.BoolOp .Or (b::rest) pos) tB'):PW X (.BoolOp .Or (a::b::rest) pos) (EV tA tB'):=by
 intro wh pins s σ H Q I h;refine isTrue_or (aX (ha pins s σ H _ I h) λc s1 ⟨H1,I1,q1⟩=>?_)
 cases c with
 |true=>exact⟨H1,I1,q1⟩
 |false=>exact hb wh pins s1 σ H1 Q I1 q1
theorem NQ (ha:PT X a tA):PT X (.UnaryOp .Not a pos) (NL tA):=by intro pins s σ H Q I h;exact isTrue_not (ha pins s σ H (λc H1=>Q (!c) H1) I h)
def NR (ta tb:TE):TE:=λσ H Q=>ta σ H λx H1=>∃c,x=.bl c/\if c=true then tb σ H1 Q else Q (.bl false) H1
def NS (ta tb:TE):TE:=λσ H Q=>ta σ H λx H1=>∃c,x=.bl c/\if c=true then Q (.bl true) H1 else tb σ H1 Q
def NT (ta:TE):TE:=λσ H Q=>ta σ H λx H1=>∃c,x=.bl c/\Q (.bl (!c)) H1
theorem NU {op} {t:TE}(h:PE X a t):PE X (.BoolOp op [a] pos) t:=λpins s σ H Q I hw=>BoolOp_one (h pins s σ H Q I hw)
theorem NV (ha:PE X a ta) (hb:PE X (.BoolOp .And (b::rest) pos) tb):PE X (.BoolOp .And (a::b::rest) pos) (NR ta tb):=by
 intro pins s σ H Q I h;refine BoolOp_and (aX (ha pins s σ H _ I h) λv s1 ⟨x,H1,I1,r1,q1⟩=>?_);obtain⟨c,rfl,q1⟩:=q1;cases r1;refine jz ?_
 cases c with
 |true=>exact hb pins s1 σ H1 Q I1 q1
 |false=>exact⟨.bl false,H1,I1,rfl,q1⟩
theorem NW (ha:PE X a ta) (hb:PE X (.BoolOp .Or (b::rest) pos) tb):PE X (.BoolOp .Or (a::b::rest) pos) (NS ta tb):=by
 intro pins s σ H Q I h;refine BoolOp_or (aX (ha pins s σ H _ I h) λv s1 ⟨x,H1,I1,r1,q1⟩=>?_);obtain⟨c,rfl,q1⟩:=q1;cases r1;refine jz ?_
 cases c with
 |false=>exact hb pins s1 σ H1 Q I1 q1
 |true=>exact⟨.bl true,H1,I1,rfl,q1⟩
theorem NX (ha:PE X a ta):PE X (.UnaryOp .Not a pos) (NT ta):=by intro pins s σ H Q I h;refine UnaryOp_ (aX (ha pins s σ H _ I h) λv s1 ⟨x,H1,I1,r1,q1⟩=>?_);obtain⟨c,rfl,q1⟩:=q1;cases r1;exact not_of (jz ⟨.bl (!c),H1,I1,rfl,q1⟩)
end
def SqL (K:aq) (H:Hp) (a:ai) (xs:List V):Prop:=
 Rd H a (.lst xs) ∨
  ∃(o:Obj) (its:Array af) (n:Nat),K.lookup a=some o/\o.cls=.type "list"/\o.dict=none/\o.data=.seq its n/\its.size<=ck/\Vals xs its.toList
def SqT (K:aq) (H:Hp) (a:ai) (xs:List V):Prop:=
 Rd H a (.tup xs) ∨
  ∃(o:Obj) (its:Array af) (n:Nat),K.lookup a=some o/\o.cls=.type "tuple"/\o.data=.seq its n/\its.size<=ck/\Vals xs its.toList
def NY:af->Option V
 | .none=>some .non
 | .bool b=>some (.bl b)
 | .int i _=>some (.int i)
 | .str x _=>some (.str x)
 | .bytes b _=>some (.byt b)
 | .float b _=>some (.flt b)
 | .ref a=>some (.ref a)
 | .type n=>some (.ty n)
 |_=>none
theorem RelV.abs {x:V}{u:af}(r:RelV x u):NY u=some x:=by
 cases x with
 |non=>cases r;rfl
 |bl _=>cases r;rfl
 |int _=>obtain⟨t,rfl⟩:=r;rfl
 |str _=>obtain⟨t,rfl⟩:=r;rfl
 |byt _=>obtain⟨t,rfl⟩:=r;rfl
 |flt _=>obtain⟨t,rfl⟩:=r;rfl
 |ref _=>cases r;rfl
 |ty _=>cases r;rfl
theorem RelV.inj {x y:V}{u:af}(r:RelV x u) (q:RelV y u):x=y:=cx (r.abs.symm.trans q.abs)
theorem Vals.inj:∀{xs ys:List V}{us:List af},Vals xs us->Vals ys us->xs=ys
 |_,_,_,.nil,.nil=>rfl
 |_,_,_,.cons r t,.cons r' t'=>by rw[r.inj r',Vals.inj t t']
section
variable{X:Cx}{pins:List (ai×Obj)}{σ:St}{H:Hp}{s:ag}{a:ai}{xs ys:List V}
theorem SqL.of {K:aq}(h:H a=some (.lst xs)):SqL K H a xs:=.inl (.inl h)
theorem SqT.of {K:aq}(h:H a=some (.tup xs)):SqT K H a xs:=.inl (.inl h)
theorem Inv.list (I:Inv X pins σ H s) (h:SqL X.K H a xs):∃its:List af,Vals xs its/\PlainL s.heap a its.toArray/\xs.length<=ck:=by
 rcases h with h|⟨o,its,n,hk,hc,hd,hs,hz,r⟩
 ·obtain⟨z,its,n,r,e⟩:=h.ok I.hok;exact⟨its,r,⟨_,n,e,rfl,rfl,rfl⟩,z⟩
 ·refine⟨its.toList,r,⟨o,n,I.kIn a o hk,hc,hd,by simpa using hs⟩, ?_⟩;have e:=r.length;simp only[mq]at e;omega
theorem Inv.tuple (I:Inv X pins σ H s) (h:SqT X.K H a xs):∃its:List af,Vals xs its/\Bn s.heap a its.toArray/\xs.length<=ck:=by
 rcases h with h|⟨o,its,n,hk,hc,hs,hz,r⟩
 ·obtain⟨z,its,r,p⟩:=h.ok I.hok;exact⟨its,r,p.tup,z⟩
 ·refine⟨its.toList,r,⟨o,I.kIn a o hk,hc,n,by simpa using hs⟩, ?_⟩;have e:=r.length;simp only[mq]at e;omega
theorem Inv.list_inj (I:Inv X pins σ H s) (h:SqL X.K H a xs) (h':SqL X.K H a ys):xs=ys:=by
 obtain⟨its,r,⟨o,n,e,_,_,d⟩,_⟩:=I.list h;obtain⟨its',r',⟨o',n',e',_,_,d'⟩,_⟩:=I.list h';rw[e]at e';cases e';rw[d]at d';injection d' with d1 _;have:its=its':=by simpa using congrArg Array.toList d1
 subst this;exact r.inj r'
theorem Inv.tuple_inj (I:Inv X pins σ H s) (h:SqT X.K H a xs) (h':SqT X.K H a ys):xs=ys:=by
 obtain⟨its,r,⟨o,e,_,n,d⟩,_⟩:=I.tuple h;obtain⟨its',r',⟨o',e',_,n',d'⟩,_⟩:=I.tuple h';rw[e]at e';cases e';rw[d]at d';injection d' with d1 _;have:its=its':=by simpa using congrArg Array.toList d1
 subst this;exact r.inj r'
end
abbrev Cx.wish (X:Cx) (E:af->ag->Prop):Cx:={ X with xe:=E }
abbrev Cx.nox (X:Cx):Cx:=X.wish λ_ _=>False
theorem Cx.Ok.wish {X:Cx}(ok:X.Ok) (E:af->ag->Prop):(X.wish E).Ok:=⟨ok.mod,ok.kind,ok.glob,ok.blt,ok.above,ok.inj,ok.has,ok.cab,ok.hd,ok.frames,ok.stk,ok.exf,ok.bs,ok.bsz,ok.noex,ok.exfs,ok.funs,ok.frf⟩
theorem Cx.Ok.unwish {X:Cx}{E:af->ag->Prop}(ok:(X.wish E).Ok):X.Ok:=⟨ok.mod,ok.kind,ok.glob,ok.blt,ok.above,ok.inj,ok.has,ok.cab,ok.hd,ok.frames,ok.stk,ok.exf,ok.bs,ok.bsz,ok.noex,ok.exfs,ok.funs,ok.frf⟩
section
variable{X:Cx}{pins:List (ai×Obj)}{σ:St}{H:Hp}{s:ag}{E:af->ag->Prop}
theorem Inv.wish (I:Inv X pins σ H s) (E:af->ag->Prop):Inv (X.wish E) pins σ H s:=⟨I.ok.wish E,I.os,I.bare,I.base,I.loc,I.cell,I.free,I.freeC,I.pin,I.hok,I.len⟩
theorem Inv.unwish (I:Inv (X.wish E) pins σ H s):Inv X pins σ H s:=⟨I.ok.unwish,I.os,I.bare,I.base,I.loc,I.cell,I.free,I.freeC,I.pin,I.hok,I.len⟩
end
section
variable{X:Cx}{st:gv}{rest:List gv}{t u:TS}{e:bu}{te:TE}{pos:Pos}
def NZ:TS:=λD σ H=>D.nx σ H
def N0 (t u:TS):TS:=λD σ H=>t { D with nx:=u D } σ H
theorem N1:PSs X [] NZ:=λ_ _ σ H _ I h=>og ⟨σ,H,I,h⟩
theorem N2 (h1:PS X st t) (h2:PSs X rest u):PSs X (st::rest) (N0 t u):=by
 intro pins s σ H D I h;refine pw (aX (h1 pins s σ H { D with nx:=u D } I h) λf s1 q=>?_)
 cases f with
 |next=>obtain⟨σ',H',I',q⟩:=q;exact h2 pins s1 σ' H' D I' q
 |ret v=>exact q
 |brk=>exact q
 |cont=>exact q
theorem EW (h1:PS X st t):PSs X [st] t:=by
 intro pins s σ H D I h;refine pw (aX (h1 pins s σ H D I h) λf s1 q=>?_)
 cases f with
 |next=>exact og q
 |ret v=>exact q
 |brk=>exact q
 |cont=>exact q
theorem Inv.quiet {pins:List (ai×Obj)}{σ:St}{H:Hp}{s:ag}(I:Inv X pins σ H s):interactive X.env=false:=by simp[interactive,I.ok.kind]
def N3 (te:TE):TS:=λD σ H=>te σ H λ_ H1=>D.nx σ H1
theorem N4 (he:PE X e te) (hs:swapsWith e none pos.line X.env=pure false:=by rfl):PS X (.Expr e pos) (N3 te):=by intro pins s σ H D I h;exact wpAny_Expr_any (aX (he pins s σ H _ I h) λv s1 ⟨x,H1,I1,r1,q1⟩=>⟨σ,H1,I1,q1⟩) I.quiet hs
def N5 (te:TE):TS:=λD σ H=>te σ H D.rt
theorem N6 (he:PE X e te):PS X (.Return (some e) pos) (N5 te):=by intro pins s σ H D I h;exact wpAny_Return_some (aX (he pins s σ H _ I h) λv s1 ⟨x,H1,I1,r1,q1⟩=>⟨x,σ,H1,I1,r1,q1⟩)
def N7 (c:TT) (t u:TS):TS:=λD σ H=>c σ H λb H1=>if b=true then t D σ H1 else u D σ H1
theorem N8 {c:bu}{a b:List gv}{tc:TT}(hc:PT X c tc) (ha:PSs X a t) (hb:PSs X b u):PS X (.If c a b pos) (N7 tc t u):=by
 intro pins s σ H D I h;refine wpAny_If (aX (hc pins s σ H _ I h) λd s1 ⟨H1,I1,q1⟩=>?_)
 cases d with
 |true=>exact ha pins s1 σ H1 D I1 q1
 |false=>exact hb pins s1 σ H1 D I1 q1
end
abbrev TG:=V->St->Hp->(St->Hp->Prop)->Prop
abbrev lD:=List V->St->Hp->(St->Hp->Prop)->Prop
def PG (X:Cx) (target:bu) (t:TG):Prop:=
 ∀(pins:List (ai×Obj)) (s:ag) (σ:St) (H:Hp) (v:V) (u:af) (Q:St->Hp->Prop),Inv X pins σ H s->RelV v u->t v σ H Q->
  wpAny (model X.prog X.w) X.A (assign target X.env u) (λ_ s'=>∃σ' H',Inv X pins σ' H' s'/\Q σ' H') X.xe s
def PGs (X:Cx) (ts:List bu) (t:lD):Prop:=
 ∀(pins:List (ai×Obj)) (s:ag) (σ:St) (H:Hp) (vs:List V) (us:List af) (Q:St->Hp->Prop),Inv X pins σ H s->Vals vs us->t vs σ H Q->
  wpAny (model X.prog X.w) X.A (assignInOrder ((assignEach ts X.env).map (·.2)) us) (λ_ s'=>∃σ' H',Inv X pins σ' H' s'/\Q σ' H') X.xe s
abbrev zB:=V->V->V->Hp->(Hp->Prop)->Prop
def EX (X:Cx) (t:zB):Prop:=
 ∀(pins:List (ai×Obj)) (s:ag) (σ:St) (H:Hp) (o i v:V) (ov iv u:af) (Q:Hp->Prop),Inv X pins σ H s->RelV o ov->RelV i iv->RelV v u->t o i v H Q->
  wpAny (model X.prog X.w) X.A (setItem ov iv u) (λ_ s'=>∃H',Inv X pins σ H' s'/\Q H') X.xe s
section
variable{X:Cx}{pos:Pos}
def zC (i:Nat):TG:=λv σ H Q=>Q (σ.set i (some v)) H
theorem N9 {i:Nat}{x:Str}(hN:X.N.Nodup) (hi:X.N[i]?=some x) (hx:lW X.env.scope x) (hf:X.fn x=true∨X.env.scope.names.lookup x=some .local:=by first|exact .inl rfl|exact .inr rfl|assumption):PG X (.Name x pos) (zC i):=by intro pins s σ H v u Q I r h;exact wpAny_assign_Name (yZ I hN hi hx r (λs' I'=>⟨_,H,I',h⟩) hf)
def OA:lD:=λvs σ H Q=>vs=[]/\Q σ H
def OB (t:TG) (u:lD):lD:=λvs σ H Q=>∃v r,vs=v::r/\t v σ H λσ' H'=>u r σ' H' Q
theorem OC:PGs X [] OA:=by intro pins s σ H vs us Q I r h;obtain⟨e,h⟩:=h;subst e;cases r;exact assignInOrder_nil ⟨σ,H,I,h⟩
theorem OD {e:bu}{es:List bu}{t:TG}{u:lD}(h1:PG X e t) (h2:PGs X es u)
  (hs:(assignEach (e::es) X.env).map (·.2)=assign e X.env::(assignEach es X.env).map (·.2):=by rfl):PGs X (e::es) (OB t u):=by
 intro pins s σ H vs us Q I r h;obtain⟨v,vr,e1,h⟩:=h;subst e1
 cases r with
 |cons r rr=>rw[hs];refine assignInOrder_cons (aX (h1 pins s σ H _ _ _ I r h) λ_ s1 ⟨σ1,H1,I1,q1⟩=>?_);exact h2 pins s1 σ1 H1 _ _ Q I1 rr q1
def OE (K:aq) (n:Nat) (t:lD):TG:=λv σ H Q=>∃a xs,v=.ref a/\SqT K H a xs/\xs.length=n/\t xs σ H Q
theorem OF {es:List bu}{k:Nat}{t:lD}{n:Nat}(hc:X.calm=true) (h:PGs X es t)
  (hn:(assignEach es X.env).length=n:=by rfl) (hst:(assignEach es X.env).findIdx? (·.1)=none:=by rfl):PG X (.Tuple es k pos) (OE X.K n t):=by
 intro pins s σ H v u Q I r hw;obtain⟨a,xs,e1,hq,hl,hw⟩:=hw;subst e1;cases r;obtain⟨its,rv,ht,hz⟩:=I.tuple hq;refine assign_Tuple_tuple (I.ok.hd hc) ht (by simp[hn,<-hl,rv.length]) hst λh' hx=>?_;have I1:Inv X pins σ H { s with heap:=h' }:=I.kept (t':=s.toks) λb o e=>hx b o (bc (ao e)) e;exact h pins _ σ H xs _ Q I1 (by simpa using rv) hw
def OG (to ti:TE) (t:zB):TG:=λv σ H Q=>to σ H λo H1=>ti σ H1 λi H2=>t o i v H2 λH3=>Q σ H3
theorem OH {o i:bu}{to ti:TE}{t:zB}(ho:PE X o to) (hi:PE X i ti) (hs:EX X t)
  (ha:∀v,assign (.Subscript o i pos) X.env v=(do
   let ov <-holding [v] (eval o X.env)
   let iv <-holding [v,ov] (eval i X.env)
   standAt pos
   holding [v,ov,iv] (setItem ov iv v)
   release [v,ov,iv] []):=by intro _;rfl):PG X (.Subscript o i pos) (OG to ti t):=by
 intro pins s σ H v u Q I r h;rw[ha];refine aa (fg (aX (ho pins s σ H _ I h) λov s1 ⟨x,H1,I1,r1,q1⟩=>?_));refine aa (fg (aX (hi pins s1 σ H1 _ I1 q1) λiv s2 ⟨y,H2,I2,r2,q2⟩=>?_));refine aa (tu (aa (fg (aX (hs pins s2 σ H2 x y v ov iv u _ I2 r1 r2 r q2) λ_ s3 ⟨H3,I3,q3⟩=>?_))));exact wpAny_release ⟨σ,H3,I3,q3⟩
def tQ (te:TE) (g:TG):TS:=λD σ H=>te σ H λx H1=>g x σ H1 D.nx
theorem EY {tg e:bu}{te:TE}{g:TG}(he:PE X e te) (hg:PG X tg g) (hs:swapsWithSole [tg] e pos.line X.env=pure false:=by rfl) (hw:swappedStores [tg] e X.env=pure none:=by rfl)
  (h1:(assignEach [tg] X.env).map (·.2)=[assign tg X.env]:=by rfl):PS X (.Assign [tg] e pos) (tQ te g):=by
 intro pins s σ H D I h;refine wpAny_Assign_stores (aX (he pins s σ H _ I h) λv s1 ⟨x,H1,I1,r1,q1⟩=>?_) hs hw;rw[h1];exact aX (hg pins s1 σ H1 x v _ I1 r1 q1) λ_ s2 q=>q
theorem zD {i:Nat}{x:Str}{e:bu}{te:TE}{pos':Pos}(hN:X.N.Nodup) (hi:X.N[i]?=some x) (hx:lW X.env.scope x) (he:PE X e te) (hs:swapsWith e (some (.Name x pos')) pos.line X.env=pure false:=by rfl) (hf:X.fn x=true∨X.env.scope.names.lookup x=some .local:=by first|exact .inl rfl|exact .inr rfl|assumption):
  PS X (.Assign [.Name x pos'] e pos) (tQ te (zC i)):=by
 intro pins s σ H D I h;refine wpAny_Assign_Name (aX (he pins s σ H _ I h) λv s1 ⟨y,H1,I1,r1,q1⟩=>?_) hs;exact yZ I1 hN hi hx r1 (λs2 I2=>⟨_,H1,I2,q1⟩) hf
end
section
variable{X:Cx}{pos:Pos}
def OI (c:TT) (tb:TS):TS:=λD σ H=>∃W:Nat->St->Hp->Prop,(∃m,W m σ H)/\∀m σ H,W m σ H->
 c σ H λb H1=>if b=true then ∃N:St->Hp->Prop,(∀σ' H',N σ' H'->∃m',m'<m/\W m' σ' H')/\tb { D with nx:=N,ct:=N,bk:=D.nx } σ H1 else D.nx σ H1
theorem OJ {c:bu}{body:List gv}{tc:TT}{tb:TS}(hp:zi (model X.prog X.w) X.A X.env X.xe) (hc:PT X c tc) (hb:PSs X body tb):PS X (.While c body [] pos) (OI tc tb):=by
 intro pins s σ H D I h;obtain⟨W,⟨m0,w0⟩,turn⟩:=h;refine wpAny_While (codeAny_whileLoop (λn s'=>∃σ' H',Inv X pins σ' H' s'/\W n σ' H') ?_ m0 ⟨σ,H,I,w0⟩)
 rintro n s1 ⟨σ1,H1,I1,w1⟩
 refine lr hp (aX (hc pins s1 σ1 H1 _ I1 (turn n σ1 H1 w1)) λb s2 ⟨H2,I2,q2⟩=>?_)
 cases b with
 |true=>
  obtain⟨N,hN,q2⟩:=q2;rw[if_pos rfl];refine lr hp (aX (hb pins s2 σ1 H2 _ I2 q2) λf s3 q3=>?_)
  cases f with
  |next=>obtain⟨σ3,H3,I3,n3⟩:=q3;obtain⟨m',hm,w3⟩:=hN σ3 H3 n3;exact⟨m',hm,σ3,H3,I3,w3⟩
  |cont=>obtain⟨σ3,H3,I3,n3⟩:=q3;obtain⟨m',hm,w3⟩:=hN σ3 H3 n3;exact⟨m',hm,σ3,H3,I3,w3⟩
  |brk=>exact q3
  |ret v=>exact q3
 |false=>rw[if_neg jr];exact og ⟨σ1,H2,I2,q2⟩
end
structure It where
 go:Nat->Hp->Prop
 yld:Nat->Hp->V->Hp->Prop
 stop:Nat->Hp->Prop
def cL (X:Cx) (pins:List (ai×Obj)) (H:Hp) (b:ai):Prop:=H b=none/\b≠X.env.locals/\b∉X.fs/\(b∈X.ex∨X.s₀.heap.objs.size<=b)/\(∀x c,X.env.cells.lookup x=some c->c≠b)/\∀p∈X.pn++pins,p.1≠b
theorem Inv.fpOk {X:Cx}{pins:List (ai×Obj)}{σ:St}{H H':Hp}{s:ag}{b:ai}(I:Inv X pins σ H s) (hb:s.heap.objs.size<=b) (hn:H' b=none):cL X pins H' b:=by
 refine⟨hn,jl (au I.lt hb),I.nofs hb,.inr (dq I.sz hb),λx c e z=>?_,λp hp z=>?_⟩
 ·obtain⟨v,q⟩:=I.cell x c e;exact absurd (au q.lt (by rw[z];exact hb)) (gp _)
 ·exact absurd (au (ao (I.pin p hp).1) (by rw[z];exact hb)) (gp _)
structure Turn (P:bg) (w:cn) (K:aq) (tg:bu) (J:It) (fp:List ai) (it:ai) (tn:Nat->cp->Prop):Prop where
 mem:it∈fp
 obj:∀i h,tn i h->∀b∈fp,∃o,h.get? b=some o/\∀v,o.data≠.cell v
 keep:∀i h h',tn i h->(∀b∈fp,∀o,h.get? b=some o->h'.get? b=some o)->tn i h'
 item:∀(X:Cx),X.prog=P->X.w=w->X.K=K->X.calm=true->∀(i:Nat) (pins:List (ai×Obj)) (s:ag) (σ:St) (H:Hp) (E:af->ag->Prop),Inv X pins σ H s->(∀b∈fp,cL X pins H b)->tn i s.heap->J.go i H->
  wpAny (model P w) X.A (pyNext (.ref it)) (λr s1=>∃u,r=some u /\
   wpAny (model P w) X.A (letOwnedTupleGo tg (.ref it) u) (λ_ s2=>∃x H',Inv X pins σ H' s2/\RelV x u/\J.yld i H x H'/\tn (i+1) s2.heap/\∀b∈fp,H' b=none) E s1) E s
 done:∀(X:Cx),X.prog=P->X.w=w->X.K=K->X.calm=true->∀(i:Nat) (pins:List (ai×Obj)) (s:ag) (σ:St) (H:Hp) (E:af->ag->Prop),Inv X pins σ H s->(∀b∈fp,cL X pins H b)->tn i s.heap->J.stop i H->
  wpAny (model P w) X.A (pyNext (.ref it)) (λr s1=>r=none/\Inv X pins σ H s1) E s
 self:∀(A:cg) (i:Nat) (s:ag) (Q:af->ag->Prop) (E:af->ag->Prop),tn i s.heap->Q (.ref it) s->wpAny (model P w) A (pyIter (.ref it)) Q E s
abbrev TI:=St->Hp->(It->Hp->Prop)->Prop
def EZ (X:Cx) (pins:List (ai×Obj)) (σ:St) (tg:bu) (R:It->Hp->Prop) (itv:af) (s2:ag):Prop:=∃(it:ai) (fp:List ai) (tn:Nat->cp->Prop) (J:It) (H':Hp),itv=.ref it/\Inv X pins σ H' s2/\Turn X.prog X.w X.K tg J fp it tn/\tn 0 s2.heap/\(∀b∈fp,cL X pins H' b)/\R J H'
def PI (X:Cx) (tg iter:bu) (wi:TI):Prop:=
 ∀(pins:List (ai×Obj)) (s:ag) (σ:St) (H:Hp) (R:It->Hp->Prop),Inv X pins σ H s->wi σ H R->
  wpAny (model X.prog X.w) X.A (eval iter X.env) (λv s1=>wpAny (model X.prog X.w) X.A (pyIter v) (EZ X pins σ tg R) X.xe s1) X.xe s
theorem zE {M:Aq}{A:cg}{E:af->ag->Prop}{s:ag}{tg:bu}{it:ai}{u:af}{o:Obj}{n:String}{vs:Array af}{Q:Unit->ag->Prop}(ho:s.heap.get? it=some o) (hc:o.cls=.type n) (hd:o.data=.fields vs)
  (hn:["enumerate","zip","dict_itemiterator","dict_reverseitemiterator","odict_iterator","itertools.zip_longest","itertools.pairwise"].contains n=false) (hQ:Q () s):wpAny M A (letOwnedTupleGo tg (.ref it) u) Q E s:=by
 unfold letOwnedTupleGo
 cases tg <;> first
  |exact ah hQ
  |(cases u <;> first
    |exact ah hQ
    |(refine aa (wpAny_load ho ?_);rw[hc,hd];show wpAny M A (if(["enumerate","zip","dict_itemiterator","dict_reverseitemiterator","odict_iterator","itertools.zip_longest","itertools.pairwise"].contains n&&vs[0]?==some (rawInt _))=true then _ else _) Q E s;rw[if_neg (by intro h;rw[hn,Bool.false_and]at h;cases h)];exact ah hQ))
def E1 (K:aq) (a:ai):It:=⟨λi H=>∃xs x,SqL K H a xs/\xs[i]?=some x,λi H x H'=>H'=H/\∀xs,SqL K H a xs->xs[i]?=some x,λi H=>∃xs,SqL K H a xs/\xs.length<=i⟩
def zF (K:aq) (a:ai):It:=⟨λi H=>∃xs x,SqT K H a xs/\xs[i]?=some x,λi H x H'=>H'=H/\∀xs,SqT K H a xs->xs[i]?=some x,λi H=>∃xs,SqT K H a xs/\xs.length<=i⟩
def qL (lo:Int) (n:Nat):It:=⟨λi _=>i<n,λi H x H'=>H'=H/\x=.int (lo+i),λi _=>n<=i⟩
theorem OK {P:bg}{w:cn}{K:aq}{tg:bu}(a it:ai):Turn P w K tg (E1 K a) [it] it (λi h=>h.IsListIter it a i) where
 mem:=by simp
 obj:=λi h st b hb=>by
  have e:b=it:=by simpa using hb
  subst e;obtain⟨o,e,c,d⟩:=st;exact⟨o,e,λv z=>by rw[d]at z;cases z⟩
 keep:=λi h h' st k=>st.at λo e=>k it (by simp) o e
 item:=by intro X hP hw hK hc i pins s σ H E I hf st hg;subst hP hw hK;obtain⟨xs,x,hq,hx⟩:=hg;obtain⟨its,rv,p,hz⟩:=I.list hq;obtain⟨u,hu,ru⟩:=rv.get hx;obtain⟨f0,f1,f2,f3,f4,f5⟩:=hf it (by simp);refine wpAny_pyNext_list_item st p.isList (x:=u) (by simpa using hu) λh' st' sb=>?_;have I1:Inv X pins σ H { s with heap:=h' }:=I.turned (t':=s.toks) (λb o hb e=>(sb.2 b hb).trans e) f0 f1 f3 f4 f5;obtain⟨o,e,c,d⟩:=id st';exact⟨u,rfl,zE (s:={ s with heap:=h' }) e c d (by decide) ⟨x,H,I1,ru,⟨rfl,λys hy=>by rw[I.list_inj hy hq];exact hx⟩,st',λb hb=>(hf b hb).1⟩⟩
 done:=by intro X hP hw hK hc i pins s σ H E I hf st hg;subst hP hw hK;obtain⟨xs,hq,hx⟩:=hg;obtain⟨its,rv,p,hz⟩:=I.list hq;obtain⟨f0,f1,f2,f3,f4,f5⟩:=hf it (by simp);have hl:=rv.length;exact wpAny_pyNext_list_end (I.ok.hd hc) st p.isList (by simp;omega) λh' eb=>⟨rfl,I.turned (t':=s.toks) (λb o hb e=>eb b o hb e) f0 f1 f3 f4 f5⟩
 self:=λ_ _ _ _ _ st h=>wpAny_pyIter_listiter st h
theorem OL {P:bg}{w:cn}{K:aq}{tg:bu}(a it:ai):Turn P w K tg (zF K a) [it] it (λi h=>h.IsTupleIter it a i) where
 mem:=by simp
 obj:=λi h st b hb=>by
  have e:b=it:=by simpa using hb
  subst e;obtain⟨o,e,c,d⟩:=st;exact⟨o,e,λv z=>by rw[d]at z;cases z⟩
 keep:=λi h h' st k=>st.at λo e=>k it (by simp) o e
 item:=by intro X hP hw hK hc i pins s σ H E I hf st hg;subst hP hw hK;obtain⟨xs,x,hq,hx⟩:=hg;obtain⟨its,rv,p,hz⟩:=I.tuple hq;obtain⟨u,hu,ru⟩:=rv.get hx;obtain⟨f0,f1,f2,f3,f4,f5⟩:=hf it (by simp);refine wpAny_pyNext_tuple_item st (show s.heap.IsTuple a its.toArray from p) (x:=u) (by simpa using hu) λh' st' sb=>?_;have I1:Inv X pins σ H { s with heap:=h' }:=I.turned (t':=s.toks) (λb o hb e=>(sb.2 b hb).trans e) f0 f1 f3 f4 f5;obtain⟨o,e,c,d⟩:=id st';exact⟨u,rfl,zE (s:={ s with heap:=h' }) e c d (by decide) ⟨x,H,I1,ru,⟨rfl,λys hy=>by rw[I.tuple_inj hy hq];exact hx⟩,st',λb hb=>(hf b hb).1⟩⟩
 done:=by intro X hP hw hK hc i pins s σ H E I hf st hg;subst hP hw hK;obtain⟨xs,hq,hx⟩:=hg;obtain⟨its,rv,p,hz⟩:=I.tuple hq;obtain⟨f0,f1,f2,f3,f4,f5⟩:=hf it (by simp);have hl:=rv.length;exact wpAny_pyNext_tuple_end (I.ok.hd hc) st (show s.heap.IsTuple a its.toArray from p) (by simp;omega) λh' eb=>⟨rfl,I.turned (t':=s.toks) (λb o hb e=>eb b o hb e) f0 f1 f3 f4 f5⟩
 self:=λ_ _ _ _ _ st h=>wpAny_pyIter_tupleiter st h
theorem OM {P:bg}{w:cn}{K:aq}{tg:bu}(it:ai) (lo:Int) (n:Nat):Turn P w K tg (qL lo n) [it] it (λi h=>IsRangeIter h it (lo+(i:Nat)*1) ((n:Int) - (i:Nat)) 1) where
 mem:=by simp
 obj:=λi h st b hb=>by
  have e:b=it:=by simpa using hb
  subst e;exact⟨_,st,λv z=>by
   have z':Data.fields _=Data.cell v:=z
   cases z'⟩
 keep:=λi h h' st k=>k it (by simp) _ st
 item:=by intro X hP hw hK hc i pins s σ H E I hf st hg;subst hP hw hK;obtain⟨f0,f1,f2,f3,f4,f5⟩:=hf it (by simp);have W:=Walks.range (prog:=X.prog) (w:=X.w) (I.ok.hd hc) it lo 1 n;refine W.item i s _ _ hg st λv h' tk hv st' kk=>?_;obtain⟨t,rfl⟩:=hv;have I1:Inv X pins σ H { s with heap:=h',toks:=tk }:=I.turned (λb o hb e=>kk b o (by simpa using hb) e) f0 f1 f3 f4 f5;refine⟨_,rfl,zE (s:={ s with heap:=h',toks:=tk }) (n := "range_iterator") st' rfl rfl (by decide) ⟨.int (lo+i),H,I1,⟨t, ?_⟩,⟨rfl,rfl⟩,st',λb hb=>(hf b hb).1⟩⟩;rw[Int.mul_one]
 done:=by intro X hP hw hK hc i pins s σ H E I hf st hg;subst hP hw hK;obtain⟨f0,f1,f2,f3,f4,f5⟩:=hf it (by simp);exact wpAny_pyNext_range_end (I.ok.hd hc) st (by have:n<=i:=hg;omega) λh' eb=>⟨rfl,I.turned (t':=s.toks) (λb o hb e=>eb b o hb e) f0 f1 f3 f4 f5⟩
 self:=λ_ _ _ _ _ st h=>wpAny_pyIter_rangeiter st h
section
variable{X:Cx}{tg:bu}
def ON (K:aq) (tl:TE):TI:=λσ H R=>tl σ H λx H1=>∃a,x=.ref a/\(∃xs,SqL K H1 a xs)/\R (E1 K a) H1
def OO (K:aq) (tl:TE):TI:=λσ H R=>tl σ H λx H1=>∃a,x=.ref a/\(∃xs,SqT K H1 a xs)/\R (zF K a) H1
theorem OP {l:bu}{tl:TE}(hl:PE X l tl):PI X tg l (ON X.K tl):=by
 intro pins s σ H R I h;refine aX (hl pins s σ H _ I h) λv s1 ⟨x,H1,I1,r1,q1⟩=>?_;obtain⟨a,e,⟨xs,hq⟩,q⟩:=q1;subst e;cases r1;obtain⟨its,rv,p,hz⟩:=I1.list hq;refine tj p.isList ?_;refine⟨s1.heap.objs.size,[s1.heap.objs.size],_,_,H1,rfl,I1.kept (t':=s1.toks) λb o e=>aj _ e,OK a _,⟨_,ax _ rfl,rfl,rfl⟩,λb hb=>?_,q⟩;have e:b=s1.heap.objs.size:=by simpa using hb
 subst e;exact I1.fpOk (ak _) (I1.hok.fresh (ak _))
theorem OQ {l:bu}{tl:TE}(hl:PE X l tl):PI X tg l (OO X.K tl):=by
 intro pins s σ H R I h;refine aX (hl pins s σ H _ I h) λv s1 ⟨x,H1,I1,r1,q1⟩=>?_;obtain⟨a,e,⟨xs,hq⟩,q⟩:=q1;subst e;cases r1;obtain⟨its,rv,p,hz⟩:=I1.tuple hq;refine oq (show s1.heap.IsTuple a its.toArray from p) ?_;refine⟨s1.heap.objs.size,[s1.heap.objs.size],_,_,H1,rfl,I1.kept (t':=s1.toks) λb o e=>aj _ e,OL a _,⟨_,ax _ rfl,rfl,rfl⟩,λb hb=>?_,q⟩;have e:b=s1.heap.objs.size:=by simpa using hb
 subst e;exact I1.fpOk (ak _) (I1.hok.fresh (ak _))
theorem E2 {pins:List (ai×Obj)}{σ:St}{H:Hp}{s:ag}{R:It->Hp->Prop}{E:af->ag->Prop}{lo hi:Int}{t u v:Tok}{tk:Nat}(I:Inv X pins σ H s) (h1 : -(2 ^ 62)<=lo) (h2:lo<2 ^ 62) (h3 : -(2 ^ 62)<=hi) (h4:hi<2 ^ 62)
  (q:R (qL lo (hi - lo).toNat) H):wpAny (model X.prog X.w) X.A (pyIter (.ref s.heap.objs.size)) (EZ X pins σ tg R) E { s with heap:=s.heap.push { cls:=.type "range",data:=.fields #[.int lo t,.int hi u,.int 1 v] },toks:=tk }:=by
 refine wpAny_pyIter_range (IsRange.new ..) (small_one h1 h2 h3 h4) ?_;have I1:Inv X pins σ H { s with heap:=s.heap.push { cls:=.type "range",data:=.fields #[.int lo t,.int hi u,.int 1 v] },toks:=tk }:=I.kept λb o e=>aj _ e;refine⟨(s.heap.push { cls:=.type "range",data:=.fields #[.int lo t,.int hi u,.int 1 v] }).objs.size,[(s.heap.push { cls:=.type "range",data:=.fields #[.int lo t,.int hi u,.int 1 v] }).objs.size],_,_,H,rfl,
  I1.kept (t':=tk) λb o e=>aj _ e,OM _ lo (hi - lo).toNat, ?_,λb hb=>?_,q⟩
 ·have e1:lo+((0:Nat):Int)*1=lo:=by simp
  have e2:(((hi - lo).toNat:Nat):Int) - ((0:Nat):Int)=we lo hi 1:=by rw[Cj];split <;> omega
  show IsRangeIter _ _ (lo+((0:Nat):Int)*1) ((((hi - lo).toNat:Nat):Int) - ((0:Nat):Int)) 1;rw[e1,e2];exact ax _ rfl
 ·have e:b=(s.heap.push { cls:=.type "range",data:=.fields #[.int lo t,.int hi u,.int 1 v] }).objs.size:=by simpa using hb
  subst e;exact I1.fpOk (ak _) (I1.hok.fresh (ak _))
def OR (ta:TA):TI:=λσ H R=>ta σ H λvs H1=>∃j:Int,vs=[.int j]/\-(2 ^ 62)<=j/\j<2 ^ 62/\R (qL 0 j.toNat) H1
def OS (ta:TA):TI:=λσ H R=>ta σ H λvs H1=>∃i j:Int,vs=[.int i,.int j]/\(-(2 ^ 62)<=i/\i<2 ^ 62/\-(2 ^ 62)<=j/\j<2 ^ 62)/\R (qL i (j - i).toNat) H1
theorem OT {a:bu}{ta:TA}{p pos:Pos}(hg:Gl X "range") (hm:X.mg "range" = none) (ha:PA X [a] ta) (hs:aw [a] X.env=[(false,eval a X.env)]:=by rfl):PI X tg (.Call (.Name "range" p) [a] [] pos) (OR ta):=by
 intro pins s σ H R I h;refine Call_ (lX I hg hm Bp (ic (aX (ha pos pins s σ H _ I h) λus s1 ⟨vs,H1,I1,r1,q1⟩=>?_) hs rfl));obtain⟨j,e,q1,q2,q⟩:=q1;subst e
 cases r1 with
 |cons r rr=>cases rr;obtain⟨t,rfl⟩:=r;exact call_range_1 (E2 I1 (by omega) (by omega) q1 q2 (by simpa using q))
theorem OU {a b:bu}{ta:TA}{p pos:Pos}(hg:Gl X "range") (hm:X.mg "range" = none) (ha:PA X [a,b] ta) (hs:aw [a,b] X.env=[(false,eval a X.env),(false,eval b X.env)]:=by rfl) (hs2:aw [b] X.env=[(false,eval b X.env)]:=by rfl):
  PI X tg (.Call (.Name "range" p) [a,b] [] pos) (OS ta):=by
 intro pins s σ H R I h;refine Call_ (lX I hg hm Bp (ic (aX (ha pos pins s σ H _ I h) λus s1 ⟨vs,H1,I1,r1,q1⟩=>?_) (by rw[hs,hs2]) (by rw[hs2];rfl)));obtain⟨i,j,e,⟨q1,q2,q3,q4⟩,q⟩:=q1;subst e
 cases r1 with
 |cons r rr=>
  cases rr with
  |cons r' rr=>cases rr;obtain⟨t,rfl⟩:=r;obtain⟨t',rfl⟩:=r';exact call_range_2 (E2 I1 q1 q2 q3 q4 q)
def OV (wi:TI) (g:TG) (tb:TS):TS:=λD σ H=>wi σ H λJ H1=>∃W:Nat->Nat->St->Hp->Prop,(∃m,W 0 m σ H1)/\∀i m σ H,W i m σ H->
 (J.stop i H/\D.nx σ H)∨(J.go i H/\∃N:St->Hp->Prop,(∀σ' H',N σ' H'->∃m',m'<m/\W (i+1) m' σ' H')/\∀x H',J.yld i H x H'->g x σ H' λσ2 H2=>tb { D with nx:=N,ct:=N,bk:=D.nx } σ2 H2)
def iY (fp:List ai) (h:cp):List (ai×Obj):=fp.filterMap λb=>(h.get? b).map λo=>(b,o)
theorem oU {fp:List ai}{h:cp}{b:ai}{o:Obj}(hb:b∈fp) (e:h.get? b=some o):(b,o)∈iY fp h:=jt.mpr ⟨b,hb,by rw[e];rfl⟩
theorem zG {fp:List ai}{h:cp}{p:ai×Obj}(hp:p∈iY fp h):p.1∈fp/\h.get? p.1=some p.2:=by
 obtain⟨b,hb,e⟩:=jt.mp hp
 cases q:h.get? b with
 |none=>rw[q]at e;cases e
 |some o=>rw[q]at e;have e':(b,o)=p:=cx e;subst e';exact⟨hb,q⟩
theorem Inv.pinned {pins:List (ai×Obj)}{σ:St}{H:Hp}{s:ag}{fp:List ai}(I:Inv X pins σ H s) (hf:∀b∈fp,cL X pins H b) (ho:∀b∈fp,∃o,s.heap.get? b=some o/\∀v,o.data≠.cell v):Inv X (pins++iY fp s.heap) σ H s:=I.pins_of λp hp=>(br.mp hp).elim (λz=>I.pin p (cj _ z)) λz=>by obtain⟨hb,e⟩:=zG z;obtain⟨f0,f1,f2,_⟩:=hf p.1 hb;obtain⟨o,e',d⟩:=ho p.1 hb;rw[e]at e';cases e';exact⟨e,f0,f1,f2,d⟩
theorem Inv.unpinned {pins pl:List (ai×Obj)}{σ:St}{H:Hp}{s:ag}(I:Inv X (pins++pl) σ H s):Inv X pins σ H s:=I.pins_of λp hp=>I.pin p (cj _ (jw _ hp))
theorem OW {iter:bu}{body:List gv}{wi:TI}{g:TG}{tb:TS}{pos:Pos}(hp:zi (model X.prog X.w) X.A X.env X.xe) (hc:X.calm=true) (hi:PI X tg iter wi) (hg:PG X tg g) (hb:PSs X body tb)
  (hs:∀x,foldedSetIterable iter X.env x=pure x:=by intro _;rfl):PS X (.For tg iter body [] pos) (OV wi g tb):=by
 intro pins s σ H D I h;refine wpAny_For (aX (hi pins s σ H _ I h) λv s1 h1=>aX h1 λitv s2 h2=>?_) hs;obtain⟨it,fp,tn,J,H2,e,I2,T,st2,f2,W,⟨m0,w0⟩,turn⟩:=h2;subst e;have stat:∀{H':Hp},(∀b∈fp,H' b=none)->∀b∈fp,cL X pins H' b:=λhn b hb=>⟨hn b hb,(f2 b hb).2⟩
 refine codeAny_forLoop_any (λn s'=>∃i σ' H',Inv X pins σ' H' s'/\tn i s'.heap/\(∀b∈fp,H' b=none)/\W i n σ' H') ?_ m0 ⟨0,σ,H2,I2,st2,λb hb=>(f2 b hb).1,w0⟩
 rintro n s3 ⟨i,σ3,H3,I3,st3,fr3,w3⟩
 rcases turn i n σ3 H3 w3 with⟨stop,qn⟩|⟨go,N,hN,step⟩
 ·refine lr hp (aX (T.done X rfl rfl rfl hc i pins s3 σ3 H3 X.xe I3 (stat fr3) st3 stop) λr s4 ⟨hr,I4⟩=>?_);subst hr;exact og ⟨σ3,H3,I4,qn⟩
 ·refine lr hp (aX (T.item X rfl rfl rfl hc i pins s3 σ3 H3 X.xe I3 (stat fr3) st3 go) λr s4 ⟨u,hr,h4⟩=>?_);subst hr;refine lr hp (aX h4 λ_ s5 ⟨x,H5,I5,r5,y5,st5,fr5⟩=>?_);have I5':=I5.pinned (stat fr5) (T.obj _ _ st5);refine lr hp (aX (hg _ s5 σ3 H5 x u _ I5' r5 (step x H5 y5)) λ_ s6 ⟨σ6,H6,I6,q6⟩=>?_);refine lr hp (aX (hb _ s6 σ6 H6 _ I6 q6) λf s7 q7=>?_);have again:∀{σ7:St}{H7:Hp},Inv X (pins++iY fp s5.heap) σ7 H7 s7->N σ7 H7->∃m,m<n/\∃i σ' H',Inv X pins σ' H' s7/\tn i s7.heap/\(∀b∈fp,H' b=none)/\W i m σ' H':=λ{σ7 H7} I7 n7=>by obtain⟨m',hm,w7⟩:=hN σ7 H7 n7;refine⟨m',hm,i+1,σ7,H7,I7.unpinned,T.keep _ _ _ st5 λb hb o e=>(I7.pin (b,o) (cj _ (cj _ (oU hb e)))).1,λb hb=>?_,w7⟩;obtain⟨o,e,d⟩:=T.obj _ _ st5 b hb;exact(I7.pin (b,o) (cj _ (cj _ (oU hb e)))).2.1
  cases f with
  |next=>obtain⟨σ7,H7,I7,n7⟩:=q7;exact again I7 n7
  |cont=>obtain⟨σ7,H7,I7,n7⟩:=q7;exact again I7 n7
  |brk=>obtain⟨σ7,H7,I7,q7⟩:=q7;exact⟨σ7,H7,I7.unpinned,q7⟩
  |ret v=>obtain⟨x7,σ7,H7,I7,r7,q7⟩:=q7;exact⟨x7,σ7,H7,I7.unpinned,r7,q7⟩
end
abbrev R2:=V->V->Hp->VK->Prop
def OpR (X:Cx) (f:af->af->Sem af) (r:R2):Prop:=
 ∀(pins:List (ai×Obj)) (s:ag) (σ:St) (H:Hp) (x y:V) (v u:af) (Q:VK),Inv X pins σ H s->RelV x v->RelV y u->r x y H Q->
  wpAny (model X.prog X.w) X.A (f v u) (EP X pins σ Q) X.xe s
def tR (X:Cx) (f:af->Sem af) (r:V->Hp->VK->Prop):Prop:=
 ∀(pins:List (ai×Obj)) (s:ag) (σ:St) (H:Hp) (x:V) (v:af) (Q:VK),Inv X pins σ H s->RelV x v->r x H Q->
  wpAny (model X.prog X.w) X.A (f v) (EP X pins σ Q) X.xe s
def CallR (X:Cx) (f:af) (r:List V->Hp->VK->Prop):Prop:=
 ∀(pins:List (ai×Obj)) (s:ag) (σ:St) (H:Hp) (xs:List V) (us:List af) (Q:VK),Inv X pins σ H s->Vals xs us->r xs H Q->
  wpAny (model X.prog X.w) X.A (call f us) (EP X pins σ Q) X.xe s
def OX (X:Cx) (r:V->Hp->(Bool->Hp->Prop)->Prop):Prop:=
 ∀(pins:List (ai×Obj)) (s:ag) (σ:St) (H:Hp) (x:V) (v:af) (Q:Bool->Hp->Prop),Inv X pins σ H s->RelV x v->r x H Q->
  wpAny (model X.prog X.w) X.A (truthy v) (TP X pins σ Q) X.xe s
def qM (r:R2) (ta tb:TE):TE:=λσ H Q=>ta σ H λx H1=>tb σ H1 λy H2=>r x y H2 Q
def OY (r:V->Hp->VK->Prop) (ta:TE):TE:=λσ H Q=>ta σ H λx H1=>r x H1 Q
def rI (C:Int->Int->Prop) (g:Int->Int->V):R2:=λx y H Q=>∃i j,x=.int i/\y=.int j/\C i j/\Q (g i j) H
def iZ (g:Int->Int->V):R2:=λx y H Q=>∃i j,x=.int i/\y=.int j/\Q (g i j) H
def rU (g:Int->V):V->Hp->VK->Prop:=λx H Q=>∃i,x=.int i/\Q (g i) H
section
variable{X:Cx}{a b c:bu}{ta tb tc:TE}{pos:Pos}
theorem zH (ha:PE X a ta) (hb:PE X b tb) {pins:List (ai×Obj)}{s:ag}{σ:St}{H:Hp}{R:V->V->Hp->Prop}(I:Inv X pins σ H s)
  (h:ta σ H λx H1=>tb σ H1 λy H2=>R x y H2) {Q:af->ag->Prop}{f:af->af->Sem af}
  (hf:∀v u s2 x y H2,Inv X pins σ H2 s2->RelV x v->RelV y u->R x y H2->wpAny (model X.prog X.w) X.A (f v u) Q X.xe s2):
  wpAny (model X.prog X.w) X.A (eval a X.env) (λv s₁=>wpAny (model X.prog X.w) X.A (eval b X.env) (λu s₂=>wpAny (model X.prog X.w) X.A (f v u) Q X.xe s₂) X.xe s₁) X.xe s:=by
 refine aX (ha pins s σ H _ I h) λv s1 ⟨x,H1,I1,r1,q1⟩=>?_;refine aX (hb pins s1 σ H1 _ I1 q1) λu s2 ⟨y,H2,I2,r2,q2⟩=>?_;exact hf v u s2 x y H2 I2 r1 r2 q2
theorem OZ {op:Operator}{r:R2}(ho:OpR X (binaryOp op) r) (ha:PE X a ta) (hb:PE X b tb):PE X (.BinOp a op b pos) (qM r ta tb):=by intro pins s σ H Q I h;exact wpAny_BinOp (zH ha hb I h λv u s2 x y H2 I2 rx ry q=>ho pins s2 σ H2 x y v u Q I2 rx ry q)
theorem O2 {op:UnaryOp}{r:V->Hp->VK->Prop}(ho:tR X (unaryOp op) r) (ha:PE X a ta):PE X (.UnaryOp op a pos) (OY r ta):=by intro pins s σ H Q I h;exact UnaryOp_ (aX (ha pins s σ H _ I h) λv s1 ⟨x,H1,I1,r1,q1⟩=>ho pins s1 σ H1 x v Q I1 r1 q1)
theorem tT {f:af->af->Sem af}{C:Int->Int->Prop}{g:Int->Int->Int}
  (rule:∀(i j:Int) (t u:Tok) (s:ag) (Q:af->ag->Prop) (E:af->ag->Prop),C i j->Q (.int (g i j) s.toks) { s with toks:=s.toks+1 }->wpAny (model X.prog X.w) X.A (f (.int i t) (.int j u)) Q E s):
  OpR X f (rI C λi j=>.int (g i j)):=by
 intro pins s σ H x y v u Q I rx ry h;obtain⟨i,j,rfl,rfl,hc,q⟩:=h;obtain⟨t,rfl⟩:=rx;obtain⟨t',rfl⟩:=ry;exact rule i j t t' s _ _ hc ⟨.int (g i j),H,I.tok _,⟨_,rfl⟩,q⟩
theorem E3 {f:af->af->Sem af}{g:Int->Int->Int}
  (rule:∀(i j:Int) (t u:Tok) (s:ag) (Q:af->ag->Prop) (E:af->ag->Prop),Q (.int (g i j) s.toks) { s with toks:=s.toks+1 }->wpAny (model X.prog X.w) X.A (f (.int i t) (.int j u)) Q E s):
  OpR X f (iZ λi j=>.int (g i j)):=by
 intro pins s σ H x y v u Q I rx ry h;obtain⟨i,j,rfl,rfl,q⟩:=h;obtain⟨t,rfl⟩:=rx;obtain⟨t',rfl⟩:=ry;exact rule i j t t' s _ _ ⟨.int (g i j),H,I.tok _,⟨_,rfl⟩,q⟩
theorem tU {f:af->af->Sem af}{g:Int->Int->Bool}
  (rule:∀(i j:Int) (t u:Tok) (s:ag) (Q:af->ag->Prop) (E:af->ag->Prop),Q (.bool (g i j)) s->wpAny (model X.prog X.w) X.A (f (.int i t) (.int j u)) Q E s):
  OpR X f (iZ λi j=>.bl (g i j)):=by
 intro pins s σ H x y v u Q I rx ry h;obtain⟨i,j,rfl,rfl,q⟩:=h;obtain⟨t,rfl⟩:=rx;obtain⟨t',rfl⟩:=ry;exact rule i j t t' s _ _ ⟨.bl (g i j),H,I,rfl,q⟩
def zI (i j:Int):Prop:=0<=j/\j<=1000000/\i.natAbs<2 ^ 64
def CMul (i j:Int):Prop:=(-(2 ^ 64)<i/\i<2 ^ 64)∨(-(2 ^ 64)<j/\j<2 ^ 64)
theorem CMul.ok {i j:Int}(h:CMul i j):IntMulOk i j:=by
 rcases h with⟨h1,h2⟩|⟨h1,h2⟩
 ·exact .of_left (intBits_le_64 h1 h2)
 ·exact .of_right (intBits_le_64 h1 h2)
theorem op_add:OpR X (binaryOp .Add) (iZ λi j=>.int (i+j)):=E3 λ_ _ _ _ _ _ _ q=>add_int q
theorem O3:OpR X (binaryOp .Sub) (iZ λi j=>.int (i - j)):=E3 λ_ _ _ _ _ _ _ q=>sub_int q
theorem O4:OpR X (binaryOp .Mult) (rI CMul λi j=>.int (i*j)):=tT λ_ _ _ _ _ _ _ hc q=>mul_int q hc.ok
theorem O5:OpR X (binaryOp .Mod) (rI (λ_ j=>0<j) λi j=>.int (i % j)):=tT λi j _ _ _ _ _ hc q=>by have h1:(0:Int)<j:=hc;exact mod_int' (by omega) (by rw[Int.fmod_eq_emod_of_nonneg i (by omega)];exact q)
theorem O6:OpR X (binaryOp .Pow) (rI zI λi j=>.int (i ^ j.toNat)):=tT λ_ _ _ _ _ _ _ hc q=>pow_int_small hc.1 hc.2.1 hc.2.2 q
theorem O7 {f:af->Sem af}{g:Int->Int}
  (rule:∀(i:Int) (t:Tok) (s:ag) (Q:af->ag->Prop) (E:af->ag->Prop),Q (.int (g i) s.toks) { s with toks:=s.toks+1 }->wpAny (model X.prog X.w) X.A (f (.int i t)) Q E s):
  tR X f (rU λi=>.int (g i)):=by
 intro pins s σ H x v Q I rx h;obtain⟨i,rfl,q⟩:=h;obtain⟨t,rfl⟩:=rx;exact rule i t s _ _ ⟨.int (g i),H,I.tok _,⟨_,rfl⟩,q⟩
theorem O8:tR X (unaryOp .USub) (rU λi=>.int (-i)):=O7 λ_ _ _ _ _ q=>neg_int q
end
section
variable{X:Cx}{a b c:bu}{ta tb tc:TE}{pos:Pos}
theorem zJ:OpR X (compareOp .Lt) (iZ λi j=>.bl (decide (i<j))):=tU λ_ _ _ _ _ _ _ q=>lt_int q
theorem zK:OpR X (compareOp .LtE) (iZ λi j=>.bl (decide (i<=j))):=tU λ_ _ _ _ _ _ _ q=>le_int q
theorem O9:OpR X (compareOp .Gt) (iZ λi j=>.bl (decide (j<i))):=tU λ_ _ _ _ _ _ _ q=>gt_int q
theorem PB:OpR X (compareOp .GtE) (iZ λi j=>.bl (decide (j<=i))):=tU λ_ _ _ _ _ _ _ q=>ge_int q
theorem OpR.or {f:af->af->Sem af}{r r':R2}(h:OpR X f r) (h':OpR X f r'):OpR X f (λx y H Q=>r x y H Q∨r' x y H Q):=by
 intro pins s σ H x y v u Q I rx ry q
 rcases q with q|q
 ·exact h pins s σ H x y v u Q I rx ry q
 ·exact h' pins s σ H x y v u Q I rx ry q
theorem lY (b:bu) {op:CmpOp}(h:op≠.In:=by decide) (h2:op≠.NotIn:=by decide):behindInMarks op b=false:=by
 have e1:(op==CmpOp.In)=false:=by cases op <;> first|rfl|exact absurd rfl h
 have e2:(op==CmpOp.NotIn)=false:=by cases op <;> first|rfl|exact absurd rfl h2
 cases b <;> simp[behindInMarks,e1,e2]
theorem PC {op:CmpOp}{r:R2}(ho:OpR X (compareOp op) r) (ha:PE X a ta) (hb:PE X b tb) (hm:behindInMarks op b=false):PE X (.Compare a [op] [b] pos) (qM r ta tb):=by intro pins s σ H Q I h;exact wpAny_Compare1 (zH ha hb I h λv u s2 x y H2 I2 rx ry q=>ho pins s2 σ H2 x y v u Q I2 rx ry q) hm
def PD (t:TE):TT:=λσ H Q=>t σ H λx H'=>∃k,x=.bl k/\Q k H'
theorem PF {op:CmpOp}{r:R2}(ho:OpR X (compareOp op) r) (ha:PE X a ta) (hb:PE X b tb) (hm:behindInMarks op b=false):PT X (.Compare a [op] [b] pos) (PD (qM r ta tb)):=by intro pins s σ H Q I h;refine wpAny_isTrue_Compare1 (aX (ha pins s σ H _ I h) λv s1 ⟨x,H1,I1,r1,q1⟩=>aX (hb pins s1 σ H1 _ I1 q1) λu s2 ⟨y,H2,I2,r2,q2⟩=>aX (ho pins s2 σ H2 x y v u _ I2 r1 r2 q2) λc s3 ⟨z,H3,I3,r3,k,e,q3⟩=>?_) hm;subst e;cases r3;exact jz ⟨H3,I3,q3⟩
def E4 (r r':R2) (ta tb tc:TE):TE:=λσ H Q=>ta σ H λx H1=>tb σ H1 λy H2=>r x y H2 λz H3=>∃k,z=.bl k /\
 (if k=true then tc σ H3 λw' H4=>r' y w' H4 Q else Q (.bl false) H3)
theorem PH {op op':CmpOp}{r r':R2}(ho:OpR X (compareOp op) r) (ho':OpR X (compareOp op') r') (ha:PE X a ta) (hb:PE X b tb) (hc:PE X c tc)
  (hm:lastMarks [op,op'] [b,c]=false:=by with_unfolding_all rfl):PE X (.Compare a [op,op'] [b,c] pos) (E4 r r' ta tb tc):=by
 intro pins s σ H Q I h;refine Compare_chain (aX (ha pins s σ H _ I h) λv s1 ⟨x,H1,I1,r1,q1⟩=>chain_link (aX (hb pins s1 σ H1 _ I1 q1) λu s2 ⟨y,H2,I2,r2,q2⟩=>aX (ho pins s2 σ H2 x y v u _ I2 r1 r2 q2) λd s3 ⟨z,H3,I3,r3,k,e,q3⟩=>?_)) hm;subst e;cases r3;refine jz ?_
 cases k with
 |false=>exact ite_ff ⟨.bl false,H3,I3,rfl,q3⟩
 |true=>exact ite_tt (chain_last (aX (hc pins s3 σ H3 _ I3 q3) λw' s4 ⟨z',H4,I4,r4,q4⟩=>ho' pins s4 σ H4 y z' u w' Q I4 r2 r4 q4))
def E5 (K:aq) (x:V) (H:Hp) (k:Bool):Prop:=
 match x with
 | .non=>k=false
 | .bl b=>k=b
 | .int i=>k=(i != 0)
 | .str y=>y.length<=ck/\k=((y.length:Int) != 0)
 | .byt y=>y.size<=ck/\k=((y.size:Int) != 0)
 | .ref p=>(∃xs,SqL K H p xs/\k=!xs.isEmpty)∨(∃xs,SqT K H p xs/\k=!xs.isEmpty)∨∃kvs,H p=some (.dK kvs)/\k=!kvs.isEmpty
 |_=>False
theorem PJ {κ:Type}{kvs:List (κ×V)}{vs:List (κ×af)}(r:KV kvs vs):(!vs.isEmpty)=!kvs.isEmpty:=by cases r <;> rfl
theorem E6 {xs:List V}{its:List af}(r:Vals xs its):(!its.toArray.isEmpty)=!xs.isEmpty:=by cases r <;> simp
theorem oV:(ck:Nat)<2 ^ 63:=by rw[ij];decide
theorem PK:OX X (λx H Q=>∃k,E5 X.K x H k/\Q k H):=by
 intro pins s σ H x v Q I rx h;obtain⟨k,e,q⟩:=h;have hl:=oV;have hs:ck=16777216:=ij
 cases x with
 |non=>cases rx;have e':k=false:=e;subst e';exact truthy_none ⟨H,I,q⟩
 |bl b=>cases rx;have e':k=b:=e;subst e';exact jz ⟨H,I,q⟩
 |int i=>obtain⟨t,rfl⟩:=rx;have e':k=(i != 0):=e;subst e';exact PySem.P.truthy_int ⟨H,I,q⟩
 |str y=>obtain⟨t,rfl⟩:=rx;obtain⟨hy,e'⟩:y.length<=ck/\k=((y.length:Int) != 0):=e;subst e';exact PySem.P.truthy_str (by omega) ⟨H,I.tok _,q⟩
 |byt y=>obtain⟨t,rfl⟩:=rx;obtain⟨hy,e'⟩:y.size<=ck/\k=((y.size:Int) != 0):=e;subst e';exact PySem.W.truthy_bytes (by omega) ⟨H,I.tok _,q⟩
 |ref p=>
  cases rx;have e':(∃xs,SqL X.K H p xs/\k=!xs.isEmpty)∨(∃xs,SqT X.K H p xs/\k=!xs.isEmpty)∨∃kvs,H p=some (.dK kvs)/\k=!kvs.isEmpty:=e
  rcases e' with⟨xs,hx,e'⟩|⟨xs,hx,e'⟩|⟨kvs,hx,e'⟩
  ·subst e';obtain⟨its,r,pl,hz⟩:=I.list hx;have hlen:=r.length;exact wpAny_truthy_list pl.isList (by simp only[av];omega) ⟨H,I.tok _,by rw[E6 r];exact q⟩
  ·subst e';obtain⟨its,r,pl,hz⟩:=I.tuple hx;have hlen:=r.length;exact truthy_tuple pl (by simp only[av];omega) ⟨H,I.tok _,by rw[E6 r];exact q⟩
  ·subst e';obtain⟨hz,hS,vs,r,m⟩:kvs.length<=ck/\(p==sysModules)=false/\∃vs,KV kvs vs/\s.heap.DictOf (yX X.prog X.w) p vs:=I.hok p _ hx;have hlen:kvs.length=vs.length:=Paired.length r;exact wpAny_truthy_dict hS m (by omega) ⟨H,I.tok _,by rw[PJ r];exact q⟩
 |_=>exact(show False from e).elim
theorem PL (ha:PE X a ta) (he:∀whole,isTrue a X.env whole=(do let v <-whole;standAt a.pos;holding [v] (truthy v))):
  PT X a (λσ H Q=>ta σ H λx H'=>∃k,E5 X.K x H' k/\Q k H'):=by
 intro pins s σ H Q I h;exact isTrue_plain (aX (ha pins s σ H _ I h) λv s1 ⟨x,H1,I1,r1,q1⟩=>PK pins s1 σ H1 x v Q I1 r1 q1) (he _)
theorem iF {x:V}{us:List af}(r:Vals [x] us):∃u,us=[u]/\RelV x u:=by
 cases r with
 |cons r1 r2=>cases r2;exact⟨_,rfl,r1⟩
theorem oW {x y:V}{us:List af}(r:Vals [x,y] us):∃u w',us=[u,w']/\RelV x u/\RelV y w':=by
 cases r with
 |cons r1 r2=>
  cases r2 with
  |cons r3 r4=>cases r4;exact⟨_,_,rfl,r1,r3⟩
theorem PM (hc:X.calm=true):CallR X (.builtin "max") (λxs H Q=>∃i j,xs=[.int i,.int j]/\Q (.int (if j>i then j else i)) H):=by
 intro pins s σ H xs us Q I r h;obtain⟨i,j,rfl,q⟩:=h;obtain⟨u,w',rfl,⟨t,rfl⟩,⟨t',rfl⟩⟩:=oW r;refine max_two_ints (I.ok.hd hc) λh' tk k=>⟨_,H,I.kept k, ?_,q⟩
 by_cases hj:j>i
 ·rw[if_pos hj,if_pos hj];exact⟨_,rfl⟩
 ·rw[if_neg hj,if_neg hj];exact⟨_,rfl⟩
theorem PN (hc:X.calm=true):CallR X (.builtin "min") (λxs H Q=>∃i j,xs=[.int i,.int j]/\Q (.int (if j<i then j else i)) H):=by
 intro pins s σ H xs us Q I r h;obtain⟨i,j,rfl,q⟩:=h;obtain⟨u,w',rfl,⟨t,rfl⟩,⟨t',rfl⟩⟩:=oW r;refine min_two_ints (I.ok.hd hc) λh' tk k=>⟨_,H,I.kept k, ?_,q⟩
 by_cases hj:j<i
 ·rw[if_pos hj,if_pos hj];exact⟨_,rfl⟩
 ·rw[if_neg hj,if_neg hj];exact⟨_,rfl⟩
end
section
variable{prog:bg}{w:cn}{A:cg}{E:af->ag->Prop}{s:ag}{K:aq}{x dx C f:ai}{mA:Str->Option af}{name:Str}{v:af}
end
section
variable{P:bg}{w:cn}{H H':Hp}{h h':cp}{a C dx:ai}{fs fs':List (Str×V)}
end
section
variable{X:Cx}{pins:List (ai×Obj)}{σ:St}{H:Hp}{s:ag}{a C dx:ai}{fs:List (Str×V)}{f:Str}{v:V}{A:cg}{E:af->ag->Prop}
end
section
variable{X:Cx}{o e value:bu}{f:Str}{pos pos' tpos:Pos}{ta tv:TE}
end
section
variable{X:Cx}{pins:List (ai×Obj)}{σ:St}{H:Hp}{s:ag}{A:cg}{E:af->ag->Prop}{Q:af->ag->Prop}{c:af}{b:Bool}
end
structure Room (k:Nat) (A:cg):Prop where
 hd:A.handled=none
 dp:A.depth+3*k+5<recursionLimit
 un:A.units+16*k+200<cLine
theorem Room.mono {j k:Nat}{A:cg}(r:Room k A) (h:j<=k):Room j A:=⟨r.hd,by have:=r.dp;omega,by have:=r.un;omega⟩
theorem Room.deeper {k:Nat}{A:cg}(r:Room (k+1) A) (env:Env):Room k (A.deeper env):=⟨r.hd,by have:=r.dp;show A.depth+1+3*k+5<_;omega,by have:=r.un;show A.units+3+16*k+200<_;omega⟩
theorem Room.depth {k:Nat}{A:cg}(r:Room k A):A.depth<recursionLimit:=by have:=r.dp;omega
theorem Room.units {k:Nat}{A:cg}(r:Room k A):A.units+64<cLine:=by have:=r.un;omega
def E7:TA:=λ_ H Q=>Q [] H
def E8 (ta:TE) (tr:TA):TA:=λσ H Q=>ta σ H λx H1=>tr σ H1 λxs H2=>Q (x::xs) H2
section
variable{X:Cx}{e:bu}{es:List bu}{te:TE}{t:TA}{pos:Pos}
theorem jA:PA X [] E7:=λ_ _ _ _ H Q I h=>Calls.spliced_nil ⟨[],H,I,.nil,h⟩
theorem gW (ha:PE X e te) (hr:PA X es t) (hs:aw (e::es) X.env=(false,eval e X.env)::aw es X.env:=by rfl):PA X (e::es) (E8 te t):=by intro pos pins s σ H Q I h;rw[hs];show wpAny _ _ (spliced ((false,eval e X.env)::backTo pos (aw es X.env))) _ _ s;refine Ck (aX (ha pins s σ H _ I h) λu s1 ⟨x,H1,I1,r1,q1⟩=>?_);exact aX (hr pos pins s1 σ H1 _ I1 q1) λus s2 ⟨xs,H2,I2,r2,q2⟩=>⟨x::xs,H2,I2,.cons r1 r2,q2⟩
def PQ (t:TA):TE:=λσ H Q=>t σ H λxs H1=>xs.length<=ck/\∀p,H1 p=none->Q (.ref p) (upd H1 p (.tup xs))
def PR (t:TA):TE:=λσ H Q=>t σ H λxs H1=>xs.length<=ck/\∀p,H1 p=none->Q (.ref p) (upd H1 p (.lst xs))
theorem E9 {x1} (h:PA X es t):PE X (.Tuple es x1 pos) (PQ t):=by intro pins s σ H Q I hq;refine wpAny_Tuple_spliced (aX (h pos pins s σ H _ I hq) λus s1 ⟨xs,H1,I1,r,z,q⟩=>⟨by rw[<-r.length];exact z, ?_⟩);have hf:H1 s1.heap.objs.size=none:=I1.hok.fresh (ak _);refine⟨.ref s1.heap.objs.size,upd H1 s1.heap.objs.size (.tup xs),I1.laid (t':=s1.toks) (λb u e=>aj _ e) (ak _) ?_,rfl,q _ hf⟩;exact⟨z,us,r,⟨_,ax _ rfl,rfl,rfl,_,rfl⟩⟩
theorem PU (h:PA X es t):PE X (.List es pos) (PR t):=by intro pins s σ H Q I hq;refine wpAny_List_spliced (aX (h pos pins s σ H _ I hq) λus s1 ⟨xs,H1,I1,r,z,q⟩=>⟨by rw[<-r.length];exact z, ?_⟩);have hf:H1 s1.heap.objs.size=none:=I1.hok.fresh (ak _);refine⟨.ref s1.heap.objs.size,upd H1 s1.heap.objs.size (.lst xs),I1.laid (t':=s1.toks) (λb u e=>aj _ e) (ak _) ?_,rfl,q _ hf⟩;exact⟨z,us,0,r,ax _ rfl⟩
end
abbrev Sp:=List V->Hp->VK->XK->Prop
abbrev lE:=List Env->Hp->ag->XK->af->ag->Prop
structure Env0 (P:bg) (w:cn) (K:aq) (mg:Str->Option af) (base:cp) (A:cg) (outer:List Env) (s:ag) (H:Hp):Prop where
 frames:A.frames=some outer
 mod:Mod K mg base
 bs:∀b o,base.get? b=some o->s.heap.get? b=some o/\H b=none
 bsz:base.objs.size<=s.heap.objs.size
 funs:s.heap.FunFrames base outer
 frf:∀b∈dH outer,H b=none
 hok:HOk P w H s.heap
 bare:sv s.gens
def CE (outer:List Env) (P:bg) (w:cn) (H:Hp) (s:ag) (Q:VK) (u:af) (s':ag):Prop:=∃v H',s'.os=s.os/\sv s'.gens/\Un (dH outer) [] H H' s.heap s'.heap/\HOk P w H' s'.heap/\RelV v u/\Q v H'
def CR (CX:lE) (outer:List Env) (P:bg) (w:cn) (H:Hp) (s:ag) (Q:VK) (E:XK) (r:xi) (s':ag):Prop:=
 match r with
 | .ok (.ret u)=>CE outer P w H s Q u s'
 | .ok _=>False
 | .error e=>CX outer H s E e s'
structure FnOk (P:bg) (w:cn) (K:aq) (mg:Str->Option af) (base:cp) (CX:lE) (k:Nat) (f:ai) (fd:bq) (ps:List Str) (sp:Sp):Prop where
 len:∀vs H Q E,sp vs H Q E->vs.length=ps.length
 run:∀(A:cg) (outer:List Env) (s:ag) (H:Hp) (args:Args) (us:List af) (vs:List V) (Q:VK) (E:XK),Room k A->Env0 P w K mg base A outer s H->BindsTo s fd args (ps.zip us)->Vals vs us->sp vs H Q E->
  codeAny (model P w) A (.call (.ref f) args) (CR CX outer P w H s Q E) s
section
variable{X:Cx}{pins:List (ai×Obj)}{σ:St}{H:Hp}{s s':ag}
theorem Inv.env0 (I:Inv X pins σ H s):Env0 X.prog X.w X.K X.mg X.base X.A X.stack s H:=⟨I.ok.frames,I.ok.mod,I.bs,dq I.ok.bsz I.sz,I.stack,I.stkFree,I.hok,I.bare⟩
theorem Inv.after {Q:VK}{u:af}(I:Inv X pins σ H s) (h:CE X.stack X.prog X.w H s Q u s'):EP X pins σ Q u s':=by obtain⟨v,H',os,bare,un,hok,r,q⟩:=h;obtain⟨hh,g,d,t,os'⟩:=s';obtain rfl:os'=s.os:=os;exact⟨v,H',I.call (h':=hh) (g':=g) (d':=d) (t':=t) (ch:=[]) un hok bare (λb z=>absurd z (by simp)),r,q⟩
end
def PV (sp:Sp) (dvs:List V) (E:XK) (t:TA):TE:=λσ H Q=>t σ H λvs H1=>sp (vs++dvs) H1 Q E
def Binds (K:aq) (fd:bq) (ps:List Str) (ds:List af):Prop:=∀(s:ag) (us:List af),K.In s.heap->(us++ds).length=ps.length->BindsTo s fd ⟨us,[]⟩ (ps.zip (us++ds))
theorem Binds.all {K:aq}{fd:bq}{ps:List Str}(h:∀us:List af,us.length=ps.length->bindArgs fd ⟨us,[]⟩=pure (ps.zip us)):Binds K fd ps []:=λs us _ hl=>by rw[kr]at hl ⊢;exact .of_eq (h us hl)
def zL (CX:lE) (X:Cx) (E:XK):Prop:=∀(pins:List (ai×Obj)) (σ:St) (H:Hp) (s:ag) (e:af) (s':ag),Inv X pins σ H s->CX X.stack H s E e s'->X.xe e s'
section
variable{X:Cx}{CX:lE}{k:Nat}{f C:ai}{fd:bq}{ps:List Str}{sp:Sp}{dvs:List V}{ds:List af}{E:XK}{x m:Str}{p pos apos:Pos}{e o:bu}{es:List bu}{ta:TE}{t:TA}
theorem PX {pins:List (ai×Obj)}{σ:St}{H:Hp}{s:ag}{Q:VK}{us:List af}{vs:List V}(F:FnOk X.prog X.w X.K X.mg X.base CX k f fd ps sp) (hr:Room k X.A) (hb:Binds X.K fd ps ds) (hd:Vals dvs ds) (hx:zL CX X E)
  (I:Inv X pins σ H s) (r:Vals vs us) (h:sp (vs++dvs) H Q E):wpAny (model X.prog X.w) X.A (call (.ref f) us) (EP X pins σ Q) X.xe s:=by
 have r2:Vals (vs++dvs) (us++ds):=r.append hd;have hl:(us++ds).length=ps.length:=by rw[<-r2.length];exact F.len _ _ _ _ h
 refine Bq (ni (F.run X.A X.stack s H ⟨us,[]⟩ (us++ds) (vs++dvs) Q E hr I.env0 (hb s us I.kIn hl) r2 h) λr s' hq=>?_)
 cases r with
 |error e=>exact hx pins σ H s e s' I hq
 |ok fl=>
  cases fl with
  |ret u=>exact I.after hq
  |next=>exact gw hq
  |brk=>exact gw hq
  |cont=>exact gw hq
theorem PY (F:FnOk X.prog X.w X.K X.mg X.base CX k f fd ps sp) (hr:Room k X.A) (hg:Gl X x) (hm:X.mg x=some (.ref f)) (hk:nr X.K (.ref f)=true) (hb:Binds X.K fd ps ds) (hd:Vals dvs ds) (hx:zL CX X E)
  (ha:PA X (e::es) t) (hdb:(x==("__debug__" : Str))=false:=by decide) (he:aw (e::es) X.env=(false,eval e X.env)::aw es X.env:=by rfl) (hpl:(backTo pos (aw es X.env)).any (·.1)=false:=by rfl):
  PE X (.Call (.Name x p) (e::es) [] pos) (PV sp dvs E t):=by
 intro pins s σ H Q I h;refine lg (qK I hg hm ?_ hdb);refine Br (h₀:=X.base) I.ok.mod.kin hk (aX (ha pos pins s σ H _ I h) λus s1 ⟨vs,H1,I1,r,q⟩=>⟨I1.kIn, ?_⟩) he hpl;exact PX F hr hb hd hx I1 r q
end
section
variable{X:Cx}{CX:lE}{k:Nat}{f C:ai}{fd:bq}{ps ks:List Str}{sp:Sp}{E:XK}{x m:Str}{p pos apos kpos:Pos}{e o:bu}{es:List bu}{kws:List Keyword}{te ta:TE}{t tk:TA}{nm:Option Str}
variable{g:List af->List af->List af}{gV:List V->List V->List V}
end
structure FnScope (N P:List Str) (sc:iu):Prop where
 kind:sc.kind=.function
 co:sc.isCoroutine=false
 gen:sc.isGenerator=false
 nd:N.Nodup
 pre:N.take P.length=P
 par:∀x∈P,sc.names.lookup x=some .local∨sc.names.lookup x=some .cell
 nofree:∀y∈sc.names,y.2≠.free
theorem FA {kindOf:Str->Option kq}{x:Str}:∀{binds:List (Str×af)}{m:Str->Option af},(∀v,(x,v)∉binds)->bindL kindOf binds m x=m x
 | [],_,_=>rfl
 |(n,v)::r,m,h=>by
  unfold bindL;rw[FA λw hw=>h w (ay _ hw)]
  split
  ·have:x≠n:=by rintro rfl;exact h v bh
   simp[this]
  ·rfl
theorem FC {kindOf:Str->Option kq}{x:Str}:∀{binds:List (Str×af)}{m:Str->Option af},(∀v,(x,v)∉binds)->bindC kindOf binds m x=m x
 | [],_,_=>rfl
 |(n,v)::r,m,h=>by
  unfold bindC;rw[FC λw hw=>h w (ay _ hw)]
  split
  ·rfl
  ·have:x≠n:=by rintro rfl;exact h v bh
   simp[this]
theorem FD {kindOf:Str->Option kq}{x:Str}{v:af}:∀{P:List Str}{vs:List af}{i:Nat}{m:Str->Option af},P.Nodup->P[i]?=some x->vs[i]?=some v->kindOf x=some .local->
  bindL kindOf (P.zip vs) m x=some v
 | [],_,_,_,_,h,_,_=>by simp at h
 |_::_,[],_,_,_,_,h,_=>by simp at h
 |p::P,w::vs,0,m,nd,h1,h2,hk=>by simp at h1 h2;subst h1;subst h2;show bindL kindOf ((p,w)::P.zip vs) m p=_;unfold bindL;rw[FA λv hv=>(ku.mp nd).1 (xm hv).1,if_pos hk];simp
 |p::P,w::vs,i+1,m,nd,h1,h2,hk=>by show bindL kindOf ((p,w)::P.zip vs) m x=_;unfold bindL;exact FD (i:=i) (ku.mp nd).2 (by simpa using h1) (by simpa using h2) hk
theorem FE {kindOf:Str->Option kq}{x:Str}{v:af}:∀{P:List Str}{vs:List af}{i:Nat}{m:Str->Option af},P.Nodup->P[i]?=some x->vs[i]?=some v->kindOf x≠some .local->
  bindC kindOf (P.zip vs) m x=some v
 | [],_,_,_,_,h,_,_=>by simp at h
 |_::_,[],_,_,_,_,h,_=>by simp at h
 |p::P,w::vs,0,m,nd,h1,h2,hk=>by simp at h1 h2;subst h1;subst h2;show bindC kindOf ((p,w)::P.zip vs) m p=_;unfold bindC;rw[FC λv hv=>(ku.mp nd).1 (xm hv).1,if_neg hk];simp
 |p::P,w::vs,i+1,m,nd,h1,h2,hk=>by show bindC kindOf ((p,w)::P.zip vs) m x=_;unfold bindC;exact FE (i:=i) (ku.mp nd).2 (by simpa using h1) (by simpa using h2) hk
def start (N:List Str) (vs:List V):St:=vs.map some++yi (N.length - vs.length) none
def fU (CX:lE) (P:bg) (w:cn) (K:aq) (mg:Str->Option af) (base:cp) (N:List Str) (qual:Str) (scope:iu) (f:ai) (cd:af) (A:cg) (outer:List Env) (s:ag) (H:Hp) (E:XK):Cx where
 prog:=P
 w:=w
 K:=K
 mg:=mg
 base:=base
 A:=A.deeper (envOfC qual scope s.heap.objs.size f cd)
 N:=N
 s₀:=s
 H₀:=H
 env:=envOfC qual scope s.heap.objs.size f cd
 outer:=outer
 stack:=envOfC qual scope s.heap.objs.size f cd::outer
 ex:=[]
 calm:=true
 fn:=λ_=>true
 pn:=[]
 xe:=λe s'=>wpAny (model P w) (A.deeper (envOfC qual scope s.heap.objs.size f cd)) (leaving (envOfC qual scope s.heap.objs.size f cd) e) (λ_ s''=>CX outer H s E e s'') (λe' s''=>CX outer H s E e' s'') s'
theorem FF {sc:iu}{n:Nat}{x:Str}(h:sc.names.lookup x=some .cell):∃c,(cellsFrom n sc.names []).lookup x=some c:=by have q:=zj sc.names n [] (.inl h);exact yj.mp q
theorem PZ {CX:lE}{P:bg}{w:cn}{K:aq}{mg:Str->Option af}{base:cp}{N ps:List Str}{qual:Str}{scope:iu}{f:ai}{cd:af}{A:cg}{outer:List Env}{s s1:ag}{H:Hp}{E:XK}{us:List af}{vs:List V}
  (S:FnScope N ps scope) (hd:A.handled=none) (e0:Env0 P w K mg base A outer s H) (hl:vs.length=ps.length) (r:Vals vs us)
  (x:InCallC s s.heap.objs.size (bindL (envOfC qual scope s.heap.objs.size f cd).kindOf (ps.zip us) λ_=>none) (cellsFrom (s.heap.objs.size+1) scope.names []) (bindC (envOfC qual scope s.heap.objs.size f cd).kindOf (ps.zip us) λ_=>none) s1):
  Inv (fU CX P w K mg base N qual scope f cd A outer s H E) [] (start N vs) H s1:=by
 have hpl:ps.length<=N.length:=by have:=congrArg uk S.pre;rw[jo]at this;omega
 obtain⟨h1,tk,rfl,hk⟩:=x.done;have noA:∀b:ai,b∉(fU CX P w K mg base N qual scope f cd A outer s H E).ex:=λb z=>absurd (show b∈([]:List ai) from z) (by simp);refine⟨⟨e0.mod,S.kind,rfl,rfl,ak _,λy z c h1 h2=>?_,λy hy=>?_,λy c _ h=>?_,λ_=>hd,Bh e0.frames,.inr ⟨rfl,rfl⟩,λb z=>absurd z (noA b),e0.bs,e0.bsz,λb _ _=>noA b,λb z=>absurd z (noA b),e0.funs,e0.frf⟩,
  rfl,e0.bare,Un.kept hk,⟨_,x.toInCall.ns,λi y v h1 h2 h3=>?_⟩,λy c h=>⟨_,x.cell y c h⟩,e0.hok.fresh (ak _),λy c h=>?_,λp hp=>absurd (show p∈([]:List (ai×Obj)) from hp) (by simp),e0.hok.kept hk, ?_⟩
 ·exact name_of_addr x.apart (fv h1) (fv h2)
 ·have hy:scope.names.lookup y=some .cell∨scope.names.lookup y=some .free:=hy
  rcases hy with hy|hy
  ·exact FF hy
  ·exact absurd rfl (S.nofree _ (fv hy))
 ·exact gq (x.above y c (fv h))
 ·have hi:i<vs.length:=by
   unfold start at h2
   by_cases hi:i<vs.length
   ·exact hi
   ·rw[gg (by simpa using hi)]at h2;rw[rp]at h2
    split at h2 <;> cases h2
  have ha:vs[i]?=some v:=by
   unfold start at h2;rw[dy (by simpa using hi),di]at h2
   cases e:vs[i]? with
   |none=>rw[e]at h2;cases h2
   |some a=>rw[e]at h2;cases h2;rfl
  obtain⟨u,hu,rv⟩:=r.get ha;have hp:ps[i]?=some y:=by rw[<-S.pre,As (by omega)];exact h1
  have ndP:ps.Nodup:=by rw[<-S.pre];exact S.nd.sublist (List.take_sublist _ _)
  refine⟨u,rv, ?_⟩
  rcases S.par y (bx hp)with k|k
  ·exact .inl ⟨k,FD ndP hp hu k⟩
  ·obtain⟨c,e⟩:=FF (n:=s.heap.objs.size+1) k;refine .inr ⟨.inl k,c,e, ?_⟩;have q:=x.cell y c e;rw[FE ndP hp hu (by show scope.names.lookup y≠_;rw[k];decide)]at q;exact q
 ·exact e0.hok.fresh (gq (x.above y c (fv h)))
 ·unfold start;show _=N.length;rw[bw,bo,List.length_replicate];omega
theorem zM {CX:lE}{P:bg}{w:cn}{K:aq}{mg:Str->Option af}{base:cp}{k:Nat}{f:ai}{name qual:Str}{params:lx}{body:List gv}{scope:iu}{dV kV doc pm cdv ct oc:af}{an od:Option ai}
  {osl:Array (Option af)}{N ps:List Str}{sp:Sp}(lk:K.lookup f=some ⟨oc,od,.func (pg name qual params body scope dV kV doc pm an cdv ct),osl⟩) (hcd:xj K cdv qual=true) (S:FnScope N ps scope)
  (len:∀vs H Q E,sp vs H Q E->vs.length=ps.length)
  (hbody:∀(A:cg) (outer:List Env) (s:ag) (H:Hp) (vs:List V) (Q:VK) (E:XK),Room k (A.deeper (envOfC qual scope s.heap.objs.size f cdv))->sp vs H Q E->
   ∃t,PSs (fU CX P w K mg base N qual scope f cdv A outer s H E) body t/\t { nx:=λ_ H'=>Q .non H',rt:=Q } (start N vs) H):
  FnOk P w K mg base CX (k+1) f (pg name qual params body scope dV kV doc pm an cdv ct) ps sp:=by
 refine⟨len,λA outer s H args us vs Q E hr e0 hb r hsp=>?_⟩;have hl:=len _ _ _ _ hsp;have KX:K.In s.heap:=e0.mod.kin.keeps λb o e=>(e0.bs b o e).1;have lim:s.heap.NoLimit:=e0.mod.nolimit.keeps λb o e=>(e0.bs b o e).1;have hkind:∀y∈ps.zip us,scope.names.lookup y.1=some .local∨(scope.names.lookup y.1=some .cell/\((cellsFrom (s.heap.objs.size+1) scope.names []).lookup y.1).isSome=true):=λ⟨n,v⟩ hy=>by
  rcases S.par n (xm hy).1 with q|q
  ·exact .inl q
  ·exact .inr ⟨q,zj _ _ _ (.inl q)⟩
 refine codeAny_call_function hr.depth (KX _ _ lk) rfl S.co S.gen rfl (PySem.W.codeRec_of KX hcd) (hb _ _ _ _ ?_);refine wpAny_newFunctionEnv_cells S.kind hkind λenv he s1 x=>?_;subst he;refine⟨lim.keeps x.toInCall.keep,codeAny_func ?_⟩;obtain⟨t,ht,hq⟩:=hbody A outer s H vs Q E (hr.deeper _) hsp;have I:Inv (fU CX P w K mg base N qual scope f cdv A outer s H E) [] (start N vs) H s1:=PZ S hr.hd e0 hl r x;refine ka (ht [] s1 (start N vs) H _ I hq) (λfl s' hs=>?_) λe s' hs=>hs;have fin:∀{σ':St}{H':Hp}{v:V}{u:af},Inv (fU CX P w K mg base N qual scope f cdv A outer s H E) [] σ' H' s'->RelV v u->Q v H'->CE outer P w H s Q u s':=λ{σ' H' v u} J rv q=>⟨v,H',J.os,J.bare,J.base,J.hok,rv,q⟩
 cases fl with
 |ret u=>obtain⟨v,σ',H',J,rv,q⟩:=hs;exact fin J rv q
 |next=>obtain⟨σ',H',J,q⟩:=hs;exact fin (v:=V.non) (u:=jq) J rfl q
 |brk=>obtain⟨_,_,_,q⟩:=hs;exact gw q
 |cont=>obtain⟨_,_,_,q⟩:=hs;exact gw q
section
variable{X:Cx}{x:Str}{p pos:Pos}{e:bu}{es:List bu}{t:TA}{id T:String}{r:List V->Hp->VK->Prop}
def tV (r:List V->Hp->VK->Prop) (t:TA):TE:=λσ H Q=>t σ H λvs H1=>r vs H1 Q
theorem oX (hc:CallR X (.builtin id) r) (hg:Gl X x) (hm:X.mg x=none) (hv:dz x=some (.builtin id)) (ha:PA X (e::es) t) (hn:x ≠ "__name__" := by decide) (hdb:(x==("__debug__" : Str))=false:=by decide)
  (he:aw (e::es) X.env=(false,eval e X.env)::aw es X.env:=by rfl) (hpl:(backTo pos (aw es X.env)).any (·.1)=false:=by rfl):PE X (.Call (.Name x p) (e::es) [] pos) (tV r t):=by
 intro pins s σ H Q I h;refine lg (lX I hg hm hv ?_ hn hdb);exact PyProof.Rows.callWith_builtin1 (aX (ha pos pins s σ H _ I h) λus s1 ⟨vs,H1,I1,r1,q1⟩=>hc pins s1 σ H1 vs us Q I1 r1 q1) he hpl
theorem mZ (hc:CallR X (.type T) r) (hg:Gl X x) (hm:X.mg x=none) (hv:dz x=some (.type T)) (ha:PA X (e::es) t) (hn:x ≠ "__name__" := by decide) (hdb:(x==("__debug__" : Str))=false:=by decide)
  (he:aw (e::es) X.env=(false,eval e X.env)::aw es X.env:=by rfl) (hpl:(backTo pos (aw es X.env)).any (·.1)=false:=by rfl):PE X (.Call (.Name x p) (e::es) [] pos) (tV r t):=by
 intro pins s σ H Q I h;refine lg (lX I hg hm hv ?_ hn hdb);exact ic (aX (ha pos pins s σ H _ I h) λus s1 ⟨vs,H1,I1,r1,q1⟩=>hc pins s1 σ H1 vs us Q I1 r1 q1) he hpl
end
end L2
namespace HT
open PySem PyProof.Rows
def lexLt:List Int->List Int->Bool
 | [],[]=>false
 | [],_::_=>true
 |_::_,[]=>false
 |x::xs,y::ys=>if x=y then lexLt xs ys else decide (x<y)
theorem lexLt_cons (x y:Int) (xs ys:List Int):lexLt (x::xs) (y::ys)=if x=y then lexLt xs ys else decide (x<y):=rfl
theorem P0:lexLt [] []=false:=rfl
theorem P4 (y:Int) (ys:List Int):lexLt [] (y::ys)=true:=rfl
theorem P5 (x:Int) (xs:List Int):lexLt (x::xs) []=false:=rfl
theorem P6 (A:cg) (s:ag) (a:Int) (t:Tok) (c:Int) (u:Tok):∃e,vh A s (.int a t) (.int c u) e/\(e=true↔a=c):=⟨(a==c),ug a t c u,by simp⟩
theorem P7 (A:cg) (s:ag) (a:Int) (t:Tok) (c:Int) (u:Tok) (prog:bg) (w:cn) (E:af->ag->Prop) (Q:af->ag->Prop) (h:Q (.bool (decide (a<c))) s):
  wpAny (model prog w) A (richCompare .Lt (.int a t) (.int c u)) Q E s:=
 (xv h:wpAny (model prog w) A (compareOp .Lt (.int a t) (.int c u)) Q E s)
section
open PySem.SeqAt
open PySem.AutoSeq1 (wpAny_loadPart')
open PySem.MeetsSeq PySem.MeetsSeq2 PySem.MeetsSeq3
theorem P8 (l b:ai) (items items2:Array af) (n n2:Nat) (dd dd2:Option ai) (sl sl2:Array (Option af)) (ns ms:List Int) (hi:oh items.toList ns) (hj:oh items2.toList ms):
  Meets (km.«tuple.__lt__» ⟨[.ref l,.ref b],[]⟩)
   (λ_ R s=>s.heap.get? l=some { cls:=.type "tuple",dict:=dd,data:=.seq items n,slots:=sl }/\s.heap.get? b=some { cls:=.type "tuple",dict:=dd2,data:=.seq items2 n2,slots:=sl2 } /\
    R (.ok (.ret (.bool (lexLt ns ms)))) s):=
 .of_wp λprog w A R s h=>by
  obtain⟨hp,g,d,tk,os⟩:=s;obtain⟨hl,hb,h⟩:=h;have f2:=AutoSeq1.sub_tuple_tuple;have z1:items.size=ns.length:=by rw[<-hi.length];simp
  have z2:items2.size=ms.length:=by rw[<-hj.length];simp
  wp_walk using wpAny_loadPart' hl,wpAny_loadPart' hb,ui _ (λrest b s'=>b.1=none/\s'=⟨hp,g,d,tk,os⟩/\∃(vs ws:List af) (ns' ms':List Int),rest=vs.zip ws /\
   oh vs ns'/\oh ws ms'/\ns'.length+items2.size=ms'.length+items.size/\R (.ok (.ret (.bool (lexLt ns' ms')))) ⟨hp,g,d,tk,os⟩) _
  case turn=>
   rintro ⟨y,x⟩ rest b s' ⟨hb',rfl,vs,ws,ns',ms',hz,hvi,hwi,hlen,hR⟩
   cases hvi with
   |nil=>rw[List.zip_nil_left]at hz;cases hz
   |cons a t hvi'=>
    cases hwi with
    |nil=>rw[List.zip_nil_right]at hz;cases hz
    |cons c u hwi'=>
     rw[List.zip_cons_cons]at hz;injection hz with hyx hrest;injection hyx with hy hx;subst hy hx;rw[lexLt_cons]at hR;simp only[dv]at hlen;obtain⟨e,he,hiff⟩:=P6 A.in1 ⟨hp,g,d,tk,os⟩ a t c u;refine aa (he prog w _ _ ?_)
     cases e with
     |true=>
      rw[if_pos (hiff.mp rfl)]at hR
      wp_walk
      exact⟨rfl,rfl,_,_,_,_,hrest,hvi',hwi',by omega,hR⟩
     |false=>
      rw[if_neg (λq=>absurd (hiff.mpr q) jr)]at hR;have hri:=P7 A.in1 ⟨hp,g,d,tk,os⟩ a t c u prog w
      wp_walk using hri
      exact⟨_,rfl,by simpa using hR⟩
  case fin=>
   rintro ⟨b1,b2⟩ s' ⟨hb',rfl,vs,ws,ns',ms',hz,hvi,hwi,hlen,hR⟩
   simp only at hb';subst hb';have hv:lexLt ns' ms'=decide (items.size<items2.size):=by
    cases hvi with
    |nil=>
     cases hwi with
     |nil=>simp only[pj]at hlen;rw[P0];exact(decide_eq_false (by omega)).symm
     |cons c u hw=>simp only[pj,dv]at hlen;rw[P4];exact(decide_eq_true (by omega)).symm
    |cons a t hv=>
     cases hwi with
     |nil=>simp only[pj,dv]at hlen;rw[P5];exact(decide_eq_false (by omega)).symm
     |cons c u hw=>rw[List.zip_cons_cons]at hz;cases hz
   rw[hv]at hR
   wp_walk
   exact⟨_,rfl,by simpa[Builtin.Tuple.tupleCompareSizes]using hR⟩
  case h=>exact⟨rfl,rfl,items.toList,items2.toList,ns,ms,rfl,hi,hj,by omega,h⟩
end
section
variable{prog:bg}{w:cn}{A:cg}{E:af->ag->Prop}{s:ag}
theorem lt_tupInts {l b:ai}{items items2:Array af}{ns ms:List Int}{Q:af->ag->Prop}(hl:Bn s.heap l items) (hb:Bn s.heap b items2) (hi:oh items.toList ns) (hj:oh items2.toList ms)
  (hu:A.units<cLine) (h:Q (.bool (lexLt ns ms)) s):wpAny (model prog w) A (compareOp .Lt (.ref l) (.ref b)) Q E s:=by
 obtain⟨⟨cls,dd,data,sl⟩,ho,hc,n,hd⟩:=id hl;obtain⟨⟨cls2,dd2,data2,sl2⟩,ho2,hc2,n2,hd2⟩:=id hb;simp only at hc hd hc2 hd2;subst hc hd hc2 hd2;exact richCompare_meets_room (op:=.Lt) ⟨_,ho,rfl⟩ ⟨_,ho2,rfl⟩ PySem.F.slot_tuple_lt PySem.F.entry_tuple_lt (PySem.F.args_tuple_lt_2 _ _) (P8 l b items items2 n n2 dd dd2 sl sl2 ns ms hi hj)
  ⟨ho,ho2,show Ci (lexLt ns ms)≠Value.notImplemented/\Q (.bool (lexLt ns ms)) s from⟨(λx=>nomatch x),h⟩⟩ hu
theorem cat_tup {t b:ai}{vs ws:List af}{Q:af->ag->Prop}(ht:Bn s.heap t vs.toArray) (hb:Bn s.heap b ws.toArray) (hv:vs≠[])
  (h1:ws=[]->Q (.ref t) s) (h2:ws≠[]->Q (.ref s.heap.objs.size) { s with heap:=s.heap.push { cls:=.type "tuple",data:=.seq (vs++ws).toArray } })
  (hsz:vs.length+ws.length<=ck):wpAny (model prog w) A (binaryOp .Add (.ref t) (.ref b)) Q E s:=by
 obtain⟨⟨cls,dd,data,sl⟩,ho,hc,n,hd⟩:=id ht;obtain⟨⟨cls2,dd2,data2,sl2⟩,ho2,hc2,n2,hd2⟩:=id hb;simp only at hc hd hc2 hd2;subst hc hd hc2 hd2;have e:vs.toArray++ws.toArray=(vs++ws).toArray:=by simp
 by_cases hw:ws=[]
 ·exact concat_meets ⟨_,ho,rfl⟩ ⟨_,ho2,rfl⟩ zk Cm rj qp (qk _ _)
   (tuple_addW1 t b vs.toArray ws.toArray n n2 dd dd2 sl sl2 (by simpa using hv) (by simp[hw])) ⟨ho,ho2,h1 hw⟩
 ·refine concat_meets ⟨_,ho,rfl⟩ ⟨_,ho2,rfl⟩ zk Cm rj qp (qk _ _)
   (tuple_addW2 t b vs.toArray ws.toArray n n2 dd dd2 sl sl2 (by simpa using hv) (by simpa using hw) (by rw[av,av];exact hsz)) ⟨ho,ho2, ?_⟩
  rw[e];exact h2 hw
def sIx (n d:Nat):Option Int->Nat
 |none=>d
 |some v=>if v<0 then(v+(n:Int)).toNat else min v.toNat n
theorem sIx_none (n d:Nat):sIx n d none=d:=rfl
theorem sIx_nat (n d k:Nat):sIx n d (some (k:Int))=min k n:=by show(if(k:Int)<0 then((k:Int)+(n:Int)).toNat else min (k:Int).toNat n)=min k n;rw[if_neg (by omega),fe]
theorem P9 (n d:Nat) (hd:d<=n) (o:Option Int):sIx n d o<=n:=by
 cases o with
 |none=>exact hd
 |some v=>
  show(if v<0 then(v+(n:Int)).toNat else min v.toNat n)<=n
  by_cases hv:v<0
  ·rw[if_pos hv];omega
  ·rw[if_neg hv];exact Nat.min_le_right _ _
theorem FG (v:Int) (n d:Nat):(if v<0 then max (v+(n:Int)) 0 else min v (n:Int))=((sIx n d (some v):Nat):Int):=by
 show(if v<0 then max (v+(n:Int)) 0 else min v (n:Int))=(((if v<0 then(v+(n:Int)).toNat else min v.toNat n):Nat):Int)
 by_cases hv:v<0
 ·simp only[if_pos hv];omega
 ·simp only[if_neg hv];omega
theorem QA (lo hi:Option Int) (n:Nat):iz lo hi 1 (n:Int)=(((sIx n 0 lo:Nat):Int),((sIx n n hi:Nat):Int)):=by
 have h1:¬ ((1:Int)<0):=by omega
 unfold iz;simp only[h1,if_false];refine Prod.ext ?_ ?_
 ·cases lo with
  |none=>rfl
  |some v=>exact FG v n 0
 ·cases hi with
  |none=>rfl
  |some v=>exact FG v n n
theorem QB (i j:Nat):fw (i:Int) (j:Int) 1=j - i:=by
 unfold fw;have h1:(1:Int)>0:=by omega
 simp only[h1,if_true,Int.ediv_one]
 split <;> omega
theorem slicePart_ {v:af}{o:Option Int}{Q:Option Int->ag->Prop}(p:tw v o) (h:Q o s):wpAny (model prog w) A (Builtin.Slice.slicePartIndex v) Q E s:=by
 cases p with
 |none=>exact slicePart_none h
 |int i t=>exact slicePart_int h
theorem sliceApplied_gen {sl:ai}{vl vu:af}{lo hi:Option Int}{n:Nat}{Q:Int×Int×Nat->ag->Prop}(hs:s.heap.IsSliceOf sl vl vu .none) (pl:tw vl lo) (pu:tw vu hi)
  (h:Q (((sIx n 0 lo:Nat):Int),1,sIx n n hi - sIx n 0 lo) s):wpAny (model prog w) A (kh (.ref sl) (pure (n:Int))) Q E s:=by
 obtain⟨os,hos,hcs,hds⟩:=id hs;unfold kh vp;refine aa (aa (dg hos hds (x:=vl) rfl (aa (dg hos hds (x:=vu) rfl (aa (dg hos hds (x:=.none) rfl (ah ?_)))))));refine aa (slicePart_none ?_);show wpAny _ _ (if((1:Int)==0)=true then _ else _) _ _ s;rw[if_neg (by decide)];refine aa (slicePart_ pl (aa (slicePart_ pu (aa (ah ?_)))));show wpAny _ _ (match iz lo hi 1 (n:Int)with|(lo,hi)=>pure (lo,(1:Int),fw lo hi 1)) _ _ s;rw[QA lo hi n];show wpAny _ _ (pure (((sIx n 0 lo:Nat):Int),(1:Int),fw ((sIx n 0 lo:Nat):Int) ((sIx n n hi:Nat):Int) 1)) _ _ s;rw[QB];exact ah h
theorem QC (xs:Array af) (i k:Nat):((bf k).filterMap λ(m:Nat)=>xs[((i:Int)+(m:Int)*1).toNat]?).toArray=((xs.toList.drop i).take k).toArray:=by
 have e:(λ(m:Nat)=>xs[((i:Int)+(m:Int)*1).toNat]?)=λm=>xs[i+m]?:=by
  funext m
  have:((i:Int)+(m:Int)*1).toNat=i+m:=by omega
  rw[this]
 rw[e];have:=pick_run xs i k;rw[List.filterMap_map]at this;have e2:((λx=>xs[x]?)∘λx=>i+x)=λm=>xs[i+m]?:=rfl;rw[e2]at this;rw[this]
theorem getItem_tuple_cut {t sl:ai}{items:Array af}{vl vu:af}{lo hi:Option Int}{Q:af->ag->Prop}(ht:Bn s.heap t items) (hs:s.heap.IsSliceOf sl vl vu .none) (pl:tw vl lo) (pu:tw vu hi)
  (hw:¬ (sIx items.size 0 lo=0/\sIx items.size items.size hi=items.size))
  (h:Q (.ref s.heap.objs.size) { s with heap:=s.heap.push { cls:=.type "tuple",data:=.seq ((items.toList.drop (sIx items.size 0 lo)).take (sIx items.size items.size hi - sIx items.size 0 lo)).toArray } })
  (hsz:items.size<=ck):wpAny (model prog w) A (getItem (.ref t) (.ref sl)) Q E s:=by
 have htake:sizeOk (.seq ((items.toList.drop (sIx items.size 0 lo)).take (sIx items.size items.size hi - sIx items.size 0 lo)).toArray):=by show((items.toList.drop (sIx items.size 0 lo)).take (sIx items.size items.size hi - sIx items.size 0 lo)).toArray.size<=ck;rw[av,jo,pb,mq];omega
 have hj:sIx items.size items.size hi<=items.size:=P9 _ _ (ak _) hi;obtain⟨os,hos,hcs,hds⟩:=id hs;have hTs:s.TypeIs (.ref sl) "slice" := ⟨os,hos,hcs⟩;unfold getItem
 try with_reducible refine fg ?_
 first|refine aa (ah ?_)|skip
 refine aa (xw ht.typeIs (by decide) ?_);refine aa (da (name:=ik "__getitem__") ht.typeIs de
  (ed de ht.typeIs entry_tuple_getitem ?_ (args_tuple_getitem _ _)))
 show wpAny _ _ (Builtin.Tuple.tupleItemsOf (.ref t) >>= _) _ _ s;refine aa (Cn ht ?_);refine aa (lh hTs ?_);rw[if_pos (by decide)];refine aa (sliceApplied_gen hs pl pu ?_);have hno:¬ ((((sIx items.size 0 lo:Nat):Int)==0&&(1:Int)==1&&(sIx items.size items.size hi - sIx items.size 0 lo)==items.size)=true):=by intro q;rw[cy,cy]at q;have q1:((sIx items.size 0 lo:Nat):Int)=0:=eq_of_beq q.1.1;have q2:sIx items.size items.size hi - sIx items.size 0 lo=items.size:=eq_of_beq q.2;exact hw ⟨by omega,by omega⟩
 show wpAny _ _ (if(((sIx items.size 0 lo:Nat):Int)==0&&(1:Int)==1&&(sIx items.size items.size hi - sIx items.size 0 lo)==items.size)=true then _ else _) _ _ s;rw[if_neg hno,QC]
 first
  |exact aa (m:=fi _) (dm (ah ⟨_,rfl,ah h⟩) htake)
  |exact aa (m:=fi _) (dm (aa (ah (ah ⟨_,rfl,ah h⟩))) htake)
  |exact aa (aa (m:=fi _) (dm (ah (ah ⟨_,rfl,ah h⟩)) htake))
  |exact aa (aa (m:=fi _) (dm (ah ⟨_,rfl,ah h⟩) htake))
end
end HT
namespace L2
open PySem PySem.Spec PyProof.Rows
abbrev TO:=St->Hp->(Option Int->Hp->Prop)->Prop
def PO (X:Cx) (e:Option bu) (t:TO):Prop:=
 ∀(pins:List (ai×Obj)) (s:ag) (σ:St) (H:Hp) (Q:Option Int->Hp->Prop),Inv X pins σ H s->t σ H Q->
  wpAny (model X.prog X.w) X.A (evalPart e X.env) (λu s'=>∃o H',Inv X pins σ H' s'/\tw u o/\Q o H') X.xe s
def QD:TO:=λ_ H Q=>Q none H
def QE (t:TE):TO:=λσ H Q=>t σ H λx H1=>∃i,x=.int i/\Q (some i) H1
theorem FH {ns:List Int}:∀{us:List af},Vals (ns.map V.int) us->oh us ns:=by
 induction ns with
 |nil=>intro us r;rw[List.map_nil]at r;cases r;exact .nil
 |cons n ns ih=>
  intro us r;rw[dw]at r
  cases r with
  |cons r1 r2=>obtain⟨t,e⟩:=r1;subst e;exact .cons n t (ih r2)
section
variable{X:Cx}{e:bu}{te:TE}{lo hi:Option bu}{tl th:TO}{pos p2:Pos}
theorem QF:PO X none QD:=by intro pins s σ H Q I h;rw[Co];exact ah ⟨none,H,I,.none,h⟩
theorem QG (h:PE X e te):PO X (some e) (QE te):=by intro pins s σ H Q I hw;rw[evalPart_some];refine aX (h pins s σ H _ I hw) λu s1 ⟨x,H1,I1,r1,q1⟩=>?_;obtain⟨i,rfl,q⟩:=q1;obtain⟨t,rfl⟩:=r1;exact⟨some i,H1,I1,.int i t,q⟩
def SlR (X:Cx) (r:V->Option Int->Option Int->Hp->VK->Prop):Prop:=
 ∀(pins:List (ai×Obj)) (s:ag) (σ:St) (H:Hp) (x:V) (v vl vu:af) (lo hi:Option Int) (sl:ai) (Q:VK),Inv X pins σ H s->RelV x v->s.heap.IsSliceOf sl vl vu .none->tw vl lo->tw vu hi->r x lo hi H Q->
  ∃T id,typeLookup (.type T) "__getitem__" = pure (some (.builtin id))/\s.TypeIs v T/\wpAny (model X.prog X.w) X.A (getItem v (.ref sl)) (EP X pins σ Q) X.xe s
theorem SlR.or {r r':V->Option Int->Option Int->Hp->VK->Prop}(h:SlR X r) (h':SlR X r'):SlR X (λx lo hi H Q=>r x lo hi H Q∨r' x lo hi H Q):=by
 intro pins s σ H x v vl vu lo hi sl Q I rx hs pl pu q
 rcases q with q|q
 ·exact h pins s σ H x v vl vu lo hi sl Q I rx hs pl pu q
 ·exact h' pins s σ H x v vl vu lo hi sl Q I rx hs pl pu q
def QH (r:V->Option Int->Option Int->Hp->VK->Prop) (te:TE) (tl th:TO):TE:=λσ H Q=>te σ H λx H1=>tl σ H1 λl H2=>th σ H2 λu H3=>r x l u H3 Q
theorem QI {r:V->Option Int->Option Int->Hp->VK->Prop}(hr:SlR X r) (he:PE X e te) (hl:PO X lo tl) (hu:PO X hi th):PE X (.Subscript e (.Slice lo hi none p2) pos) (QH r te tl th):=by intro pins s σ H Q I h;refine Subscript_ (aX (he pins s σ H _ I h) λv s1 ⟨x,H1,I1,r1,q1⟩=>?_);refine wpAny_Slice (aX (hl pins s1 σ H1 _ I1 q1) λvl s2 ⟨l,H2,I2,pl,q2⟩=>aX (hu pins s2 σ H2 _ I2 q2) λvu s3 ⟨u,H3,I3,pu,q3⟩=>?_);rw[Co];refine ah ?_;have I4:Inv X pins σ H3 { s3 with heap:=s3.heap.push { cls:=.type "slice",data:=.fields #[vl,vu,.none] } }:=I3.kept (t':=s3.toks) λb ob q=>aj _ q;obtain⟨T,id,hT,ht,hg⟩:=hr pins { s3 with heap:=s3.heap.push { cls:=.type "slice",data:=.fields #[vl,vu,.none] } } σ H3 x v vl vu l u s3.heap.objs.size Q I4 r1 (xq ..) pl pu q3;show wpAny (model X.prog X.w) X.A (subscriptTail e (.Slice lo hi none p2) v (.ref s3.heap.objs.size)) (EP X pins σ Q) X.xe { s3 with heap:=s3.heap.push { cls:=.type "slice",data:=.fields #[vl,vu,.none] } };exact tail_any (ops:=[.ref s3.heap.objs.size,v]) ht hT hg (by with_unfolding_all rfl)
def lZ (xs:List V) (lo hi:Option Int):List V:=(xs.drop (HT.sIx xs.length 0 lo)).take (HT.sIx xs.length xs.length hi - HT.sIx xs.length 0 lo)
theorem FI (xs:List V) (lo hi:Option Int):(lZ xs lo hi).length<=xs.length:=by unfold lZ;rw[jo,pb];omega
def QJ (K:aq):V->Option Int->Option Int->Hp->VK->Prop:=λx lo hi H Q=>∃a xs,x=.ref a/\SqT K H a xs /\
 ¬ (HT.sIx xs.length 0 lo=0/\HT.sIx xs.length xs.length hi=xs.length)/\∀p,H p=none->Q (.ref p) (upd H p (.tup (lZ xs lo hi)))
theorem QK:SlR X (QJ X.K):=by
 intro pins s σ H x v vl vu lo hi sl Q I rx hs pl pu h;obtain⟨a,xs,rfl,hx,hw,q⟩:=h;cases rx;obtain⟨its,r,ht,hz⟩:=I.tuple hx;have hlen:its.toArray.size=xs.length:=by rw[av];exact r.length.symm
 refine⟨"tuple",_,de.lookup,ht.typeIs, ?_⟩;refine HT.getItem_tuple_cut ht hs pl pu (by rw[hlen];exact hw) ?_ (by rw[hlen];exact hz);rw[hlen];refine⟨.ref s.heap.objs.size,_,I.laid (t':=s.toks) (o:=.tup (lZ xs lo hi)) (λb ob q=>aj _ q) (ak _) ?_,rfl,q _ (I.hok.fresh (ak _))⟩;exact⟨dq (FI xs lo hi) hz,_,(r.drop (HT.sIx xs.length 0 lo)).take (HT.sIx xs.length xs.length hi - HT.sIx xs.length 0 lo),IsTupX.new _ _⟩
def FJ (K:aq):R2:=λx y H Q=>∃a b ns ms,x=.ref a/\y=.ref b/\SqT K H a (ns.map V.int)/\SqT K H b (ms.map V.int)/\Q (.bl (HT.lexLt ns ms)) H
theorem FK (hu:X.A.units<cLine):OpR X (compareOp .Lt) (FJ X.K):=by intro pins s σ H x y v u Q I rx ry h;obtain⟨a,b,ns,ms,rfl,rfl,ha,hb,q⟩:=h;cases rx;cases ry;obtain⟨its,r1,p1,_⟩:=I.tuple ha;obtain⟨its2,r2,p2,_⟩:=I.tuple hb;have i1:oh its.toArray.toList ns:=FH r1;have i2:oh its2.toArray.toList ms:=FH r2;exact HT.lt_tupInts p1 p2 i1 i2 hu ⟨.bl (HT.lexLt ns ms),H,I,rfl,q⟩
def FL (K:aq):R2:=λx y H Q=>∃a b xs ys,x=.ref a/\y=.ref b/\SqT K H a xs/\SqT K H b ys/\xs≠[]/\xs.length+ys.length<=ck /\
 (ys=[]->Q (.ref a) H)/\(ys≠[]->∀p,H p=none->Q (.ref p) (upd H p (.tup (xs++ys))))
theorem Vals.nil_iff {xs:List V}{us:List af}(r:Vals xs us):us=[]↔xs=[]:=by
 cases r with
 |nil=>simp
 |cons _ _=>simp
theorem QL:OpR X (binaryOp .Add) (FL X.K):=by intro pins s σ H x y v u Q I rx ry h;obtain⟨a,b,xs,ys,rfl,rfl,ha,hb,hx,hz,q1,q2⟩:=h;cases rx;cases ry;obtain⟨its,r1,p1,_⟩:=I.tuple ha;obtain⟨its2,r2,p2,_⟩:=I.tuple hb;refine HT.cat_tup p1 p2 (λz=>hx (r1.nil_iff.mp z)) (λz=>⟨.ref a,H,I,rfl,q1 (r2.nil_iff.mp z)⟩) (λz=>?_) (by rw[<-r1.length,<-r2.length];exact hz);refine⟨.ref s.heap.objs.size,_,I.laid (t':=s.toks) (o:=.tup (xs++ys)) (λb ob q=>aj _ q) (ak _) ?_,rfl,q2 (λw=>z (r2.nil_iff.mpr w)) _ (I.hok.fresh (ak _))⟩;exact⟨by rw[bw];exact hz,_,r1.append r2,IsTupX.new _ _⟩
end
def ixN (n:Nat) (i:Int):Option Nat:=if 0<=i then(if i<n then some i.toNat else none)else if -(n:Int)<=i then some (i+n).toNat else none
def eY {α:Type}(xs:List α) (i:Int):Option α:=(ixN xs.length i).bind λj=>xs[j]?
theorem zN {n:Nat}{i:Int}{j:Nat}(h:ixN n i=some j):seqIndex? i n=some j/\j<n/\-(n:Int)<=i/\i<n:=by
 unfold ixN at h
 by_cases h0:0<=i
 ·rw[if_pos h0]at h
  by_cases h1:i<n
  ·rw[if_pos h1]at h;have e:i.toNat=j:=cx h;exact⟨by rw[seqIndex_of h0 h1,e],by omega,by omega,h1⟩
  ·rw[if_neg h1]at h;cases h
 ·rw[if_neg h0]at h
  by_cases h1 : -(n:Int)<=i
  ·rw[if_pos h1]at h;have e:(i+n).toNat=j:=cx h;exact⟨by rw[seqIndex_neg (by omega) h1,e],by omega,h1,by omega⟩
  ·rw[if_neg h1]at h;cases h
theorem zO {α:Type}{xs:List α}{i:Int}{v:α}(h:eY xs i=some v):∃j,seqIndex? i xs.length=some j/\xs[j]?=some v/\j<xs.length/\-(xs.length:Int)<=i/\i<xs.length:=by
 unfold eY at h
 cases e:ixN xs.length i with
 |none=>rw[e]at h;cases h
 |some j=>rw[e]at h;obtain⟨h1,h2,h3,h4⟩:=zN e;exact⟨j,h1,h,h2,h3,h4⟩
def zP (b:bu):Prop:=∀o i,subscripted b false o i=operate [o,i] (getItem o i)
def IxR (X:Cx) (r:R2):Prop:=
 ∀(value slice:bu) (pins:List (ai×Obj)) (s:ag) (σ:St) (H:Hp) (x y:V) (v u:af) (Q:VK),Inv X pins σ H s->RelV x v->RelV y u->r x y H Q->
  subscripted slice false v u=operate [v,u] (getItem v u)->wpAny (model X.prog X.w) X.A (subscriptTail value slice v u) (EP X pins σ Q) X.xe s
def QM (X:Cx) (id:String) (r:V->List V->Hp->VK->Prop):Prop:=
 ∀(pins:List (ai×Obj)) (s:ag) (σ:St) (H:Hp) (x:V) (xs:List V) (v:af) (us:List af) (Q:VK),Inv X pins σ H s->RelV x v->Vals xs us->r x xs H Q->
  wpAny (model X.prog X.w) X.A (call (.builtin id) (v::us)) (EP X pins σ Q) X.xe s
section
variable{X:Cx}{a b:bu}{ta tb:TE}{pos:Pos}
theorem IxR.or {r r':R2}(h:IxR X r) (h':IxR X r'):IxR X (λx y H Q=>r x y H Q∨r' x y H Q):=by
 intro value slice pins s σ H x y v u Q I rx ry q hs
 rcases q with q|q
 ·exact h value slice pins s σ H x y v u Q I rx ry q hs
 ·exact h' value slice pins s σ H x y v u Q I rx ry q hs
theorem FN {r:R2}(hr:IxR X r) (ha:PE X a ta) (hb:PE X b tb) (hs:zP b):PE X (.Subscript a b pos) (qM r ta tb):=by intro pins s σ H Q I h;exact Subscript_ (zH ha hb I h λv u s2 x y H2 I2 rx ry q=>hr a b pins s2 σ H2 x y v u Q I2 rx ry q (hs _ _))
def FO (K:aq):R2:=λx y H Q=>∃p xs i v,x=.ref p/\y=.int i/\SqL K H p xs/\eY xs i=some v/\Q v H
def FP (K:aq):R2:=λx y H Q=>∃p xs i v,x=.ref p/\y=.int i/\SqT K H p xs/\eY xs i=some v/\Q v H
def FQ:R2:=λx y H Q=>∃z i c,x=.str z/\y=.int i/\z.length<=ck/\eY z.cps.toList i=some c/\Q (.str ⟨#[c]⟩) H
theorem ix_list:IxR X (FO X.K):=by
 intro value slice pins s σ H x y v u Q I rx ry h hs;obtain⟨p,xs,i,z,rfl,rfl,hq,he,q⟩:=h;cases rx;obtain⟨t,rfl⟩:=ry;obtain⟨its,r,pl,hz⟩:=I.list hq;obtain⟨j,h1,h2,h3,h4,h5⟩:=zO he;obtain⟨w,ew,rw'⟩:=r.get h2;have hl:=r.length;have hn:=oV;have fin:EP X pins σ Q w s:=⟨z,H,I,rw',q⟩
 by_cases h0:0<=i
 ·have hj:i.toNat=j:=by rw[seqIndex_of h0 h5]at h1;exact cx h1
  exact item_listR pl.isList h0 (by omega) (by rw[hj];simpa using ew) fin hs
 ·have hj:(i+(its.toArray.size:Int)).toNat=j:=by rw[seqIndex_neg (by omega) h4]at h1;rw[av,<-hl];exact cx h1
  exact subscriptTail_builtinR (x:=w) pl.isList.typeIs slot_list_getitem.lookup
   (wpAny_getItem_list_neg (Q:=λr s'=>r=w/\EP X pins σ Q r s') pl.isList (by omega) (by rw[av] <;> omega) (by omega) (by rw[hj];simpa using ew) ⟨rfl,fin⟩) hs
theorem ix_tup:IxR X (FP X.K):=by
 intro value slice pins s σ H x y v u Q I rx ry h hs;obtain⟨p,xs,i,z,rfl,rfl,hq,he,q⟩:=h;cases rx;obtain⟨t,rfl⟩:=ry;obtain⟨its,r,pl,hz⟩:=I.tuple hq;obtain⟨j,h1,h2,h3,h4,h5⟩:=zO he;obtain⟨w,ew,rw'⟩:=r.get h2;have hl:=r.length;have hn:=oV;have fin:EP X pins σ Q w s:=⟨z,H,I,rw',q⟩
 exact subscriptTail_builtinR (x:=w) pl.typeIs slot_tuple_getitem.lookup
  (getItem_tuple (j:=j) (Q:=λr s'=>r=w/\EP X pins σ Q r s') pl (by omega) (by omega) (by rw[av,<-hl];exact h1) (by simpa using ew) ⟨rfl,fin⟩) hs
theorem QN:IxR X FQ:=by
 intro value slice pins s σ H x y v u Q I rx ry h hs;obtain⟨z,i,c,rfl,rfl,hz,he,q⟩:=h;obtain⟨t,rfl⟩:=rx;obtain⟨t',rfl⟩:=ry;obtain⟨j,h1,h2,h3,h4,h5⟩:=zO he;have hl:z.cps.toList.length=z.length:=by simp[Str.length]
 rw[hl]at h1 h4 h5;have hn:=oV;exact tail_any (typeIs_str s z t) slot_str_getitem.lookup (getItem_str (c:=c) (by have e1:decide (i < -(2 ^ 63:Int))=false:=decide_eq_false (by omega);have e2:decide (i>=2 ^ 63)=false:=decide_eq_false (by omega);rw[e1,e2,Bool.or_false]) (by rw[h1];simpa using h2) ⟨.str ⟨#[c]⟩,H,I.tok _,⟨_,rfl⟩,q⟩) hs
def zQ (K:aq):R2:=λx y H Q=>FO K x y H Q∨FP K x y H Q∨FQ x y H Q
theorem FR:IxR X (zQ X.K):=ix_list.or (ix_tup.or QN)
theorem QO (its:List af) (n j:Nat) (u:af):gn (·.setIfInBounds j u) { cls:=.type "list",data:=.seq its.toArray n }={ cls:=.type "list",data:=.seq (its.set j u).toArray n }:=by simp[gn]
theorem Inv.lst {pins:List (ai×Obj)}{σ:St}{H:Hp}{s:ag}{p:ai}{xs:List V}(I:Inv X pins σ H s) (h:H p=some (.lst xs)):
  ∃(its:List af) (n:Nat),Vals xs its/\s.heap.get? p=some { cls:=.type "list",data:=.seq its.toArray n }/\xs.length<=ck:=by
 obtain⟨z,its,n,r,e⟩:=I.hok p _ h;exact⟨its,n,r,e,z⟩
theorem Inv.lstUpd {pins:List (ai×Obj)}{σ:St}{H:Hp}{s:ag}{p:ai}{xs ys:List V}{its its':List af}{n n':Nat}{f:Obj->Obj}(I:Inv X pins σ H s) (h:H p=some (.lst xs))
  (ho:s.heap.get? p=some { cls:=.type "list",data:=.seq its.toArray n }) (hf:f { cls:=.type "list",data:=.seq its.toArray n }={ cls:=.type "list",data:=.seq its'.toArray n' }) (r:Vals ys its') (hz:ys.length<=ck) (t:Nat):
  Inv X pins σ (upd H p (.lst ys)) { s with heap:=s.heap.update p f,toks:=t }:=by
 have e:(s.heap.update p f).get? p=some { cls:=.type "list",data:=.seq its'.toArray n' }:=by rw[ow f ho (by rw[hf] <;> rfl),hf]
 refine I.write (x:=p) (e:=p) (by rw[h];trivial) (.inl rfl) (λb u hb q=>(ji _ _ (cm hb)).trans q) ⟨_,e⟩ ?_;exact⟨hz,its',n',r,e⟩
def QP:V->V->V->Hp->(Hp->Prop)->Prop:=λo i v H Q=>∃p xs k j,o=.ref p/\i=.int k/\H p=some (.lst xs)/\ixN xs.length k=some j/\Q (upd H p (.lst (xs.set j v)))
theorem QQ:EX X QP:=by
 intro pins s σ H o i v ov iv u Q I ro ri rv h;obtain⟨p,xs,k,j,rfl,rfl,hp,hj,q⟩:=h;cases ro;obtain⟨t,rfl⟩:=ri;obtain⟨its,n,r,ho,hz⟩:=I.lst hp;obtain⟨h1,h2,h3,h4⟩:=zN hj;have hl:=r.length;have hn:=oV;have I':Inv X pins σ (upd H p (.lst (xs.set j v))) { s with heap:=s.heap.update p (gn (·.setIfInBounds j u)) }:=I.lstUpd hp ho (QO its n j u) (r.set rv j) (by rw[kv];exact hz) s.toks
 by_cases h0:0<=k
 ·have hk:k.toNat=j:=by rw[seqIndex_of h0 h4]at h1;exact cx h1
  exact PySem.W.ki_setAt ho h0 (by omega) (by rw[av,<-hl];exact h4) (by rw[hk];exact⟨_,I',q⟩)
 ·have hk:(k+(its.toArray.size:Int)).toNat=j:=by rw[seqIndex_neg (by omega) h3]at h1;rw[av,<-hl];exact cx h1
  exact PySem.W.ki_setBack ho (by omega) (by rw[av,<-hl];exact h3) (by omega) (by rw[hk];exact⟨_,I',q⟩)
theorem QR (lo hi:Option Int) (n:Nat):(sliceBounds lo hi none n).1=((HT.sIx n 0 lo:Nat):Int)/\(sliceBounds lo hi none n).2.1=((HT.sIx n n hi:Nat):Int)/\(sliceBounds lo hi none n).2.2=1:=by
 refine⟨?_, ?_,rfl⟩
 ·cases lo with
  |none=>simp[sliceBounds,HT.sIx]
  |some i=>
   simp only[sliceBounds,HT.sIx,Option.getD_none,show(1:Int)>0 by decide,if_true]
   by_cases h:i<0
   ·simp only[h,if_true] <;> omega
   ·simp only[h,if_false] <;> omega
 ·cases hi with
  |none=>simp[sliceBounds,HT.sIx]
  |some i=>
   simp only[sliceBounds,HT.sIx,Option.getD_none,show(1:Int)>0 by decide,if_true]
   by_cases h:i<0
   ·simp only[h,if_true] <;> omega
   ·simp only[h,if_false] <;> omega
theorem QS (its:List af) (lo hi:Option Int):slicePick its.toArray lo hi none=((its.drop (HT.sIx its.length 0 lo)).take (HT.sIx its.length its.length hi - HT.sIx its.length 0 lo)).toArray:=by obtain⟨h1,h2,h3⟩:=QR lo hi its.toArray.size;unfold slicePick;rw[h1,h2,h3];simp only[sliceRange_one,pick_run,av] <;> rfl
def QT (K:aq):V->Option Int->Option Int->Hp->VK->Prop:=λx lo hi H Q=>∃a xs,x=.ref a/\SqL K H a xs/\∀p,H p=none->Q (.ref p) (upd H p (.lst (lZ xs lo hi)))
theorem QU:SlR X (QT X.K):=by intro pins s σ H x v vl vu lo hi sl Q I rx hs pl pu h;obtain⟨a,xs,rfl,hx,q⟩:=h;cases rx;obtain⟨its,r,ht,hz⟩:=I.list hx;have hlen:=r.length;refine⟨"list",_,slot_list_getitem.lookup,ht.isList.typeIs, ?_⟩;refine wpAny_getItem_list_slice ht.isList hs pl pu .none (by simp) ?_ (by rw[av] <;> omega);rw[QS,<-hlen];refine⟨.ref s.heap.objs.size,_,I.laid (t':=s.toks) (o:=.lst (lZ xs lo hi)) (λb ob q=>aj _ q) (ak _) ?_,rfl,q _ (I.hok.fresh (ak _))⟩;exact⟨dq (FI xs lo hi) hz,_,0,(r.drop (HT.sIx xs.length 0 lo)).take (HT.sIx xs.length xs.length hi - HT.sIx xs.length 0 lo),ax _ rfl⟩
theorem FT:CallR X (.builtin "len") (λxs H Q=>∃p ys,xs=[.ref p]/\(SqL X.K H p ys∨SqT X.K H p ys)/\Q (.int ys.length) H):=by
 intro pins s σ H xs us Q I r h;obtain⟨p,ys,rfl,hq,q⟩:=h;obtain⟨u,rfl,rx⟩:=iF r;cases rx;have hn:=oV
 rcases hq with hq|hq
 ·obtain⟨its,r',pl,hz⟩:=I.list hq;have hlen:=r'.length;exact Calls.call_len_list pl.isList (by simp only[av] <;> omega) ⟨.int ys.length,H,I.tok _,⟨s.toks+1,by rw[av,hlen]⟩,q⟩
 ·obtain⟨its,r',pl,hz⟩:=I.tuple hq;have hlen:=r'.length;exact len_tuple pl (by simp only[av] <;> omega) ⟨.int ys.length,H,I.tok _,⟨s.toks+1,by rw[av,hlen]⟩,q⟩
theorem QV:CallR X (.type "list") (λxs H Q=>∃p ys,xs=[.ref p]/\(SqL X.K H p ys∨SqT X.K H p ys)/\∀l,H l=none->Q (.ref l) (upd H l (.lst ys))):=by
 intro pins s σ H xs us Q I r h;obtain⟨p,ys,rfl,hq,q⟩:=h;obtain⟨u,rfl,rx⟩:=iF r;cases rx;have fin:∀(its:List af),Vals ys its->ys.length<=ck->∀(h':cp) (c':Nat),(∀b o',s.heap.get? b=some o'->h'.get? b=some o')->
   h'.get? s.heap.objs.size=some { cls:=.type "list",dict:=none,data:=.seq its.toArray c',slots:=#[] }->EP X pins σ Q (.ref s.heap.objs.size) { s with heap:=h' }:=λits r' hz h' c' kp e=>
  ⟨.ref s.heap.objs.size,_,I.laid (t':=s.toks) kp (ak _) (show ObjOk X.prog X.w _ h' _ (.lst ys) from⟨hz,its,c',r',e⟩),rfl,q _ (I.hok.fresh (ak _))⟩
 rcases hq with hq|hq
 ·obtain⟨its,r',pl,hz⟩:=I.list hq;have hlen:=r'.length;obtain⟨o,ho,hc,n,hd⟩:=pl.isList;exact call_list_seq p (.inl rfl) ho hc hd (λh' c' kp e=>fin its r' hz h' c' kp e) (by simp only[av] <;> omega)
 ·obtain⟨its,r',pl,hz⟩:=I.tuple hq;have hlen:=r'.length;obtain⟨o,ho,hc,n,hd⟩:=pl;exact call_list_seq p (.inr rfl) ho hc hd (λh' c' kp e=>fin its r' hz h' c' kp e) (by simp only[av] <;> omega)
theorem QW:CallR X (.type "tuple") (λxs H Q=>∃p ys,xs=[.ref p]/\((SqL X.K H p ys/\∀l,H l=none->Q (.ref l) (upd H l (.tup ys)))∨(SqT X.K H p ys/\Q (.ref p) H))):=by
 intro pins s σ H xs us Q I r h;obtain⟨p,ys,rfl,h⟩:=h;obtain⟨u,rfl,rx⟩:=iF r;cases rx
 rcases h with⟨hq,q⟩|⟨hq,q⟩
 ·obtain⟨its,r',pl,hz⟩:=I.list hq;have hlen:=r'.length;refine call_tuple_list pl.isList (λh' kp=>?_) (by simp only[av] <;> omega);have I1:Inv X pins σ H { s with heap:=h' }:=I.kept (t':=s.toks) kp;have I2:Inv X pins σ (upd H h'.objs.size (.tup ys)) { s with heap:=h'.push { cls:=.type "tuple",data:=.seq its.toArray } }:=I1.laid (t':=s.toks) (λb o e=>aj _ e) (ak _) (show ObjOk X.prog X.w _ _ _ (.tup ys) from⟨hz,its,r',IsTupX.new _ _⟩);exact⟨.ref h'.objs.size,_,I2,rfl,q _ (I1.hok.fresh (ak _))⟩
 ·obtain⟨its,r',pl,hz⟩:=I.tuple hq;exact call_tuple_same pl ⟨.ref p,H,I,rfl,q⟩
def tW (K:aq) (T:String) (x:V) (H:Hp):Prop:=match x with
 | .str _=>T = "str"
 | .int _=>T = "int"
 | .ref p=>(T = "list"/\∃xs,SqL K H p xs)∨(T = "tuple"/\∃o,K.lookup p=some o/\o.cls=.type "tuple"/\o.dict=none) ∨
   (T = "dict"/\((∃kvs,H p=some (.dK kvs))∨∃kvs,H p=some (.dT kvs)))∨(T = "set"/\∃S n,H p=some (.set S n))
 |_=>False
theorem QX {pins:List (ai×Obj)}{σ:St}{H:Hp}{s:ag}{T:String}{x:V}{v:af}(I:Inv X pins σ H s) (r:RelV x v) (ty:tW X.K T x H):
  s.TypeIs v T/\∀a,v=.ref a->∃ob,s.heap.get? a=some ob/\ob.dict=none:=by
 cases x with
 |str z=>
  obtain⟨t,rfl⟩:=r
  cases (show T = "str" from ty)
  exact⟨typeIs_str s z t,λ_ e=>nomatch e⟩
 |int i=>
  obtain⟨t,rfl⟩:=r
  cases (show T = "int" from ty)
  exact⟨typeIs_int s i t,λ_ e=>nomatch e⟩
 |ref p=>
  cases r
  rcases ty with⟨rfl,xs,hq⟩|⟨rfl,o,hk,hc,hd⟩|⟨rfl,hk⟩|⟨rfl,S,n,hk⟩
  ·obtain⟨its,_,pl,_⟩:=I.list hq;refine⟨pl.isList.typeIs,λa e=>?_⟩;cases e;obtain⟨o,n,e,c,hd,_⟩:=pl;exact⟨o,e,hd⟩
  ·refine⟨⟨o,I.kIn p o hk,hc⟩,λa e=>?_⟩;cases e;exact⟨o,I.kIn _ o hk,hd⟩
  ·have z:∃o,s.heap.get? p=some o/\o.ExactDict:=by
    rcases hk with⟨kvs,hk⟩|⟨kvs,hk⟩
    ·obtain⟨_,_,_,_,o,_,_,e,ex,_⟩:=I.hok p _ hk;exact⟨o,e,ex⟩
    ·obtain⟨_,_,_,_,o,_,_,e,ex,_⟩:=I.hok p _ hk;exact⟨o,e,ex⟩
   obtain⟨o,e,ex⟩:=z;refine⟨⟨o,e,ex.1⟩,λa e2=>?_⟩;cases e2;exact⟨o,e,ex.2.1⟩
  ·obtain⟨o,_,_,_,e,ex,_⟩:=I.hok p _ hk;refine⟨⟨o,e,ex.1⟩,λa e2=>?_⟩;cases e2;exact⟨o,e,ex.2.1⟩
 |_=>exact gw ty
def QY (K:aq) (T:String) (r:V->List V->Hp->VK->Prop) (to:TE) (t:TA):TE:=λσ H Q=>to σ H λx H1=>tW K T x H1/\t σ H1 λxs H2=>r x xs H2 Q
variable{o e:bu}{es:List bu}{to:TE}{t:TA}{name:Str}{apos cpos:Pos}{T id:String}{r:V->List V->Hp->VK->Prop}
theorem FU (pa:PlainAttrs T) (slot:Slot T name id) (hty:typeOf (.builtin id)=pure (.type "method_descriptor")) (hm:QM X id r) (ho:PE X o to) (ha:PA X (e::es) t)
  (hbase:attributeBase o name X.env (eval o X.env)=eval o X.env:=by rfl)
  (hfew:((backTo cpos (aw (e::es) X.env)).all (λx=>!x.1)&&(backToKw cpos (keywordEach [] X.env)).all (λx=>x.1.isSome)
   && decide ((e::es).length+([]:List Keyword).length+(if([]:List Keyword).isEmpty then 0 else 1)<30))=true:=by rfl)
  (hline:(apos.endLine==cpos.line)=true:=by rfl) (hs:aw (e::es) X.env=(false,eval e X.env)::aw es X.env:=by rfl) (hplain:(backTo cpos (aw es X.env)).any (·.1)=false:=by rfl):
  PE X (.Call (.Attribute o name apos) (e::es) [] cpos) (QY X.K T r to t):=by
 intro pins s σ H Q I h;refine wpAny_Call_method_late hbase hfew hline rfl (aX (ho pins s σ H _ I h) λv s1 ⟨x,H1,I1,r1,ty,q1⟩=>?_);obtain⟨h1,h2⟩:=QX I1 r1 ty;refine⟨T,id,pa,slot,hty,h1,h2, ?_⟩;have hA:=ha cpos pins s1 σ H1 _ I1 q1;rw[hs]at hA ⊢;refine Calls.callWith_builtin (by show(false||(backTo cpos (aw es X.env)).any (·.1))=false;rw[hplain] <;> rfl) (Bs ?_);exact aX hA λus s2 ⟨vs,H2,I2,r2,q2⟩=>hm pins s2 σ H2 x vs v us Q I2 r1 r2 q2
end
def FV (X:Cx) (id:String) (r:V->List V->Hp->VK->Prop):Prop:=
 ∀(pins:List (ai×Obj)) (s:ag) (σ:St) (H:Hp) (x:V) (xs:List V) (v:af) (us:List af) (Q:VK),Inv X pins σ H s->RelV x v->Vals xs us->r x xs H Q->
  wpAny (model X.prog X.w) X.A (call (.builtin id) (v::us)) (EP X pins σ Q) X.xe s
theorem Vals.one:∀{x:V}{us:List af},Vals [x] us->∃u,us=[u]/\RelV x u
 |_,_,.cons r .nil=>⟨_,rfl,r⟩
theorem Vals.eraseIdx:∀{xs:List V}{us:List af}(i:Nat),Vals xs us->Vals (xs.eraseIdx i) (us.eraseIdx i)
 |_,_,_,.nil=>.nil
 |_,_,0,.cons _ t=>t
 |_,_,i+1,.cons r t=>.cons r (Vals.eraseIdx i t)
theorem FW {α:Type}:∀(l:List α) (i:Nat),(l.eraseIdx i).length<=l.length
 | [],_=>ak _
 |_::_,0=>Nat.le_succ _
 |_::r,i+1=>Nat.succ_le_succ (FW r i)
section
variable{X:Cx}{pins:List (ai×Obj)}{σ:St}{H:Hp}{s:ag}{l b:ai}{xs ys zs:List V}
theorem Inv.lset {its its':List af}{n:Nat}{f:Array af->Array af}{t':Nat}(I:Inv X pins σ H s) (hH:H l=some (.lst xs))
  (e:s.heap.get? l=some { cls:=.type "list",data:=.seq its.toArray n }) (hf:f its.toArray=its'.toArray) (hv:Vals ys its') (hz:ys.length<=ck):
  Inv X pins σ (upd H l (.lst ys)) { s with heap:=s.heap.update l (gn f),toks:=t' }:=by
 have q:=ql e f;rw[hf]at q;refine I.write (x:=l) (e:=l) (by rw[hH];exact trivial) (.inl rfl) (λb' u hb hu=>(ji s.heap (gn f) (cm hb)).trans hu) ⟨_,q⟩ ?_;exact⟨hz,its',_,hv,q⟩
theorem Inv.lnew {its:List af}{t':Nat}(I:Inv X pins σ H s) (hv:Vals ys its) (hz:ys.length<=ck):
  Inv X pins σ (upd H s.heap.objs.size (.lst ys)) { s with heap:=s.heap.push { cls:=.type "list",data:=.seq its.toArray },toks:=t' }:=
 I.laid (λ_ _ q=>aj _ q) (ak _) ⟨hz,its,0,hv,ax _ rfl⟩
theorem Inv.fresh (I:Inv X pins σ H s):H s.heap.objs.size=none:=I.hok.fresh (ak _)
theorem Inv.lstM (I:Inv X pins σ H s) (hH:H l=some (.lst xs)):xs.length<=ck/\∃(its:List af) (n:Nat),Vals xs its/\xs.length=its.length/\s.heap.get? l=some { cls:=.type "list",data:=.seq its.toArray n }:=by obtain⟨z,its,n,r,e⟩:=I.hok l _ hH;exact⟨z,its,n,r,r.length,e⟩
end
section
variable{X:Cx}
def QZ:V->List V->Hp->VK->Prop:=λx vs H Q=>∃l xs y,x=.ref l/\vs=[y]/\H l=some (.lst xs)/\xs.length<ck/\Q .non (upd H l (.lst (xs++[y])))
theorem Q0:FV X "list.append" QZ:=by intro pins s σ H x vs v us Q I rx rv h;obtain⟨l,xs,y,rfl,rfl,hH,hz,q⟩:=h;cases rx;obtain⟨u,rfl,ru⟩:=rv.one;obtain⟨z,its,n,r,hl,e⟩:=I.lstM hH;refine call_meets F.slot_list_append ⟨_,e,rfl⟩ F.entry_list_append (F.args_list_append_2 _ _) (PySem.list_append l its.toArray n u (by rw[av];omega)) ⟨e, ?_⟩;refine⟨.non,_,I.lset (its':=its++[u]) hH e (by simp) (r.append (.cons ru .nil)) ?_,rfl,q⟩;rw[bw,Bt];omega
def Q2:V->List V->Hp->VK->Prop:=λx vs H Q=>∃l xs i k y,x=.ref l/\vs=[.int i]/\H l=some (.lst xs)/\-(2 ^ 63)<=i/\i<2 ^ 63/\seqIndex? i xs.length=some k/\xs[k]?=some y/\Q y (upd H l (.lst (xs.eraseIdx k)))
theorem Q3:FV X "list.pop" Q2:=by
 intro pins s σ H x vs v us Q I rx rv h;obtain⟨l,xs,i,k,y,rfl,rfl,hH,h1,h2,hk,hy,q⟩:=h;cases rx;obtain⟨u,rfl,ru⟩:=rv.one;obtain⟨t,rfl⟩:=ru;obtain⟨z,its,n,r,hl,e⟩:=I.lstM hH;obtain⟨w,hw,rw'⟩:=r.get hy;refine call_meets F.slot_list_pop ⟨_,e,rfl⟩ F.entry_list_pop (F.args_list_pop_2 _ _)
  (MeetsSeq.list_pop_at l its.toArray n i t k w (fitsIndex_both h1 h2) (by rw[av,<-hl];exact hk) (by rw[<-kz];exact hw) (by rw[av];omega)) ⟨e, ?_⟩
 refine⟨y,_,I.lset (its':=its.eraseIdx k) hH e ?_ (r.eraseIdx k) ?_,rw',q⟩
 ·show its.toArray.eraseIdxIfInBounds k=(its.eraseIdx k).toArray;rw[List.eraseIdxIfInBounds_toArray]
 ·have:=FW xs k;omega
def FX:R2:=λx y H Q=>∃l b xs zs,x=.ref l/\y=.ref b/\H l=some (.lst xs)/\H b=some (.lst zs)/\xs.length+zs.length<=ck/\∀p,H p=none->Q (.ref p) (upd H p (.lst (xs++zs)))
theorem op_cat:OpR X (binaryOp .Add) FX:=by
 intro pins s σ H x y v u Q I rx ry h;obtain⟨l,b,xs,zs,rfl,rfl,hH,hB,hz,q⟩:=h;cases rx;cases ry;obtain⟨z,its,n,r,hl,e⟩:=I.lstM hH;obtain⟨z2,its2,n2,r2,hl2,e2⟩:=I.lstM hB;refine PySem.P.add_list e e2 ?_ (by rw[av,av];omega);have ea:its.toArray++its2.toArray=(its++its2).toArray:=by simp
 rw[ea];exact⟨.ref _,_,I.lnew (t':=s.toks) (r.append r2) (by rw[bw];omega),rfl,q _ I.fresh⟩
end
section
variable{prog:bg}{w:cn}{A:cg}{E:af->ag->Prop}{s:ag}
set_option maxRecDepth 100000 in
end
section
variable{X:Cx}
end
end L2
namespace Att
open PySem PySem.W PySem.Calls PyProof.Rows
theorem Q4 {P:Params}{h:cp}:∀(ns:List Int) (vs:List af),WellAll P h vs (ns.map WData.int)->oh vs ns:=by
 intro ns
 induction ns with
 |nil=>intro vs w;rw[List.map_nil]at w;cases w;exact .nil
 |cons n ns ih=>
  intro vs w;rw[dw]at w
  cases w with
  |cons a b=>cases a;exact .cons _ _ (ih _ b)
theorem Q5 {l:OpenLaw}{n:Nat}(hn:l.most=some n) {P:Params}{h:cp}{args:List WData}{vals:List af}
  (hpre:l.row.toRowW.claim.pre args=true) (hwl:WellAll P h vals args):
  ∃a vs ns,vals=[dh a]/\args=[WData.list (ns.map WData.int)]/\h.get? a=some { cls:=.type "list",data:=.seq vs.toArray }/\oh vs ns/\ns.length<=n:=by
 have hsh:WShape.hasAll [] args [.list .int]=true:=(pre_splitW hpre).1;have hc:l.pre.holds [] { args:=args }=true:=(pre_splitW hpre).2;obtain⟨d,r,rfl,h1,h2⟩:=hasAllW_cons hsh;obtain rfl:=hasAllW_nil h2;obtain⟨xs,rfl,h3⟩:=hasW_list h1;obtain⟨ns,rfl⟩:=items_int h3;have hlen:ns.length<=n:=by
  unfold OpenLaw.pre at hc;have h4:(WTm.not (.lt (.lit (.int (n:Int))) (.len (.arg 0)))).holds [] { args:=[.list (ns.map .int)] }=true:=by have h4:=(holds_andW hc).1;rw[hn]at h4;exact h4
  have h5:=condW_of h4 (w_not (w_lt w_lit (w_len_list (w_arg rfl))));rw[bo]at h5;refine Nat.le_of_not_lt λq=>?_;have q':(n:Int)<((ns.length:Nat):Int):=by omega
  first
   |(rw[decide_eq_true q']at h5;exact absurd h5 (by decide))
   |(simp at h5;omega)
 cases hwl with
 |cons w1 w2=>
  cases w2
  cases w1 with
  |list ho hall=>exact⟨_,_,ns,rfl,rfl,ho,Q4 ns _ hall,hlen⟩
theorem Q6 (l:OpenLaw) (args:List WData):l.row.toRowW.claim.post args (.bool true) args=true:=
 postW_of (r:=l.row.toRowW) (X:=(true==true))
  (show WShape.has [] (.bool true) .bool=true by first|rfl|decide|simp[WShape.has,WShape.arms,WShape.armsAll])
  (show(WTm.eq .res (.lit (.bool true))).value [] { args:=args,res:=some (.bool true),after:=args }=some (.bool (true==true)) from w_eq_bool (w_res rfl) w_lit) rfl
theorem attach_call {l:OpenLaw}{n:Nat}{q:bg}{eM:List Str}{XP:(Str->Option af)->cp->Prop}{YP:cn->cp->Prop}{d:DefRec}
  (hn:l.most=some n) (hdf:d.params.defaults=[])
  (call:∀(w:cn) (s₀ s₁:ag) (mg mb:Str->Option af) (fa:ai) (o:Obj) (pm cd doc:af) (a:ai) (vs:List af) (ns:List Int),
   Ground q eM [] XP w s₀ mg mb s₁.heap->YP w s₁.heap->
   s₁.heap.get? fa=some o->o.data=.func (docDef d.name d.params d.body d.scope pm cd doc)->s₁.heap.CodeRec cd d.name->mg d.name=some (.ref fa)->
   s₁.heap.get? a=some { cls:=.type "list",data:=.seq vs.toArray }->oh vs ns->ns.length<=n->s₁.gens=#[]->
   codeAny (model l.prog w) callerA (.call (.ref fa) ⟨[.ref a],[]⟩) (λr s'=>r=.ok (.ret (.bool true))/\OldK s₁.heap s'.heap/\s'.os=s₁.os/\sv s'.gens) s₁):
  WalkO q eM XP YP l.row.toRowW d [] (λf vs=>PySem.call f vs):=by
 intro w s₀ s₁ mg mb G Y fa o pm cd doc dV kV ho hd hcd hD hmg hg args vals as hpre hlay hrd hwl hlo;obtain rfl:dV=.none:=Dflts.none hD hdf;obtain rfl:kV=.none:=Dflts.noKw hD;obtain⟨a,vs,ns,rfl,rfl,hobj,hints,hlen⟩:=Q5 hn hpre hwl;refine enter_call (ni (call w s₀ s₁ mg mb fa o pm cd doc a vs ns G Y ho (fd_plain hd) hcd hmg hobj hints hlen hg) λr s' hq=>?_);obtain⟨rfl,h2,h3,h4⟩:=hq;exact⟨.inl ⟨.bool true,.bool true,[],rfl,λ_=>rfl,.bool true,Q6 l _,λ_=>⟨yk,λ_ hm=>(nomatch hm)⟩⟩,h2,h3,h4⟩
section
variable{prog:bg}{w:cn}{A:cg}{E:af->ag->Prop}{s:ag}{K:Frag}
end
end Att
namespace L2
open PySem PySem.Spec PyProof.Rows
theorem FY:∀{vs:List af}{ns:List Int},oh vs ns->Vals (ns.map V.int) vs
 |_,_,.nil=>.nil
 |_,_,.cons n t h=>.cons ⟨t,rfl⟩ (FY h)
def oY (s:gv):lx:=match s with
 | .FunctionDef _ a _ _ _ _ _ _ _ _=>a
 |_=>{ posonlyargs:=[],args:=[],vararg:=none,kwonlyargs:=[],kw_defaults:=[],kwarg:=none,defaults:=[] }
def jP (s:gv):List gv:=match s with
 | .FunctionDef _ _ b _ _ _ _ _ _ _=>b
 |_=>[]
def aV (s:gv):iu:=match s with
 | .FunctionDef _ _ _ _ _ _ sc _ _ _=>sc
 |_=>{ kind:=.function,names:=[],isGenerator:=false,isCoroutine:=false }
abbrev E0:XK:=λ_ _ _=>False
structure Fun (K:aq) (x qual:Str) (st:gv) (f:ai) (fd:bq):Prop where
 ex:∃(oc:af) (od:Option ai) (kV doc pm:af) (an:Option ai) (cdv ct:af) (osl:Array (Option af)),
  fd=pg x qual (oY st) (jP st) (aV st) .none kV doc pm an cdv ct/\K.lookup f=some ⟨oc,od,.func fd,osl⟩/\xj K cdv qual=true
 kp:nr K (.ref f)=true
section
variable{P:bg}{w:cn}{K:aq}{mg:Str->Option af}{base:cp}
theorem Fun.binds {x qual:Str}{st:gv}{f:ai}{fd:bq}{ps:List Str}(F:Fun K x qual st f fd)
  (h:∀(kV doc pm:af) (an:Option ai) (cdv ct:af) (us:List af),us.length=ps.length->bindArgs (pg x qual (oY st) (jP st) (aV st) .none kV doc pm an cdv ct) ⟨us,[]⟩=pure (ps.zip us)):Binds K fd ps []:=by
 obtain⟨oc,od,kV,doc,pm,an,cdv,ct,osl,rfl,lk,hcd⟩:=F.ex;exact .all (h kV doc pm an cdv ct)
theorem FZ {x qual:Str}{st:gv}{f:ai}{oc:af}{od an:Option ai}{osl:Array (Option af)}{kV doc pm cdv ct:af}(l:K.lookup f=some ⟨oc,od,.func (pg x qual (oY st) (jP st) (aV st) .none kV doc pm an cdv ct),osl⟩)
  (c:xj K cdv qual=true) (k:nr K (.ref f)=true):Fun K x qual st f (pg x qual (oY st) (jP st) (aV st) .none kV doc pm an cdv ct):=⟨⟨oc,od,kV,doc,pm,an,cdv,ct,osl,rfl,l,c⟩,k⟩
end
section
variable{X:Cx}
end
theorem zR {A B:Prop}(h:B):if false=true then A else B:=by rw[if_neg jr];exact h
theorem zS {A B:Prop}(h:A):if true=true then A else B:=by rw[if_pos rfl];exact h
def Same (H H':Hp):Prop:=∀b o,H b=some o->H' b=some o
theorem Same.refl (H:Hp):Same H H:=λ_ _ h=>h
theorem tX {β:Type}(x y:Str) (c:β) (acc:List (Str×β)):((y,c)::acc).lookup x=if x=y then some c else acc.lookup x:=by
 rw[iw]
 by_cases e:x=y
 ·have hb:(x==y)=true:=beq_iff_eq.mpr e;rw[hb,if_pos e]
 ·have hb:(x==y)=false:=beq_eq_false_iff_ne.mpr e;rw[hb,if_neg e]
def cV (env:Env):List (Str×kq)->List (Str×ai)->List (Str×ai)
 | [],acc=>acc
 |(x,k)::r,acc=>cV env r (if k==.free then(x,(env.cells.lookup x).getD 0)::acc else acc)
theorem zT {env:Env}:∀(l:List (Str×kq)) (acc:List (Str×ai)),(∀x,(x,cf)∈l->∃c,env.cells.lookup x=some c)->
  (forIn l acc (λ(x:Str×kq) (r:List (Str×ai))=>match x with
   |(name,kind)=>if(kind==cf)=true then(do let a <-cellOf env name;pure (qw ((name,a)::r)))else(pure (qw r):Sem (ForInStep (List (Str×ai))))))=(pure (cV env l acc):Sem (List (Str×ai)))
 | [],acc,_=>rfl
 |(x,k)::l,acc,h=>by
  rw[jg];dsimp only
  cases hk:k==cf with
  |true=>
   have e:k=.free:=by cases k <;> first|rfl|cases hk
   subst e;obtain⟨c,hc⟩:=h x (bh ..);rw[if_pos rfl,show cV env ((x,cf)::l) acc=cV env l ((x,c)::acc)by rw[cV,if_pos hk,hc];rfl,<-zT l ((x,c)::acc) λy hy=>h y (ay _ hy)];unfold cellOf;rw[hc];rfl
  |false=>rw[if_neg (by simp),show cV env ((x,k)::l) acc=cV env l acc by rw[cV,hk];rfl,<-zT l acc λy hy=>h y (ay _ hy)];rfl
theorem zU {env:Env}{scope:iu}(h:∀x,(x,cf)∈scope.names->∃c,env.cells.lookup x=some c):closureFor scope env=pure (cV env scope.names []):=by unfold closureFor;have:=zT (env:=env) scope.names [] h;show(forIn scope.names [] _ >>= λcs=>pure cs)=_;exact(congrArg (λ(m:Sem (List (Str×ai)))=>m >>= λcs=>pure cs) this)
theorem qN {env:Env}{x:Str}:∀(l:List (Str×kq)) (acc:List (Str×ai)),((x,cf)∈l∨acc.lookup x=some ((env.cells.lookup x).getD 0))->(cV env l acc).lookup x=some ((env.cells.lookup x).getD 0)
 | [],acc,h=>h.elim (λz=>nomatch z) id
 |(y,k)::l,acc,h=>by
  rw[cV]
  cases hk:k==cf with
  |true=>
   refine qN l _ ?_;rw[if_pos rfl]
   by_cases e:x=y
   ·subst e;right;rw[tX,if_pos rfl]
   ·rcases h with h|h
    ·rcases ba.mp h with h|h
     ·cases h;exact absurd rfl e
     ·exact .inl h
    ·right;rw[tX,if_neg e];exact h
  |false=>
   refine qN l _ ?_
   rcases h with h|h
   ·rcases ba.mp h with h|h
    ·cases h;simp at hk
    ·exact .inl h
   ·exact .inr h
structure BlkCells (h h':cp) (names:List (Str×kq)) (acc cs:List (Str×ai)):Prop where
 cases:∀x c,cs.lookup x=some c->acc.lookup x=some c∨(h.objs.size<=c/\h'.IsCell c none/\(x,ey)∈names)
 own:∀x,(x,ey)∈names->∃c,cs.lookup x=some c
 old:∀x,(x,ey)∉names->cs.lookup x=acc.lookup x
 inj:(∀x y c,acc.lookup x=some c->acc.lookup y=some c->x=y)->(∀x c,acc.lookup x=some c->c<h.objs.size)->∀x y c,cs.lookup x=some c->cs.lookup y=some c->x=y
theorem qO:∀(names:List (Str×kq)) (h:cp) (acc:List (Str×ai)),BlkCells h (pushCells h names) names acc (cellsFrom h.objs.size names acc)
 | [],h,acc=>{ cases:=λ_ _ e=>.inl e,own:=λ_ z=>(nomatch z),old:=λ_ _=>rfl,inj:=λa _=>a }
 |(y,k)::r,h,acc=>by
  cases hk:k==ey with
  |true=>
   have ek:k=.cell:=by cases k <;> first|rfl|cases hk
   subst ek;have ih:=qO r (h.push { cls:=.type "cell",data:=.cell none }) ((y,h.objs.size)::acc);have e1:pushCells h ((y,ey)::r)=pushCells (h.push { cls:=.type "cell",data:=.cell none }) r:=rfl;have e2:cellsFrom h.objs.size ((y,ey)::r) acc=cellsFrom (h.push { cls:=.type "cell",data:=.cell none }).objs.size r ((y,h.objs.size)::acc):=by rw[gh];rfl
   rw[e1,e2];have look:∀x,((y,h.objs.size)::acc).lookup x=if x=y then some h.objs.size else acc.lookup x:=λx=>tX ..
   refine⟨λx c e=>?_,λx hx=>?_,λx hx=>?_,λh1 h2 x z c ex ez=>?_⟩
   ·rcases ih.cases x c e with q|⟨q1,q2,q3⟩
    ·rw[look]at q
     by_cases exy:x=y
     ·rw[if_pos exy]at q;cases q;refine .inr ⟨ak _,⟨_,qo r _ _ _ (ax _ rfl),rfl⟩,by rw[exy];exact bh ..⟩
     ·rw[if_neg exy]at q;exact .inl q
    ·rw[gh]at q1;exact .inr ⟨Nat.le_of_succ_le q1,q2,ay _ q3⟩
   ·by_cases hr:(x,ey)∈r
    ·exact ih.own x hr
    ·rw[ih.old x hr,look]
     rcases ba.mp hx with z|z
     ·cases z;exact⟨_,if_pos rfl⟩
     ·exact absurd z hr
   ·rw[ih.old x λz=>hx (ay _ z),look,if_neg]
    rintro rfl
    exact hx (bh ..)
   ·refine ih.inj ?_ ?_ x z c ex ez
    ·intro a b c ea eb;rw[look]at ea eb
     by_cases qa:a=y
     ·rw[if_pos qa]at ea;cases ea
      by_cases qb:b=y
      ·exact qa.trans qb.symm
      ·rw[if_neg qb]at eb;exact absurd (h2 b _ eb) (gp _)
     ·rw[if_neg qa]at ea
      by_cases qb:b=y
      ·rw[if_pos qb]at eb;cases eb;exact absurd (h2 a _ ea) (gp _)
      ·rw[if_neg qb]at eb;exact h1 a b c ea eb
    ·intro a c ea;rw[gh];rw[look]at ea
     by_cases qa:a=y
     ·rw[if_pos qa]at ea;cases ea;exact kd _
     ·rw[if_neg qa]at ea;exact jy (h2 a c ea)
  |false=>
   have ih:=qO r h acc;have e1:pushCells h ((y,k)::r)=pushCells h r:=by rw[pushCells,hk];rfl
   have e2:cellsFrom h.objs.size ((y,k)::r) acc=cellsFrom h.objs.size r acc:=by rw[cellsFrom,hk];rfl
   rw[e1,e2];have nk:∀x,(x,ey)∈(y,k)::r->(x,ey)∈r:=λx z=>by
    rcases ba.mp z with z|z
    ·cases z;simp at hk
    ·exact z
   exact⟨λx c e=>(ih.cases x c e).imp id λ⟨a,b,c⟩=>⟨a,b,ay _ c⟩,λx hx=>ih.own x (nk x hx),λx hx=>ih.old x λz=>hx (ay _ z),ih.inj⟩
def F0 (scope:iu) (env:Env) (L:ai):Env:={ scope:=relabel scope env,locals:=L,globals:=env.globals,cells:=cellsFrom (L+1) scope.names (cV env scope.names []),qual:=env.qual,func:=none,code:=env.code,frame:=env.frame,builtins:=env.builtins }
theorem Q7 {M:Aq}{A:cg}{E:af->ag->Prop}{s:ag}{scope:iu}{env:Env}{cl:List (Str×ai)}{qual:Str}{g:ai}{Q:Env->ag->Prop}
  (h:Q { scope:=scope,locals:=s.heap.objs.size,globals:=g,cells:=cellsFrom (s.heap.objs.size+1) scope.names cl,qual:=qual,func:=none,code:=env.code,frame:=env.frame,builtins:=env.builtins }
   { s with heap:=pushCells (s.heap.push { cls:=.type "dict",data:=.dict #[] }) scope.names }):
  wpAny M A (newFunctionEnv scope g cl [] qual none .none (some env)) Q E s:=by
 simp only[newFunctionEnv,Option.isSome_some,if_true];refine aa (wpAny_alloc ?_);refine aa (wpAny_layCells _ (λname kind cells=>by cases hkc:kind==ey <;> simp[hkc]) _ _ _ _ ?_);rw[show({ s with heap:=s.heap.push { cls:=.type "dict",data:=.dict #[] } }:ag).heap.objs.size=s.heap.objs.size+1 from gh ..];exact aa (ah (ah h))
def cW (X:Cx) (scope:iu) (N:List Str) (s:ag) (H:Hp) (ex:List ai):Cx:={ X with N:=N,s₀:=s,H₀:=H,env:=F0 scope X.env s.heap.objs.size,outer:=X.stack,stack:=X.stack,ex:=ex,fn:=λx=>scope.names.lookup x==some .cell,xe:=λ_ _=>False }
def oZ (cap:List (Option Nat)) (σ:St):St:=cap.map λo=>match o with|some j=>(σ[j]?).getD none|none=>none
structure CapOk (X:Cx) (scope:iu) (N:List Str) (cap:List (Option Nat)):Prop where
 kind:scope.kind=.function
 nd:∀x∈scope.names,x.2=.local->scope.names.lookup x.1=some .local
 len:cap.length=N.length
 free:∀x,(x,cf)∈scope.names->X.env.kindOf x=some .cell∨X.env.kindOf x=some .free
 apart:∀x,(x,cf)∈scope.names->(x,ey)∉scope.names
 cap:∀(i j:Nat) (x:Str),cap[i]?=some (some j)->N[i]?=some x->X.N[j]?=some x/\(x,cf)∈scope.names/\(relabel scope X.env).names.lookup x≠some .local
theorem zV {scope:iu}{env:Env}{x:Str}:∀{l:List (Str×kq)}{k:kq},(l.map λ(n,k)=>if(k==cf&&env.scope.kind==.function&&env.kindOf n==some .cell)then(n,ey)else(n,k)).lookup x=some k->
  (x,k)∈l∨(k=.cell/\(x,cf)∈l)
 | [],_,h=>by simp at h
 |(n,q)::r,k,h=>by
  have ih:=@zV scope env x r k;rw[dw]at h
  by_cases hc:(q==cf&&env.scope.kind==.function&&env.kindOf n==some .cell)=true
  ·have hq:q=.free:=by
    have:(q==cf)=true:=by
     cases z:q==cf with
     |true=>rfl
     |false=>rw[z]at hc;simp at hc
    cases q <;> first|rfl|cases this
   dsimp only at h;rw[if_pos hc,iw]at h
   cases e:x==n with
   |true=>rw[e]at h;have h':ey=k:=cx h;subst h';have ex:=beq_iff_eq.mp e;subst ex;subst hq;exact .inr ⟨rfl,bh ..⟩
   |false=>rw[e]at h;exact(ih h).imp (ay _) λ⟨a,b⟩=>⟨a,ay _ b⟩
  ·dsimp only at h;rw[if_neg hc,iw]at h
   cases e:x==n with
   |true=>rw[e]at h;have h':q=k:=cx h;subst h';have ex:=beq_iff_eq.mp e;subst ex;exact .inl (bh ..)
   |false=>rw[e]at h;exact(ih h).imp (ay _) λ⟨a,b⟩=>⟨a,ay _ b⟩
theorem tY {env:Env}{x:Str}{c:ai}:∀(l:List (Str×kq)) (acc:List (Str×ai)),(cV env l acc).lookup x=some c->acc.lookup x=some c∨((x,cf)∈l/\c=(env.cells.lookup x).getD 0)
 | [],acc,h=>.inl h
 |(y,k)::l,acc,h=>by
  rw[cV]at h
  cases hk:k==cf with
  |true=>
   have ek:k=.free:=by cases k <;> first|rfl|cases hk
   subst ek;rw[if_pos hk]at h
   rcases tY l _ h with q|⟨q1,q2⟩
   ·rw[tX]at q
    by_cases e:x=y
    ·rw[if_pos e]at q;subst e;exact .inr ⟨bh ..,(cx q).symm⟩
    ·rw[if_neg e]at q;exact .inl q
   ·exact .inr ⟨ay _ q1,q2⟩
  |false=>rw[if_neg (by rw[hk];exact jr)]at h;exact(tY l _ h).imp id λ⟨a,b⟩=>⟨ay _ a,b⟩
section
variable{X:Cx}{pins:List (ai×Obj)}{σ:St}{H:Hp}{s:ag}{scope:iu}{N:List Str}{cap:List (Option Nat)}{ex:List ai}
theorem tZ (I:Inv X pins σ H s) (C:CapOk X scope N cap) {x:Str}{c:ai}(e:(cV X.env scope.names []).lookup x=some c):(x,cf)∈scope.names/\X.env.cells.lookup x=some c:=by
 rcases tY _ _ e with q|⟨q1,q2⟩
 ·cases q
 ·obtain⟨c',h'⟩:=I.ok.has x (C.free x q1);rw[h']at q2;subst q2;exact⟨q1,h'⟩
theorem uA (I:Inv X pins σ H s) (C:CapOk X scope N cap) {x:Str}{c:ai}(e:(F0 scope X.env s.heap.objs.size).cells.lookup x=some c):
  (X.env.cells.lookup x=some c/\(x,cf)∈scope.names)∨(s.heap.objs.size<c/\(pushCells (s.heap.push { cls:=.type "dict",data:=.dict #[] }) scope.names).IsCell c none/\(x,ey)∈scope.names):=by
 have B:=qO scope.names (s.heap.push { cls:=.type "dict",data:=.dict #[] }) (cV X.env scope.names []);rw[gh]at B
 rcases B.cases x c e with q|⟨q1,q2,q3⟩
 ·obtain⟨a,b⟩:=tZ I C q;exact .inl ⟨b,a⟩
 ·rw[gh]at q1;exact .inr ⟨q1,q2,q3⟩
theorem F1 (I:Inv X pins σ H s) (C:CapOk X scope N cap) (hex:∀b∈ex,cL X pins H b/\b<s.heap.objs.size):(cW X scope N s H ex).Ok:=by
 have B:=qO scope.names (s.heap.push { cls:=.type "dict",data:=.dict #[] }) (cV X.env scope.names []);rw[gh]at B;have kf:∀x,(x,cf)∈scope.names->∃c,X.env.cells.lookup x=some c:=λx hx=>I.ok.has x (C.free x hx);refine⟨I.ok.mod,C.kind,I.ok.glob,I.ok.blt,ak _, ?_, ?_, ?_,I.ok.hd,I.ok.frames,.inl rfl, ?_,I.bs,dq I.ok.bsz I.sz, ?_, ?_,I.stack,I.stkFree⟩
 ·refine B.inj (λx y c e1 e2=>?_) λx c e=>?_
  ·exact I.ok.inj x y c (tZ I C e1).2 (tZ I C e2).2
  ·obtain⟨v,q⟩:=I.cell x c (tZ I C e).2;rw[gh];exact jy q.lt
 ·intro x hx;have hx':(relabel scope X.env).names.lookup x=some .cell∨(relabel scope X.env).names.lookup x=some .free:=hx;have mem:(x,ey)∈scope.names∨(x,cf)∈scope.names:=by
   rcases hx' with h|h
   ·rcases zV (scope:=scope) h with q|⟨_,q⟩
    ·exact .inl q
    ·exact .inr q
   ·rcases zV (scope:=scope) h with q|⟨z,q⟩
    ·exact .inr q
    ·exact .inr q
  by_cases hc:(x,ey)∈scope.names
  ·exact B.own x hc
  ·rcases mem with h|h
   ·exact absurd h hc
   ·exact⟨_,(B.old x hc).trans (qN _ _ (.inl h))⟩
 ·intro x c hf e;have hf':(scope.names.lookup x==some .cell)=true:=hf;have hm:(x,ey)∈scope.names:=fv (eq_of_beq hf')
  rcases uA I C e with⟨_,q⟩|⟨q,_⟩
  ·exact absurd hm (C.apart x q)
  ·exact gq q
 ·intro b hb;obtain⟨⟨f0,f1,f2,f3,f4,f5⟩,hlt⟩:=hex b hb;refine⟨bc hlt,λx c e z=>?_⟩
  rcases uA I C e with⟨q,_⟩|⟨q,_⟩
  ·exact f4 x c q z
  ·subst z;exact gp _ (Nat.lt_trans q hlt)
 ·intro b o e hb;obtain⟨⟨f0,f1,f2,f3,f4,f5⟩,hlt⟩:=hex b hb
  rcases f3 with q|q
  ·exact I.ok.noex b o e q
  ·exact gp _ (au (ao e) (dq I.ok.bsz q))
 ·intro b hb z;obtain⟨⟨f0,f1,f2,f3,f4,f5⟩,hlt⟩:=hex b hb
  rcases ba.mp (I.stkSub b z)with q|q
  ·exact f1 q
  ·exact f2 q
theorem Q8 (I:Inv X pins σ H s) (C:CapOk X scope N cap) (hex:∀b∈ex,cL X pins H b/\b<s.heap.objs.size):
  Inv (cW X scope N s H ex) pins (oZ cap σ) H { s with heap:=pushCells (s.heap.push { cls:=.type "dict",data:=.dict #[] }) scope.names }:=by
 have B:=qO scope.names (s.heap.push { cls:=.type "dict",data:=.dict #[] }) (cV X.env scope.names []);rw[gh]at B;have kp:∀b o,s.heap.get? b=some o->(pushCells (s.heap.push { cls:=.type "dict",data:=.dict #[] }) scope.names).get? b=some o:=λb o e=>qo _ _ _ _ (aj _ e);have ns:(pushCells (s.heap.push { cls:=.type "dict",data:=.dict #[] }) scope.names).Ns s.heap.objs.size (λ_=>none):=⟨_,#[],_,qo _ _ _ _ (ax _ rfl),rfl,(λe he=>absurd he (by simp)),λ_=>rfl⟩
 obtain⟨m,hn,hl⟩:=I.loc;refine⟨F1 I C hex,rfl,I.bare,Un.kept kp,⟨_,ns,λi x v h1 h2 h3=>?_⟩,λx c e=>?_,I.hok.fresh (ak _),λx c e=>?_,λp hp=>?_,I.hok.kept kp, ?_⟩
 ·have h2':(cap.map λo=>match o with|some j=>(σ[j]?).getD none|none=>none)[i]?=some (some v):=h2;rw[di]at h2'
  cases q:cap[i]? with
  |none=>rw[q]at h2';cases h2'
  |some o=>
   rw[q]at h2'
   cases o with
   |none=>cases h2'
   |some j=>
    have e1:(σ[j]?).getD none=some v:=cx h2';have e2:σ[j]?=some (some v):=by
     cases z:σ[j]? with
     |none=>rw[z]at e1;cases e1
     |some w=>rw[z]at e1;exact congrArg some e1
    obtain⟨c1,c2,c3⟩:=C.cap i j x q h1;have vis:oS X.env.scope x:=by
     rcases C.free x c2 with z|z
     ·exact .inr (.inl z)
     ·exact .inr (.inr z)
    obtain⟨u,r,l⟩:=hl j x v c1 e2 vis;refine⟨u,r, ?_⟩
    rcases l with⟨hk,hm⟩|⟨hk,c,hc,hcell⟩
    ·rcases C.free x c2 with z|z
     ·rw[z]at hk;cases hk
     ·rw[z]at hk;cases hk
    ·refine .inr ⟨?_,c, ?_, ?_⟩
     ·have h3':oS (relabel scope X.env) x:=h3
      rcases h3' with z|z|z
      ·exact absurd z c3
      ·exact .inl z
      ·exact .inr z
     ·have:=(B.old x (C.apart x c2)).trans (qN _ _ (.inl c2));rw[hc]at this;exact this
     ·obtain⟨o,ho,hd⟩:=hcell;exact⟨o,kp _ _ ho,hd⟩
 ·rcases uA I C e with⟨q,_⟩|⟨_,q,_⟩
  ·obtain⟨v,o,ho,hd⟩:=I.cell x c q;exact⟨v,o,kp _ _ ho,hd⟩
  ·exact⟨none,q⟩
 ·rcases uA I C e with⟨q,_⟩|⟨q,_⟩
  ·exact I.freeC x c q
  ·exact I.hok.fresh (gq q)
 ·obtain⟨a1,a2,a3,a4,a5⟩:=I.pin p hp;refine⟨kp _ _ a1,a2,bc (ao a1),λz=>?_,a5⟩
  rcases ba.mp (I.stkSub _ z)with q|q
  ·exact a3 q
  ·exact a4 q
 ·show(cap.map _).length=N.length;rw[bo];exact C.len
theorem Q9 (I:Inv X pins σ H s) (C:CapOk X scope N cap) (hex:∀b∈ex,cL X pins H b/\b<s.heap.objs.size):∀b∈ex,cL (cW X scope N s H ex) pins H b:=by intro b hb;obtain⟨⟨f0,f1,f2,f3,f4,f5⟩,hlt⟩:=hex b hb;have ok:=F1 (N:=N) I C hex;exact⟨f0,(ok.exf b hb).1,ok.exfs b hb,.inl hb,(ok.exf b hb).2,f5⟩
theorem RA {σ':St}{H':Hp}{s':ag}{h':cp}(I:Inv X pins σ H s) (hex:∀b∈ex,cL X pins H b/\b<s.heap.objs.size) (I':Inv (cW X scope N s H ex) pins σ' H' s') (hh:ig s.heap.objs.size s'.heap h'):
  Inv X pins σ H' { s' with heap:=h' }:=by
 have u:Un (dH X.stack) ex H H' s.heap s'.heap:=I'.base;have up:∀b o o',s.heap.get? b=some o->s'.heap.get? b=some o'->h'.get? b=some o':=λb o o' e e'=>(hh.2 b (bc (ao e))).trans e';have hL:H' s.heap.objs.size=none:=I'.free;refine I.call' (s':={ s' with heap:=h' }) (ch:=ex) I'.os ⟨λb o q n hb hx=>up b o o q (u.keep b o q n hb hx),λb o q n hb hx=>?_,u.free,λb o q hx=>?_,u.tups,u.frzs,u.tbls⟩ (λb o e=>?_) I'.bare λb hb=>?_
 ·obtain⟨sl,e⟩:=u.slot b o q n hb hx;exact⟨sl,up b o _ q e⟩
 ·obtain⟨o',e⟩:=u.there b o q hx;exact⟨o',up b o _ q e⟩
 ·refine(I'.hok b o e).stay (λc v hc q=>(hh.2 c ?_).trans q) (λ_ q=>q) λ_ _ q=>q
  rcases hc with z|z
  ·rw[z];rintro rfl;rw[hL]at e;cases e
  ·rintro rfl;rw[hL]at z;cases z
 ·obtain⟨⟨f0,f1,f2,f3,f4,f5⟩,hlt⟩:=hex b hb;exact⟨f3,f1,f4,f5⟩
theorem Inv.adopt {a:ai}{o:HO}(I:Inv X pins σ H s) (f:cL X pins H a) (ha:X.s₀.heap.objs.size<=a) (new:ObjOk X.prog X.w (upd H a o) s.heap a o):Inv X pins σ (upd H a o) s:=by
 obtain⟨f0,f1,f2,f3,f4,f5⟩:=f;have ne0:∀b ob,X.s₀.heap.get? b=some ob->b≠a:=λb ob e z=>by subst z;exact gp _ (au (ao e) ha)
 refine⟨I.ok,I.os,I.bare,⟨I.base.keep,I.base.slot,λb ob e n hx=>by rw[bO (ne0 b ob e)];exact I.base.free b ob e n hx,I.base.there,λb xs e=>?_,λb ob u e=>?_,λb ps e=>?_⟩,I.loc,I.cell,by rw[bO (cm f1)];exact I.free,
  λx c e=>by rw[bO (f4 x c e)];exact I.freeC x c e,λp hp=>?_,λb u e=>?_,I.len⟩
 ·have:=I.base.tups b xs e;rw[bO (eX this f0)];exact this
 ·have:=I.base.frzs b ob u e;rw[bO (eX this f0)];exact this
 ·obtain⟨more,this⟩:=I.base.tbls b ps e;exact⟨more,by rw[bO (eX this f0)];exact this⟩
 ·obtain⟨a1,a2,a3,a4,a5⟩:=I.pin p hp;exact⟨a1,by rw[bO (f5 p hp)];exact a2,a3,a4,a5⟩
 ·by_cases hb:b=a
  ·subst hb;rw[cK]at e;cases e;exact new
  ·rw[bO hb]at e;exact(I.hok b u e).stay (λ_ _ _ q=>q) (λc q=>by rw[bO (eX q f0)];exact q) λc xs q=>by rw[bO (eX q f0)];exact q
end
def AccAt (s:ag) (D:ai) (xs:List V):Prop:=xs.length<=ck/\∃(its:List af) (n:Nat),Vals xs its/\s.heap.get? D=some { cls:=.type "list",data:=.seq its.toArray n }
abbrev TC:=St->Hp->List V->(St->Hp->List V->Prop)->Prop
def PCl (X:Cx) (D:ai) (m:Sem Unit) (t:TC):Prop:=
 ∀(pins:List (ai×Obj)) (s:ag) (σ:St) (H:Hp) (xs:List V) (K:St->Hp->List V->Prop),Inv X pins σ H s->AccAt s D xs->cL X pins H D->t σ H xs K->
  wpAny (model X.prog X.w) X.A m (λ_ s'=>∃σ' H' xs',Inv X pins σ' H' s'/\AccAt s' D xs'/\H' D=none/\K σ' H' xs') X.xe s
section
variable{X:Cx}{D:ai}
theorem AccAt.obj {s:ag}{xs:List V}(a:AccAt s D xs):∃o,s.heap.get? D=some o/\∀v,o.data≠.cell v:=by obtain⟨_,its,n,_,e⟩:=a;exact⟨_,e,λv z=>nomatch z⟩
theorem Inv.pinD {pins:List (ai×Obj)}{s:ag}{σ:St}{H:Hp}{xs:List V}(I:Inv X pins σ H s) (a:AccAt s D xs) (f:cL X pins H D):Inv X (pins++iY [D] s.heap) σ H s:=
 I.pinned (λb hb=>by (have e:b=D:=by simpa using hb);subst e;exact f) λb hb=>by
  have e:b=D:=by simpa using hb
  subst e;exact a.obj
theorem Inv.atD {pins:List (ai×Obj)}{s s':ag}{σ':St}{H':Hp}{xs:List V}(a:AccAt s D xs) (I:Inv X (pins++iY [D] s.heap) σ' H' s'):AccAt s' D xs/\H' D=none:=by obtain⟨z,its,n,r,e⟩:=a;have:=I.pin (D,_) (cj _ (cj _ (oU (by simp) e)));exact⟨⟨z,its,n,r,this.1⟩,this.2.1⟩
def F2 (te:TE):TC:=λσ H xs K=>te σ H λv H1=>xs.length<ck/\K σ H1 (xs++[v])
theorem zW {elt:bu}{te:TE}(he:PE X elt te):PCl X D (do let x <-eval elt X.env;let _ <-call (.builtin "list.append") [.ref D,x];pure ()) (F2 te):=by
 intro pins s σ H xs K I a f h;refine aa (aX (he _ s σ H _ (I.pinD a f) h) λu s1 ⟨v,H1,I1,r1,hz,q1⟩=>?_);obtain⟨a1,n1⟩:=Inv.atD a I1;have I1':=I1.unpinned;obtain⟨z,its,n,r,e⟩:=a1;have hl:=r.length;refine aa (call_meets F.slot_list_append ⟨_,e,rfl⟩ F.entry_list_append (F.args_list_append_2 _ _) (PySem.list_append D its.toArray n u (by rw[av];omega)) ⟨e, ?_⟩);have q:=ql e (·.push u);have e2:its.toArray.push u=(its++[u]).toArray:=by simp
 rw[e2]at q;refine ah ⟨σ,H1,xs++[v], ?_,⟨by rw[bw,Bt];omega,its++[u],_,r.append (.cons r1 .nil),q⟩,n1,q1⟩;obtain⟨f0,f1,f2,f3,f4,f5⟩:=f;exact I1'.turned (t':=s1.toks) (λb o hb z=>(ji s1.heap _ (cm hb)).trans z) n1 f1 f3 f4 f5
def F3 (ifs:List bu) (env:Env):Sem Bool:=forIn ifs true λc r=>if r=true then do let ok <-isTrue c env (eval c env);pure (qw ok)else pure (qw r)
def PTs (X:Cx) (ifs:List bu) (t:TT):Prop:=∀(pins:List (ai×Obj)) (s:ag) (σ:St) (H:Hp) (Q:Bool->Hp->Prop),Inv X pins σ H s->t σ H Q->wpAny (model X.prog X.w) X.A (F3 ifs X.env) (TP X pins σ Q) X.xe s
def RC:TT:=λ_ H Q=>Q true H
theorem RD:PTs X [] RC:=λpins s σ H Q I h=>wpAny_tests_nil ⟨H,I,h⟩
theorem RE {c:bu}{t:TT}(h:PT X c t):PTs X [c] t:=λpins s σ H Q I q=>wpAny_tests_one (h pins s σ H Q I q)
def kH (p:Pos) (it:af) (tg:bu) (ifs:List bu) (env:Env) (inner:Sem Unit) (c:Code):Sem PySem.Fin:=do
 standAt p
 match <-pyNext it with
 |none=>pure (.done .next)
 |some v=>do
  letOwnedTupleGo tg it v
  assign tg env v
  let ok <-F3 ifs env
  if ok=true then do inner;again c
  else again c
def qP (J:It) (g:TG) (tt:TT) (inner:TC) (K:St->Hp->List V->Prop) (σ:St) (H:Hp) (xs:List V):Prop:=
 ∃W:Nat->Nat->St->Hp->List V->Prop,(∃m,W 0 m σ H xs)/\∀i m σ H xs,W i m σ H xs->
  (J.stop i H/\K σ H xs)∨(J.go i H/\∃N:St->Hp->List V->Prop,(∀σ' H' xs',N σ' H' xs'->∃m',m'<m/\W (i+1) m' σ' H' xs') /\
   ∀x H',J.yld i H x H'->g x σ H' λσ2 H2=>tt σ2 H2 λb H3=>if b=true then inner σ2 H3 xs N else N σ2 H3 xs)
theorem F5 {elt:bu}{gens:List kg}{sc:iu}{ps:Pos}{d:Nat}{it:ai}{tg:bu}{ifs:List bu}{p:Pos}{inner:Sem Unit}{g:TG}{tt:TT}{ti:TC}{J:It}{fp:List ai}{tn:Nat->cp->Prop}
  (hx:X.xe=λ_ _=>False) (hc:X.calm=true)
  (ht:compTurn (.ListComp elt gens sc ps) d (.ref it) (.ref D) X.env=kH p (.ref it) tg ifs X.env inner (.compLoop (.ListComp elt gens sc ps) d (.ref it) (.ref D) X.env))
  (hg:PG X tg g) (htt:PTs X ifs tt) (hi:PCl X D inner ti) (T:Turn X.prog X.w X.K tg J fp it tn)
  {pins:List (ai×Obj)}{s:ag}{σ:St}{H:Hp}{xs:List V}{K:St->Hp->List V->Prop}{R:xi->ag->Prop}(I:Inv X pins σ H s) (a:AccAt s D xs) (f:cL X pins H D) (st:tn 0 s.heap) (hf:∀b∈fp,cL X pins H b) (hD:D∉fp)
  (h:qP J g tt ti K σ H xs) (hR:∀σ' H' xs' s',Inv X pins σ' H' s'->AccAt s' D xs'->H' D=none->K σ' H' xs'->R (.ok .next) s'):
  codeAny (model X.prog X.w) X.A (.compLoop (.ListComp elt gens sc ps) d (.ref it) (.ref D) X.env) R s:=by
 obtain⟨W,⟨m0,w0⟩,turn⟩:=h;have stat:∀{H':Hp},(∀b∈fp,H' b=none)->∀b∈fp,cL X pins H' b:=λhn b hb=>⟨hn b hb,(hf b hb).2⟩
 have statD:∀{H':Hp},H' D=none->cL X pins H' D:=λhn=>⟨hn,f.2⟩
 refine codeAny_loop rfl (λn s'=>∃i σ' H' xs',Inv X pins σ' H' s'/\AccAt s' D xs'/\H' D=none/\tn i s'.heap/\(∀b∈fp,H' b=none)/\W i n σ' H' xs') ?_ m0 ⟨0,σ,H,xs,I,a,f.1,st,λb hb=>(hf b hb).1,w0⟩
 rintro n s3 ⟨i,σ3,H3,xs3,I3,a3,n3,st3,fr3,w3⟩
 show wpAny _ X.A ((compTurn (.ListComp elt gens sc ps) d (.ref it) (.ref D) X.env).onRaise (λx=>do noteFrame x X.env;theTreesLotGoes x)) _ _ s3;rw[ht];refine ua (ka (Q:=λfin s'=>match fin with | .done f=>R (.ok f) s' | .again c'=>c'=.compLoop (.ListComp elt gens sc ps) d (.ref it) (.ref D) X.env/\∃m,m<n/\∃i σ' H' xs',Inv X pins σ' H' s'/\AccAt s' D xs'/\H' D=none/\tn i s'.heap/\(∀b∈fp,H' b=none)/\W i m σ' H' xs') (E:=λ_ _=>False) ?_ (λ_ _ z=>z) λ_ _ z=>z.elim);unfold kH;refine aa (tu (aa ?_));have xe':∀{α:Type}{m:Sem α}{Q:α->ag->Prop}{s:ag},wpAny (model X.prog X.w) X.A m Q X.xe s->wpAny (model X.prog X.w) X.A m Q (λ_ _=>False) s:=λ{α m Q s} z=>by rw[hx]at z;exact z
 have I3':=I3.pinD a3 (statD n3);have fr3':∀b∈fp,cL X (pins++iY [D] s3.heap) H3 b:=λb hb=>by
  obtain⟨g0,g1,g2,g3,g4,g5⟩:=stat fr3 b hb;refine⟨g0,g1,g2,g3,g4,λp hp=>?_⟩
  rcases br.mp hp with z|z
  ·exact g5 p (jw _ z)
  ·rcases br.mp z with z|z
   ·exact g5 p (cj _ z)
   ·have:=(zG z).1;have e:p.1=D:=by simpa using this
    rw[e];rintro rfl;exact hD hb
 rcases turn i n σ3 H3 xs3 w3 with⟨stop,qn⟩|⟨go,N,hN,step⟩
 ·refine aX (T.done X rfl rfl rfl hc i _ s3 σ3 H3 (λ_ _=>False) I3' fr3' st3 stop) λr s4 ⟨hr,I4⟩=>?_;subst hr;obtain⟨a4,n4⟩:=Inv.atD a3 I4;exact ah (hR σ3 H3 xs3 s4 I4.unpinned a4 n4 qn)
 ·refine aX (T.item X rfl rfl rfl hc i _ s3 σ3 H3 (λ_ _=>False) I3' fr3' st3 go) λr s4 ⟨u,hr,h4⟩=>?_;subst hr;refine aa (aX h4 λ_ s5 ⟨x,H5,I5,r5,y5,st5,fr5⟩=>?_);obtain⟨a5,n5⟩:=Inv.atD a3 I5;have I5u:=I5.unpinned;have I5p:=I5u.pinned (stat fr5) (T.obj _ _ st5);have fD5:cL X (pins++iY fp s5.heap) H5 D:=by
   obtain⟨g0,g1,g2,g3,g4,g5⟩:=statD n5;refine⟨g0,g1,g2,g3,g4,λp hp=>?_⟩
   rcases br.mp hp with z|z
   ·exact g5 p (jw _ z)
   ·rcases br.mp z with z|z
    ·exact g5 p (cj _ z)
    ·rintro rfl;exact hD (zG z).1
  have I5':=I5p.pinD a5 fD5;refine aa (xe' (aX (hg _ s5 σ3 H5 x u _ I5' r5 (step x H5 y5)) λ_ s6 ⟨σ6,H6,I6,q6⟩=>?_));obtain⟨a6,n6⟩:=Inv.atD a5 I6;have pin':∀{s σ H},Inv X (pins++iY fp s5.heap) σ H s->tn (i+1) s.heap/\∀b∈fp,H b=none:=λ{s σ H} J=>by refine⟨T.keep _ _ _ st5 λb hb o e=>(J.pin (b,o) (cj _ (cj _ (oU hb e)))).1,λb hb=>?_⟩;obtain⟨o,e,d⟩:=T.obj _ _ st5 b hb;exact(J.pin (b,o) (cj _ (cj _ (oU hb e)))).2.1
  have fD6:cL X (pins++iY fp s5.heap) H6 D:=⟨n6,fD5.2⟩
  have I6u:=I6.unpinned;have I6p:=I6u.pinD a6 fD6;refine aa (xe' (aX (htt _ s6 σ6 H6 _ I6p q6) λb s7 ⟨H7,I7,q7⟩=>?_));obtain⟨a7,n7⟩:=Inv.atD a6 I7;have I7u:=I7.unpinned;have fin:∀{s8 σ8 H8 xs8},Inv X (pins++iY fp s5.heap) σ8 H8 s8->AccAt s8 D xs8->H8 D=none->N σ8 H8 xs8->
    ∃m,m<n/\∃i σ' H' xs',Inv X pins σ' H' s8/\AccAt s8 D xs'/\H' D=none/\tn i s8.heap/\(∀b∈fp,H' b=none)/\W i m σ' H' xs':=λ{s8 σ8 H8 xs8} J a8 n8 q8=>by
   obtain⟨m',hm,w8⟩:=hN σ8 H8 xs8 q8;obtain⟨t8,fr8⟩:=pin' J;exact⟨m',hm,i+1,σ8,H8,xs8,J.unpinned,a8,n8,t8,fr8,w8⟩
  cases b with
  |true=>
   rw[if_pos rfl]at q7 ⊢;have fD7:cL X (pins++iY fp s5.heap) H7 D:=⟨n7,fD5.2⟩
   refine aa (xe' (aX (hi _ s7 σ6 H7 xs3 N I7u a7 fD7 q7) λ_ s8 ⟨σ8,H8,xs8,I8,a8,n8,q8⟩=>?_));exact ah ⟨rfl,fin I8 a8 n8 q8⟩
  |false=>rw[if_neg jr]at q7 ⊢;exact ah ⟨rfl,fin I7u a7 n7 q7⟩
end
theorem F6 (elt tg iter:bu) (ifs:List bu) (sc:iu) (ps:Pos) (it:af) (D:ai) (env:Env):
  compTurn (.ListComp elt [⟨tg,iter,ifs,0⟩] sc ps) 0 it (.ref D) env =
   kH iter.pos it tg ifs env (do let x <-eval elt env;let _ <-call (.builtin "list.append") [.ref D,x];pure ()) (.compLoop (.ListComp elt [⟨tg,iter,ifs,0⟩] sc ps) 0 it (.ref D) env):=by rfl
def qQ (iter:bu) (e:bu) (d:Nat) (D:ai) (env:Env):Sem Unit:=do
 let x <-eval iter env
 standAt iter.pos
 let x <-foldedSetIterable iter env x
 let it <-holding [x] (pyIter x)
 let _ <-runOwn (.compStart e d it (.ref D) env) env
 pure ()
theorem RF (elt tg iter tg' iter':bu) (ifs ifs':List bu) (sc:iu) (ps:Pos) (it:af) (D:ai) (env:Env):
  compTurn (.ListComp elt [⟨tg,iter,ifs,0⟩,⟨tg',iter',ifs',0⟩] sc ps) 0 it (.ref D) env =
   kH iter.pos it tg ifs env (qQ iter' (.ListComp elt [⟨tg,iter,ifs,0⟩,⟨tg',iter',ifs',0⟩] sc ps) 1 D env) (.compLoop (.ListComp elt [⟨tg,iter,ifs,0⟩,⟨tg',iter',ifs',0⟩] sc ps) 0 it (.ref D) env):=by
 unfold kH qQ;simp only[bind_assoc,pure_bind];rfl
theorem RG (elt tg iter tg' iter':bu) (ifs ifs':List bu) (sc:iu) (ps:Pos) (it:af) (D:ai) (env:Env):
  compTurn (.ListComp elt [⟨tg,iter,ifs,0⟩,⟨tg',iter',ifs',0⟩] sc ps) 1 it (.ref D) env =
   kH iter'.pos it tg' ifs' env (do let x <-eval elt env;let _ <-call (.builtin "list.append") [.ref D,x];pure ()) (.compLoop (.ListComp elt [⟨tg,iter,ifs,0⟩,⟨tg',iter',ifs',0⟩] sc ps) 1 it (.ref D) env):=by rfl
section
variable{X:Cx}{D:ai}
theorem F7 {prog:bg}{w:cn}{A:cg}{R:xi->ag->Prop}{s:ag}{elt:bu}{gens:List kg}{sc:iu}{ps:Pos}{d:Nat}{it acc:af}{env:Env}(ha:((gens)[d]?).elim false (·.is_async != 0)=false)
  (h0:codeAny (model prog w) A (.compLoop (.ListComp elt gens sc ps) d it acc env) R s)
  (h:wpAny (model prog w) A (pyIter it) (λit' s'=>codeAny (model prog w) A (.compLoop (.ListComp elt gens sc ps) d it' acc env) R s') (λ_ _=>False) s):
  codeAny (model prog w) A (.compStart (.ListComp elt gens sc ps) d it acc env) R s:=by
 refine codeAny_of_tree ?_;show wpAny _ _ ((compStart (.ListComp elt gens sc ps) d it acc env).onRaise (λx=>do noteFrame x env;standAt theWindowsPlace)) _ _ s;refine wpAny_notedAt (ka (E:=λ_ _=>False) ?_ (λ_ _ z=>z) λ_ _ z=>z.elim);unfold compStart;rw[show((clausesOf (.ListComp elt gens sc ps))[d]?).elim false (·.is_async != 0)=false from ha];simp only[bj,if_false];refine aa (nj (wpAny_ite ?_))
 split
 ·first
   |exact aa (ah (ah (And.intro rfl h0)))
   |exact ah (And.intro rfl h0)
 ·have fin:∀s:ag,wpAny (model prog w) A (pyIter it) (λit' s'=>codeAny (model prog w) A (.compLoop (.ListComp elt gens sc ps) d it' acc env) R s') (λ_ _=>False) s->
    wpAny (model prog w) A (do let it' <-pyIter it;again (.compLoop (.ListComp elt gens sc ps) d it' acc env)) (λfin s'=>match fin with | .done f=>R (.ok f) s' | .again c=>c.quiet=true/\codeAny (model prog w) A c R s') (λ_ _=>False) s:=λs h=>aa (ka h (λit' s' h'=>ah ⟨rfl,h'⟩) λ_ _ x=>x)
  refine aa (rn ?_);have ec:clausesOf (.ListComp elt gens sc ps)=gens:=rfl;rw[ec]
  cases q:gens[d]? with
  |none=>exact fin s h
  |some g=>exact aa (tu (fin s h))
def F8 (wi:TI) (g:TG) (tt:TT) (inner:TC):TC:=λσ H xs K=>wi σ H λJ H1=>qP J g tt inner K σ H1 xs
theorem RH {elt:bu}{gens:List kg}{sc:iu}{ps:Pos}{d:Nat}{tg iter:bu}{ifs:List bu}{inner:Sem Unit}{wi:TI}{g:TG}{tt:TT}{ti:TC}
  (hx:X.xe=λ_ _=>False) (hc:X.calm=true) (ha:((gens)[d]?).elim false (·.is_async != 0)=false)
  (ht:∀it,compTurn (.ListComp elt gens sc ps) d (.ref it) (.ref D) X.env=kH iter.pos (.ref it) tg ifs X.env inner (.compLoop (.ListComp elt gens sc ps) d (.ref it) (.ref D) X.env))
  (hi:PI X tg iter wi) (hg:PG X tg g) (htt:PTs X ifs tt) (hin:PCl X D inner ti) (hs:∀x,foldedSetIterable iter X.env x=pure x):
  PCl X D (qQ iter (.ListComp elt gens sc ps) d D X.env) (F8 wi g tt ti):=by
 intro pins s σ H xs K I a f h;unfold qQ;refine aa (aX (hi _ s σ H _ (I.pinD a f) h) λv s1 h1=>aa (tu (aa (Au (hs v) (aa (fg (aX h1 λitv s2 h2=>?_)))))));obtain⟨it,fp,tn,J,H2,e,I2,T,st2,f2,lp⟩:=h2;subst e;obtain⟨a2,n2⟩:=Inv.atD a I2;have I2u:=I2.unpinned;have hpD:∀b∈fp,b≠D:=λb hb z=>by subst z;obtain⟨_,its,n,_,eo⟩:=a;exact(f2 b hb).2.2.2.2.2 (b,_) (cj _ (cj _ (oU (by simp) eo))) rfl
 have f2u:∀b∈fp,cL X pins H2 b:=λb hb=>by
  obtain⟨g0,g1,g2,g3,g4,g5⟩:=f2 b hb;exact⟨g0,g1,g2,g3,g4,λp hp=>g5 p (by
   rcases br.mp hp with z|z
   ·exact jw _ z
   ·exact cj _ (jw _ z))⟩
 have fD:cL X pins H2 D:=⟨n2,f.2⟩
 refine aa (wpAny_runOwn ?_);have loop:codeAny (model X.prog X.w) X.A (.compLoop (.ListComp elt gens sc ps) d (.ref it) (.ref D) X.env) (λr s'=>match r with
   | .ok f=>wpAny (model X.prog X.w) X.A (pure ():Sem Unit) (λ_ s'=>∃σ' H' xs',Inv X pins σ' H' s'/\AccAt s' D xs'/\H' D=none/\K σ' H' xs') X.xe s'
   | .error e=>cameBackBy (model X.prog X.w) X.A X.env X.xe e s') s2:=
  F5 hx hc (ht it) hg htt hin T I2u a2 fD st2 f2u (λz=>hpD D z rfl) lp λσ' H' xs' s' I' a' n' k'=>ah ⟨σ',H',xs',I',a',n',k'⟩
 exact F7 ha loop (T.self _ 0 s2 _ _ st2 loop)
end
def zX (wi:TI) (cap:List (Option Nat)) (g:TG) (tt:TT) (inner:TC):TE:=λσ H Q=>wi σ H λJ H1=>qP J g tt inner (λ_ H' xs=>∀p,H' p=none->Q (.ref p) (upd H' p (.lst xs))) (oZ cap σ) H1 []
section
variable{X:Cx}
theorem F9 {elt:bu}{gens:List kg}{sc:iu}{ps:Pos}{tg iter:bu}{ifs:List bu}{rest:List kg}{inner:ai->Env->Sem Unit}{g:TG}{tt:TT}{ti:TC}{N:List Str}{cap:List (Option Nat)}{E:af->ag->Prop}
  (hc:X.calm=true) (C:CapOk X sc N cap) (eg:gens=⟨tg,iter,ifs,0⟩::rest)
  (ht:∀it D env,compTurn (.ListComp elt gens sc ps) 0 (.ref it) (.ref D) env=kH iter.pos (.ref it) tg ifs env (inner D env) (.compLoop (.ListComp elt gens sc ps) 0 (.ref it) (.ref D) env))
  (hg:∀s H ex,PG (cW X sc N s H ex) tg g) (htt:∀s H ex,PTs (cW X sc N s H ex) ifs tt) (hin:∀s H ex D,PCl (cW X sc N s H ex) D (inner D (cW X sc N s H ex).env) ti)
  {pins:List (ai×Obj)}{s2:ag}{σ:St}{H2:Hp}{K:St->Hp->List V->Prop}{it:ai}{fp:List ai}{tn:Nat->cp->Prop}{J:It}(I2:Inv X pins σ H2 s2) (T:Turn X.prog X.w X.K tg J fp it tn) (st2:tn 0 s2.heap) (f2:∀b∈fp,cL X pins H2 b)
  (lp:qP J g tt ti K (oZ cap σ) H2 []) {R:af->ai->xi->ag->Prop}
  (hR:∀σ' H' xs (s3 s':ag) (C D:ai),X.s₀.heap.objs.size<=D->C=s3.heap.objs.size->(∃m,s'.heap.Ns C m)->AccAt s' D xs->cL X pins H' D->cL X pins H' C->D<C->(∀h',ig C s'.heap h'->Inv X pins σ H' { s' with heap:=h' })->K σ' H' xs->R (.ref D) C (.ok .next) s'):
  wpAny (model X.prog X.w) X.A (newList []) (λacc s3=>wpAny (model X.prog X.w) X.A (newFunctionEnv sc X.env.globals (cV X.env sc.names []) [] X.env.qual none .none (some X.env)) (λcenv s4=>codeAny (model X.prog X.w) X.A (.compStart (.ListComp elt gens sc ps) 0 (.ref it) acc { cenv with scope:=relabel sc X.env }) (R acc cenv.locals) s4) E s3) E s2:=by
 refine dm (Q7 ?_);dsimp only;generalize hs3:({ s2 with heap:=s2.heap.push { cls:=.type "list",dict:=none,data:=.seq ([]:List af).toArray } }:ag)=s3;have kp:∀b o,s2.heap.get? b=some o->s3.heap.get? b=some o:=λb o e=>by rw[<-hs3];exact aj _ e
 have I3:Inv X pins σ H2 s3:=by rw[<-hs3];exact I2.kept (t':=s2.toks) λb o e=>aj _ e
 have eD:s3.heap.get? s2.heap.objs.size=some { cls:=.type "list",data:=.seq ([]:List af).toArray 0 }:=by rw[<-hs3];exact ax _ rfl
 have nD:H2 s2.heap.objs.size=none:=I2.hok.fresh (ak _);have fD:cL X pins H2 s2.heap.objs.size:=I2.fpOk (ak _) nD;have hlt:s2.heap.objs.size<s3.heap.objs.size:=ao eD;have hex:∀b∈s2.heap.objs.size::fp,cL X pins H2 b/\b<s3.heap.objs.size:=λb hb=>by
  rcases ba.mp hb with rfl|hb
  ·exact⟨fD,hlt⟩
  ·obtain⟨o,e,_⟩:=T.obj 0 _ st2 b hb;exact⟨f2 b hb,ao (kp b o e)⟩
 have hDfp:s2.heap.objs.size∉fp:=λz=>by obtain⟨o,e,_⟩:=T.obj 0 _ st2 _ z;exact gp _ (ao e)
 have I4:=Q8 (N:=N) (ex:=s2.heap.objs.size::fp) I3 C hex;have F4:=Q9 (N:=N) I3 C hex;have st4:tn 0 (pushCells (s3.heap.push { cls:=.type "dict",data:=.dict #[] }) sc.names):=T.keep 0 _ _ st2 λb hb o e=>qo _ _ _ _ (aj _ (kp b o e));have a4:AccAt { s3 with heap:=pushCells (s3.heap.push { cls:=.type "dict",data:=.dict #[] }) sc.names } s2.heap.objs.size []:=⟨jc _,[],0,.nil,qo _ _ _ _ (aj _ eD)⟩
 have loop:codeAny (model X.prog X.w) X.A (.compLoop (.ListComp elt gens sc ps) 0 (.ref it) (.ref s2.heap.objs.size) (cW X sc N s3 H2 (s2.heap.objs.size::fp)).env) (R (.ref s2.heap.objs.size) s3.heap.objs.size)
   { s3 with heap:=pushCells (s3.heap.push { cls:=.type "dict",data:=.dict #[] }) sc.names }:=by
  refine F5 (X:=cW X sc N s3 H2 (s2.heap.objs.size::fp)) rfl hc (ht it _ _) (hg _ _ _) (htt _ _ _) (hin _ _ _ _) T I4 a4 (F4 _ (bh ..)) st4 (λb hb=>F4 b (ay _ hb)) hDfp lp λσ' H' xs' s' I' a' n' k'=>?_;obtain⟨m,hn,_⟩:=I'.loc;exact hR σ' H' xs' s3 s' _ _ (dq I2.sz (ak _)) rfl ⟨m,hn⟩ a' ⟨n',fD.2⟩ (I3.fpOk (ak _) I'.free) hlt (λh' hh=>RA I3 hex I' hh) k'
 have ha:((gens)[0]?).elim false (·.is_async != 0)=false:=by rw[eg];rfl
 subst hs3;exact F7 ha loop (T.self _ 0 _ _ _ st4 loop)
theorem GA {elt:bu}{gens:List kg}{sc:iu}{ps:Pos}{tg iter:bu}{ifs:List bu}{rest:List kg}{inner:ai->Env->Sem Unit}{wi:TI}{g:TG}{tt:TT}{ti:TC}{N:List Str}{cap:List (Option Nat)}
  (hc:X.calm=true) (C:CapOk X sc N cap) (eg:gens=⟨tg,iter,ifs,0⟩::rest)
  (ht:∀it D env,compTurn (.ListComp elt gens sc ps) 0 (.ref it) (.ref D) env=kH iter.pos (.ref it) tg ifs env (inner D env) (.compLoop (.ListComp elt gens sc ps) 0 (.ref it) (.ref D) env))
  (hi:PI X tg iter wi) (hg:∀s H ex,PG (cW X sc N s H ex) tg g) (htt:∀s H ex,PTs (cW X sc N s H ex) ifs tt) (hin:∀s H ex D,PCl (cW X sc N s H ex) D (inner D (cW X sc N s H ex).env) ti)
  (hs:∀x,foldedSetIterable iter X.env x=pure x):PE X (.ListComp elt gens sc ps) (zX wi cap g tt ti):=by
 intro pins s σ H Q I h;rw[eval_ListComp];have hcl:closureFor sc X.env=pure (cV X.env sc.names []):=zU λx hx=>I.ok.has x (C.free x hx);have e1:firstAsync gens=false:=by rw[eg];rfl
 have e2:firstIter gens X.env=eval iter X.env:=by rw[eg];rfl
 rw[e1,e2];refine Cp (use:=none) (g:=⟨tg,iter,ifs,0⟩) (gs:=rest) (by rw[eg];rfl) hs hcl C.kind C.nd (aX (hi pins s σ H _ I h) λv s1 h1=>aX h1 λitv s2 h2=>?_);obtain⟨it,fp,tn,J,H2,e,I2,T,st2,f2,lp⟩:=h2;subst e;refine F9 (N:=N) (inner:=inner) (R:=λacc C=>compPost (model X.prog X.w) X.A X.xe none (EP X pins σ Q) acc C) hc C eg ht hg htt hin I2 T st2 f2 lp ?_;intro σ' H' xs s3 s' C D hD0 hC hn a f fC hDC hout k;obtain⟨m,hn⟩:=hn;refine⟨m,hn,λh' hh=>?_⟩;have I5:=hout h' hh;obtain⟨hz,its,n,r,eD⟩:=a;have eD':h'.get? D=some { cls:=.type "list",data:=.seq its.toArray n }:=(hh.2 D (bc hDC)).trans eD;refine⟨.ref D,upd H' D (.lst xs),I5.adopt f hD0 ⟨hz,its,n,r,eD'⟩,rfl,k D f.1⟩
end
section
variable{X:Cx}
theorem RI {i:Nat}{x:Str}{px pos:Pos}{elt:bu}{gens:List kg}{sc:iu}{ps:Pos}{tg iter:bu}{ifs:List bu}{rest:List kg}{inner:ai->Env->Sem Unit}{wi:TI}{g:TG}{tt:TT}{ti:TC}{N:List Str}{cap:List (Option Nat)}
  (hsw:swapsWith (.ListComp elt gens sc ps) (some (.Name x px)) pos.line X.env=pure true) (hN:X.N.Nodup) (hi':X.N[i]?=some x) (hx:X.env.scope.names.lookup x=some .local)
  (hc:X.calm=true) (C:CapOk X sc N cap) (eg:gens=⟨tg,iter,ifs,0⟩::rest)
  (ht:∀it D env,compTurn (.ListComp elt gens sc ps) 0 (.ref it) (.ref D) env=kH iter.pos (.ref it) tg ifs env (inner D env) (.compLoop (.ListComp elt gens sc ps) 0 (.ref it) (.ref D) env))
  (hi:PI X tg iter wi) (hg:∀s H ex,PG (cW X sc N s H ex) tg g) (htt:∀s H ex,PTs (cW X sc N s H ex) ifs tt) (hin:∀s H ex D,PCl (cW X sc N s H ex) D (inner D (cW X sc N s H ex).env) ti)
  (hs:∀x,foldedSetIterable iter X.env x=pure x):PS X (.Assign [.Name x px] (.ListComp elt gens sc ps) pos) (tQ (zX wi cap g tt ti) (zC i)):=by
 intro pins s σ H D I h;rw[exec_Assign_Name_used _ _ _ _ hsw];have hcl:closureFor sc X.env=pure (cV X.env sc.names []):=zU λx hx=>I.ok.has x (C.free x hx);have e1:firstAsync gens=false:=by rw[eg];rfl
 have e2:firstIter gens X.env=eval iter X.env:=by rw[eg];rfl
 refine aa (tu (aa ?_));show wpAny _ X.A (do let _ <-comprehension (.ListComp elt gens sc ps) sc X.env (firstIterPos gens ps) (newList []) (firstAsync gens) (firstIter gens X.env) (some (assign (.Name x px) X.env))) _ _ s;rw[e1,e2];refine aa (aX (Cp (use:=some (assign (.Name x px) X.env)) (Q:=λ_ s'=>SP X pins D .next s') (g:=⟨tg,iter,ifs,0⟩) (gs:=rest) (by rw[eg];rfl) hs hcl C.kind C.nd (aX (hi pins s σ H _ I h) λv s1 h1=>aX h1 λitv s2 h2=>?_)) λ_ s' hq=>ah (ah hq));obtain⟨it,fp,tn,J,H2,e,I2,T,st2,f2,lp⟩:=h2;subst e;refine F9 (N:=N) (inner:=inner) (R:=λacc C=>compPost (model X.prog X.w) X.A X.xe (some (assign (.Name x px) X.env)) (λ_ s'=>SP X pins D .next s') acc C) hc C eg ht hg htt hin I2 T st2 f2 lp ?_;intro σ' H' xs s3 s' C D' hD0 hC hn a f fC hDC hout k;obtain⟨m,hn⟩:=hn;have I5:Inv X pins σ H' s':=hout s'.heap (ph ..);obtain⟨hz,its,n,r,eD⟩:=a;have I6:Inv X pins σ (upd H' D' (.lst xs)) s':=I5.adopt f hD0 ⟨hz,its,n,r,eD⟩;show wpAny _ X.A (assign (.Name x px) X.env (.ref D')) _ _ s';obtain⟨c0,c1,c2,c3,c4,c5⟩:=fC;have nC:upd H' D' (.lst xs) C=none:=by rw[bO (cm (bc hDC))];exact c0
 refine wpAny_assign_Name (ER (v:=V.ref D') I6 hN hi' (.inl hx) rfl (λs'' I7 ⟨a,sb,ha⟩=>?_) (.inr hx));have hCa:C≠a:=by
  rcases ha with z|z
  ·rw[z];exact c1
  ·exact cm (c4 x a z)
 refine⟨m,hn.sameBut sb hCa,λh' hh=>?_⟩;have I8:Inv X pins (σ.set i (some (.ref D'))) (upd H' D' (.lst xs)) { s'' with heap:=h' }:=I7.turned (t':=s''.toks) (λb o hb e=>(hh.2 b hb).trans e) nC c1 c3 c4 c5;exact⟨_,_,I8,k D' f.1⟩
end
inductive Dt where
 |non|bl (b:Bool)|int (i:Int)|str (x:Str)|tup (xs:List Dt)|lst (xs:List Dt)|dct
mutual
def Den (P:ai->Prop) (H:Hp):Dt->V->Prop
 | .non,v=>v=.non
 | .bl b,v=>v=.bl b
 | .int i,v=>v=.int i
 | .str x,v=>v=.str x
 | .tup ds,v=>∃a vs,v=.ref a/\H a=some (.tup vs)/\DenL P H ds vs
 | .lst ds,v=>∃a vs,v=.ref a/\P a/\H a=some (.lst vs)/\DenL P H ds vs
 | .dct,v=>∃a,v=.ref a/\P a/\H a=some (.dK [])
def DenL (P:ai->Prop) (H:Hp):List Dt->List V->Prop
 | [],vs=>vs=[]
 |d::ds,vs=>∃v r,vs=v::r/\Den P H d v/\DenL P H ds r
end
theorem DenL.length {P:ai->Prop}{H:Hp}:∀{ds:List Dt}{vs:List V},DenL P H ds vs->vs.length=ds.length
 | [],vs,h=>by rw[DenL]at h;rw[h];rfl
 |d::ds,vs,h=>by rw[DenL]at h;obtain⟨v,r,rfl,_,h2⟩:=h;simp[DenL.length h2]
theorem DenL.get {P:ai->Prop}{H:Hp}:∀{ds:List Dt}{vs:List V}{i:Nat}{v:V},DenL P H ds vs->vs[i]?=some v->∃d,ds[i]?=some d/\Den P H d v
 | [],vs,i,v,h,e=>by rw[DenL]at h;rw[h]at e;simp at e
 |d::ds,vs,i,v,h,e=>by
  rw[DenL]at h;obtain⟨w,r,rfl,h1,h2⟩:=h
  cases i with
  |zero=>simp at e;subst e;exact⟨d,rfl,h1⟩
  |succ i=>simp at e;exact DenL.get (i:=i) h2 e
theorem DenL.nil {P:ai->Prop}{H:Hp}:DenL P H [] []:=by rw[DenL]
theorem DenL.cons {P:ai->Prop}{H:Hp}{d:Dt}{v:V}{ds:List Dt}{vs:List V}(h:Den P H d v) (t:DenL P H ds vs):DenL P H (d::ds) (v::vs):=by rw[DenL];exact⟨v,vs,rfl,h,t⟩
mutual
def bM:Dt->Dt->Bool
 | .non,.non=>true
 | .bl a,.bl b=>a==b
 | .bl a,.int j=>(if a then 1 else 0)==j
 | .int i,.bl b=>i==(if b then 1 else 0)
 | .int i,.int j=>i==j
 | .str x,.str y=>x==y
 | .tup xs,.tup ys=>gG xs ys
 | .lst xs,.lst ys=>gG xs ys
 |_,_=>false
def gG:List Dt->List Dt->Bool
 | [],[]=>true
 |x::xs,y::ys=>bM x y&&gG xs ys
 |_,_=>false
end
mutual
def eZ:Dt->Nat
 | .tup xs=>kJ xs+1
 | .lst xs=>kJ xs+1
 |_=>0
def kJ:List Dt->Nat
 | []=>0
 |x::xs=>max (eZ x) (kJ xs)
end
mutual
def nod:Dt->Bool
 | .tup xs=>iG xs
 | .lst xs=>iG xs
 | .dct=>false
 |_=>true
def iG:List Dt->Bool
 | []=>true
 |x::xs=>nod x&&iG xs
end
mutual
theorem zY:∀d:Dt,nod d=true->bM d d=true
 | .non,_=>rfl
 | .bl b,_=>by simp[bM]
 | .int i,_=>by simp[bM]
 | .str x,_=>by simp[bM]
 | .tup xs,h=>by rw[bM];exact zZ xs (by rw[nod]at h;exact h)
 | .lst xs,h=>by rw[bM];exact zZ xs (by rw[nod]at h;exact h)
 | .dct,h=>by simp[nod]at h
theorem zZ:∀l:List Dt,iG l=true->gG l l=true
 | [],_=>rfl
 |x::xs,h=>by rw[iG,cy]at h;rw[gG,zY x h.1,zZ xs h.2];rfl
end
theorem AA:∀{l:List Dt}{d:Dt},d∈l->eZ d<=kJ l
 |x::xs,d,h=>by
  rw[kJ]
  rcases ba.mp h with rfl|h
  ·omega
  ·have:=AA h;omega
theorem qR:∀{l:List Dt}{d:Dt},iG l=true->d∈l->nod d=true
 |x::xs,d,h,hd=>by
  rw[iG,cy]at h
  rcases ba.mp hd with rfl|hd
  ·exact h.1
  ·exact qR h.2 hd
theorem qS:∀{xs ys:List Dt},xs.length=ys.length->gG xs ys=(bf xs.length).all λi=>bM (xs.getD i .non) (ys.getD i .non)
 | [],[],_=>rfl
 |x::xs,y::ys,h=>by rw[gG,qS (xs:=xs) (ys:=ys) (by simpa using h),dv,Bi,vj,List.all_map];rfl
theorem qT:∀{xs ys:List Dt},xs.length≠ys.length->gG xs ys=false
 | [],[],h=>absurd rfl h
 | [],_::_,_=>rfl
 |_::_,[],_=>rfl
 |x::xs,y::ys,h=>by rw[gG,qT (xs:=xs) (ys:=ys) (by simpa using h),um]
mutual
theorem Den.inj {P:ai->Prop}{H:Hp}:∀(d d':Dt) (v:V),Den P H d v->Den P H d' v->d=d'
 | .non,d',v,h,h'=>by
  rw[Den]at h;subst h
  cases d' <;> rw[Den]at h' <;> first|rfl|(obtain⟨_,_,e,_⟩:=h';cases e;done)|(obtain⟨_,e,_⟩:=h';cases e;done)|(cases h';done)
 | .bl b,d',v,h,h'=>by
  rw[Den]at h;subst h
  cases d' <;> rw[Den]at h' <;> first|(obtain⟨_,_,e,_⟩:=h';cases e;done)|(obtain⟨_,e,_⟩:=h';cases e;done)|(cases h';done)|(cases h';rfl)
 | .int b,d',v,h,h'=>by
  rw[Den]at h;subst h
  cases d' <;> rw[Den]at h' <;> first|(obtain⟨_,_,e,_⟩:=h';cases e;done)|(obtain⟨_,e,_⟩:=h';cases e;done)|(cases h';done)|(cases h';rfl)
 | .str b,d',v,h,h'=>by
  rw[Den]at h;subst h
  cases d' <;> rw[Den]at h' <;> first|(obtain⟨_,_,e,_⟩:=h';cases e;done)|(obtain⟨_,e,_⟩:=h';cases e;done)|(cases h';done)|(cases h';rfl)
 | .tup ds,d',v,h,h'=>by
  rw[Den]at h;obtain⟨a,vs,rfl,h1,h2⟩:=h
  cases d' with
  |tup ds'=>rw[Den]at h';obtain⟨a',vs',e,h1',h2'⟩:=h';cases e;rw[h1]at h1';cases h1';rw[DenL.inj ds ds' vs h2 h2']
  |lst ds'=>rw[Den]at h';obtain⟨a',vs',e,_,h1',h2'⟩:=h';cases e;rw[h1]at h1';cases h1'
  |dct=>rw[Den]at h';obtain⟨a',e,_,h1'⟩:=h';cases e;rw[h1]at h1';cases h1'
  |_=>rw[Den]at h';cases h'
 | .lst ds,d',v,h,h'=>by
  rw[Den]at h;obtain⟨a,vs,rfl,_,h1,h2⟩:=h
  cases d' with
  |tup ds'=>rw[Den]at h';obtain⟨a',vs',e,h1',h2'⟩:=h';cases e;rw[h1]at h1';cases h1'
  |lst ds'=>rw[Den]at h';obtain⟨a',vs',e,_,h1',h2'⟩:=h';cases e;rw[h1]at h1';cases h1';rw[DenL.inj ds ds' vs h2 h2']
  |dct=>rw[Den]at h';obtain⟨a',e,_,h1'⟩:=h';cases e;rw[h1]at h1';cases h1'
  |_=>rw[Den]at h';cases h'
 | .dct,d',v,h,h'=>by
  rw[Den]at h;obtain⟨a,rfl,_,h1⟩:=h
  cases d' with
  |tup ds'=>rw[Den]at h';obtain⟨a',vs',e,h1',h2'⟩:=h';cases e;rw[h1]at h1';cases h1'
  |lst ds'=>rw[Den]at h';obtain⟨a',vs',e,_,h1',h2'⟩:=h';cases e;rw[h1]at h1';cases h1'
  |dct=>rfl
  |_=>rw[Den]at h';cases h'
theorem DenL.inj {P:ai->Prop}{H:Hp}:∀(ds ds':List Dt) (vs:List V),DenL P H ds vs->DenL P H ds' vs->ds=ds'
 | [],ds',vs,h,h'=>by
  rw[DenL]at h;subst h
  cases ds' with
  |nil=>rfl
  |cons d ds'=>rw[DenL]at h';obtain⟨_,_,e,_⟩:=h';cases e
 |d::ds,ds',vs,h,h'=>by
  rw[DenL]at h;obtain⟨v,r,rfl,h1,h2⟩:=h
  cases ds' with
  |nil=>rw[DenL]at h';cases h'
  |cons d' ds'=>rw[DenL]at h';obtain⟨v',r',e,h1',h2'⟩:=h';cases e;rw[Den.inj d d' v h1 h1',DenL.inj ds ds' r h2 h2']
end
section
variable{Pg:bg}{w:cn}{P:ai->Prop}{H:Hp}{s:ag}
theorem fY (hok:HOk Pg w H s.heap) {a:ai}{vs:List V}(e:H a=some (.tup vs)):∃its:List af,Vals vs its/\s.heap.IsTuple a its.toArray:=by
 obtain⟨_,its,r,p⟩:=(show ObjOk Pg w H s.heap a (.tup vs) from hok a _ e)
 exact⟨its,r,p.tup⟩
theorem fZ (hok:HOk Pg w H s.heap) {a:ai}{vs:List V}(e:H a=some (.lst vs)):∃its:List af,Vals vs its/\s.heap.IsList a its.toArray:=by
 obtain⟨_,its,n,r,p⟩:=(show ObjOk Pg w H s.heap a (.lst vs) from hok a _ e)
 exact⟨its,r,_,p,rfl,n,rfl⟩
theorem uB {vs:List V}{its:List af}(r:Vals vs its) {j:Nat}(h:j<its.toArray.size):∃v,vs[j]?=some v/\RelV v its.toArray[j]:=by
 have hl:=r.length;have h':j<its.length:=by simpa using h
 have hv:j<vs.length:=by omega
 obtain⟨u,e,q⟩:=r.get (i:=j) (x:=vs[j]) (ar hv);refine⟨vs[j],ar hv, ?_⟩;have:its.toArray[j]=u:=by have:its[j]?=some its[j]:=ar h';rw[this]at e;simpa using e
 rw[this];exact q
theorem AB (hok:HOk Pg w H s.heap):∀(n:Nat) (A:cg) (d d':Dt) (v v':V) (u u':af),eZ d<=n->A.units+n+1<cLine->nod d=true->nod d'=true->Den P H d v->Den P H d' v'->RelV v u->RelV v' u'->
  Cq A s u u' (bM d d')/\vh A s u u' (bM d d'):=by
 intro n
 induction n with
 |zero=>
  intro A d d' v v' u u' hn hu n1 n2 h h' r r';have hu':A.units<cLine:=by omega
  cases d with
  |non=>
   rw[Den]at h;subst h;cases r
   cases d' with
   |non=>rw[Den]at h';subst h';cases r';exact⟨ym,qr _⟩
   |bl b'=>rw[Den]at h';subst h';cases r';exact⟨yn _,yo _⟩
   |int i'=>rw[Den]at h';subst h';obtain⟨t2,rfl⟩:=r';exact⟨zl _ _,zm _ _⟩
   |str x'=>rw[Den]at h';subst h';obtain⟨t2,rfl⟩:=r';exact⟨zo _ _,zq _ _⟩
   |tup ds'=>rw[Den]at h';obtain⟨a2,vs2,rfl,e2,g2⟩:=h';cases r';obtain⟨its2,q2,tp2⟩:=fY hok e2;exact⟨ya  tp2 hu',yb  tp2 hu'⟩
   |lst ds'=>rw[Den]at h';obtain⟨a2,vs2,rfl,_,e2,g2⟩:=h';cases r';obtain⟨its2,q2,tp2⟩:=fZ hok e2;exact⟨yp  tp2 hu',yq  tp2 hu'⟩
   |dct=>simp[nod]at n2
  |bl b=>
   rw[Den]at h;subst h;cases r
   cases d' with
   |non=>rw[Den]at h';subst h';cases r';exact⟨yr _,yt _⟩
   |bl b'=>rw[Den]at h';subst h';cases r';exact⟨yu _ _,yv _ _⟩
   |int i'=>rw[Den]at h';subst h';obtain⟨t2,rfl⟩:=r';exact⟨zr _ _ _,zt _ _ _⟩
   |str x'=>rw[Den]at h';subst h';obtain⟨t2,rfl⟩:=r';exact⟨zu _ _ _,zv _ _ _⟩
   |tup ds'=>rw[Den]at h';obtain⟨a2,vs2,rfl,e2,g2⟩:=h';cases r';obtain⟨its2,q2,tp2⟩:=fY hok e2;exact⟨yc _ tp2 hu',yd _ tp2 hu'⟩
   |lst ds'=>rw[Den]at h';obtain⟨a2,vs2,rfl,_,e2,g2⟩:=h';cases r';obtain⟨its2,q2,tp2⟩:=fZ hok e2;exact⟨yw _ tp2 hu',yx _ tp2 hu'⟩
   |dct=>simp[nod]at n2
  |int i=>
   rw[Den]at h;subst h;obtain⟨t1,rfl⟩:=r
   cases d' with
   |non=>rw[Den]at h';subst h';cases r';exact⟨zw _ _,zx _ _⟩
   |bl b'=>rw[Den]at h';subst h';cases r';exact⟨zy _ _ _,Aa _ _ _⟩
   |int i'=>rw[Den]at h';subst h';obtain⟨t2,rfl⟩:=r';exact⟨Av _ _ _ _,ug _ _ _ _⟩
   |str x'=>rw[Den]at h';subst h';obtain⟨t2,rfl⟩:=r';exact⟨Aw _ _ _ _,ue _ _ _ _⟩
   |tup ds'=>rw[Den]at h';obtain⟨a2,vs2,rfl,e2,g2⟩:=h';cases r';obtain⟨its2,q2,tp2⟩:=fY hok e2;exact⟨yy _ _ tp2 hu',yz _ _ tp2 hu'⟩
   |lst ds'=>rw[Den]at h';obtain⟨a2,vs2,rfl,_,e2,g2⟩:=h';cases r';obtain⟨its2,q2,tp2⟩:=fZ hok e2;exact⟨Ab _ _ tp2 hu',Ac _ _ tp2 hu'⟩
   |dct=>simp[nod]at n2
  |str x=>
   rw[Den]at h;subst h;obtain⟨t1,rfl⟩:=r
   cases d' with
   |non=>rw[Den]at h';subst h';cases r';exact⟨Ae _ _,Af _ _⟩
   |bl b'=>rw[Den]at h';subst h';cases r';exact⟨Ag _ _ _,Ah _ _ _⟩
   |int i'=>rw[Den]at h';subst h';obtain⟨t2,rfl⟩:=r';exact⟨Ax _ _ _ _,uf _ _ _ _⟩
   |str x'=>rw[Den]at h';subst h';obtain⟨t2,rfl⟩:=r';exact⟨Ay _ _ _ _,Az _ _ _ _⟩
   |tup ds'=>rw[Den]at h';obtain⟨a2,vs2,rfl,e2,g2⟩:=h';cases r';obtain⟨its2,q2,tp2⟩:=fY hok e2;exact⟨zb _ _ tp2 hu',zc _ _ tp2 hu'⟩
   |lst ds'=>rw[Den]at h';obtain⟨a2,vs2,rfl,_,e2,g2⟩:=h';cases r';obtain⟨its2,q2,tp2⟩:=fZ hok e2;exact⟨Ai _ _ tp2 hu',Aj _ _ tp2 hu'⟩
   |dct=>simp[nod]at n2
  |tup ds=>rw[eZ]at hn;omega
  |lst ds=>rw[eZ]at hn;omega
  |dct=>simp[nod]at n1
 |succ n ih=>
  intro A d d' v v' u u' hn hu n1 n2 h h' r r';have hu':A.units<cLine:=by omega
  have hin:∀{vs vs':List V}{ds ds':List Dt}{its its':List af},kJ ds<=n->iG ds=true->iG ds'=true->DenL P H ds vs->DenL P H ds' vs'->Vals vs its->Vals vs' its'->
    ∀j (h1:j<its.toArray.size) (h2:j<its'.toArray.size),vh A.in1 s its.toArray[j] its'.toArray[j] (bM (ds.getD j .non) (ds'.getD j .non)):=by
   intro vs vs' ds ds' its its' hd m1 m2 g g' q q' j h1 h2;obtain⟨x,ex,rx⟩:=uB q h1;obtain⟨x',ex',rx'⟩:=uB q' h2;obtain⟨dx,edx,gx⟩:=g.get ex;obtain⟨dx',edx',gx'⟩:=g'.get ex';have e1:ds.getD j .non=dx:=by simp[nt,edx]
   have e2:ds'.getD j .non=dx':=by simp[nt,edx']
   rw[e1,e2];have hm:=bx edx;exact(ih A.in1 dx dx' x x' _ _ (dq (AA hm) hd) (by show A.units+1+n+1<cLine;omega) (qR m1 hm) (qR m2 (bx edx')) gx gx' rx rx').2
  cases d with
  |non=>
   rw[Den]at h;subst h;cases r
   cases d' with
   |non=>rw[Den]at h';subst h';cases r';exact⟨ym,qr _⟩
   |bl b'=>rw[Den]at h';subst h';cases r';exact⟨yn _,yo _⟩
   |int i'=>rw[Den]at h';subst h';obtain⟨t2,rfl⟩:=r';exact⟨zl _ _,zm _ _⟩
   |str x'=>rw[Den]at h';subst h';obtain⟨t2,rfl⟩:=r';exact⟨zo _ _,zq _ _⟩
   |tup ds'=>rw[Den]at h';obtain⟨a2,vs2,rfl,e2,g2⟩:=h';cases r';obtain⟨its2,q2,tp2⟩:=fY hok e2;exact⟨ya  tp2 hu',yb  tp2 hu'⟩
   |lst ds'=>rw[Den]at h';obtain⟨a2,vs2,rfl,_,e2,g2⟩:=h';cases r';obtain⟨its2,q2,tp2⟩:=fZ hok e2;exact⟨yp  tp2 hu',yq  tp2 hu'⟩
   |dct=>simp[nod]at n2
  |bl b=>
   rw[Den]at h;subst h;cases r
   cases d' with
   |non=>rw[Den]at h';subst h';cases r';exact⟨yr _,yt _⟩
   |bl b'=>rw[Den]at h';subst h';cases r';exact⟨yu _ _,yv _ _⟩
   |int i'=>rw[Den]at h';subst h';obtain⟨t2,rfl⟩:=r';exact⟨zr _ _ _,zt _ _ _⟩
   |str x'=>rw[Den]at h';subst h';obtain⟨t2,rfl⟩:=r';exact⟨zu _ _ _,zv _ _ _⟩
   |tup ds'=>rw[Den]at h';obtain⟨a2,vs2,rfl,e2,g2⟩:=h';cases r';obtain⟨its2,q2,tp2⟩:=fY hok e2;exact⟨yc _ tp2 hu',yd _ tp2 hu'⟩
   |lst ds'=>rw[Den]at h';obtain⟨a2,vs2,rfl,_,e2,g2⟩:=h';cases r';obtain⟨its2,q2,tp2⟩:=fZ hok e2;exact⟨yw _ tp2 hu',yx _ tp2 hu'⟩
   |dct=>simp[nod]at n2
  |int i=>
   rw[Den]at h;subst h;obtain⟨t1,rfl⟩:=r
   cases d' with
   |non=>rw[Den]at h';subst h';cases r';exact⟨zw _ _,zx _ _⟩
   |bl b'=>rw[Den]at h';subst h';cases r';exact⟨zy _ _ _,Aa _ _ _⟩
   |int i'=>rw[Den]at h';subst h';obtain⟨t2,rfl⟩:=r';exact⟨Av _ _ _ _,ug _ _ _ _⟩
   |str x'=>rw[Den]at h';subst h';obtain⟨t2,rfl⟩:=r';exact⟨Aw _ _ _ _,ue _ _ _ _⟩
   |tup ds'=>rw[Den]at h';obtain⟨a2,vs2,rfl,e2,g2⟩:=h';cases r';obtain⟨its2,q2,tp2⟩:=fY hok e2;exact⟨yy _ _ tp2 hu',yz _ _ tp2 hu'⟩
   |lst ds'=>rw[Den]at h';obtain⟨a2,vs2,rfl,_,e2,g2⟩:=h';cases r';obtain⟨its2,q2,tp2⟩:=fZ hok e2;exact⟨Ab _ _ tp2 hu',Ac _ _ tp2 hu'⟩
   |dct=>simp[nod]at n2
  |str x=>
   rw[Den]at h;subst h;obtain⟨t1,rfl⟩:=r
   cases d' with
   |non=>rw[Den]at h';subst h';cases r';exact⟨Ae _ _,Af _ _⟩
   |bl b'=>rw[Den]at h';subst h';cases r';exact⟨Ag _ _ _,Ah _ _ _⟩
   |int i'=>rw[Den]at h';subst h';obtain⟨t2,rfl⟩:=r';exact⟨Ax _ _ _ _,uf _ _ _ _⟩
   |str x'=>rw[Den]at h';subst h';obtain⟨t2,rfl⟩:=r';exact⟨Ay _ _ _ _,Az _ _ _ _⟩
   |tup ds'=>rw[Den]at h';obtain⟨a2,vs2,rfl,e2,g2⟩:=h';cases r';obtain⟨its2,q2,tp2⟩:=fY hok e2;exact⟨zb _ _ tp2 hu',zc _ _ tp2 hu'⟩
   |lst ds'=>rw[Den]at h';obtain⟨a2,vs2,rfl,_,e2,g2⟩:=h';cases r';obtain⟨its2,q2,tp2⟩:=fZ hok e2;exact⟨Ai _ _ tp2 hu',Aj _ _ tp2 hu'⟩
   |dct=>simp[nod]at n2
  |tup ds=>
   rw[Den]at h;obtain⟨a1,vs1,rfl,e1,g1⟩:=h;cases r;obtain⟨its1,q1,tp1⟩:=fY hok e1
   cases d' with
   |non=>rw[Den]at h';subst h';cases r';exact⟨SeqAt.RcAt.tuple_none  tp1 hu',SeqAt.EqAt.tuple_none  tp1 hu'⟩
   |bl b'=>rw[Den]at h';subst h';cases r';exact⟨SeqAt.RcAt.tuple_bool _ tp1 hu',SeqAt.EqAt.tuple_bool _ tp1 hu'⟩
   |int i'=>rw[Den]at h';subst h';obtain⟨t2,rfl⟩:=r';exact⟨SeqAt.RcAt.tuple_int _ _ tp1 hu',SeqAt.EqAt.tuple_int _ _ tp1 hu'⟩
   |str x'=>rw[Den]at h';subst h';obtain⟨t2,rfl⟩:=r';exact⟨SeqAt.RcAt.tuple_str _ _ tp1 hu',SeqAt.EqAt.tuple_str _ _ tp1 hu'⟩
   |tup ds'=>
    rw[Den]at h';obtain⟨a2,vs2,rfl,e2,g2⟩:=h';cases r';obtain⟨its2,q2,tp2⟩:=fY hok e2;rw[nod]at n1 n2;rw[eZ]at hn;have hl1:=g1.length;have hl2:=g2.length;have hq1:=q1.length;have hq2:=q2.length;have key:Cq A s (.ref a1) (.ref a2) (bM (.tup ds) (.tup ds')):=by
     rw[bM];have z:=SeqAt.RcAt.tuples (e:=λj=>bM (ds.getD j .non) (ds'.getD j .non)) tp1 tp2 hu' (hin (by omega) n1 n2 g1 g2 q1 q2);have s1:its1.toArray.size=ds.length:=by simp;omega
     have s2:its2.toArray.size=ds'.length:=by simp;omega
     rw[s1,s2]at z
     by_cases hlen:ds.length=ds'.length
     ·rw[qS hlen];rw[<-hlen,Nat.min_self]at z;simpa using z
     ·rw[qT hlen];rw[show(ds.length==ds'.length)=false from beq_eq_false_iff_ne.mpr hlen,um]at z;exact z
    refine⟨key, ?_⟩
    by_cases hab:a1=a2
    ·subst hab;rw[e1]at e2;cases e2;rw[DenL.inj ds ds' _ g1 g2,zY _ (by rw[nod];exact n2)];exact qr _
    ·exact Ba hab key
   |lst ds'=>rw[Den]at h';obtain⟨a2,vs2,rfl,_,e2,g2⟩:=h';cases r';obtain⟨its2,q2,tp2⟩:=fZ hok e2;exact⟨SeqAt.RcAt.tuple_list tp1 tp2 hu',SeqAt.EqAt.tuple_list tp1 tp2 hu'⟩
   |dct=>simp[nod]at n2
  |lst ds=>
   rw[Den]at h;obtain⟨a1,vs1,rfl,_,e1,g1⟩:=h;cases r;obtain⟨its1,q1,tp1⟩:=fZ hok e1
   cases d' with
   |non=>rw[Den]at h';subst h';cases r';exact⟨SeqAt.RcAt.list_none  tp1 hu',SeqAt.EqAt.list_none  tp1 hu'⟩
   |bl b'=>rw[Den]at h';subst h';cases r';exact⟨SeqAt.RcAt.list_bool _ tp1 hu',SeqAt.EqAt.list_bool _ tp1 hu'⟩
   |int i'=>rw[Den]at h';subst h';obtain⟨t2,rfl⟩:=r';exact⟨SeqAt.RcAt.list_int _ _ tp1 hu',SeqAt.EqAt.list_int _ _ tp1 hu'⟩
   |str x'=>rw[Den]at h';subst h';obtain⟨t2,rfl⟩:=r';exact⟨SeqAt.RcAt.list_str _ _ tp1 hu',SeqAt.EqAt.list_str _ _ tp1 hu'⟩
   |tup ds'=>rw[Den]at h';obtain⟨a2,vs2,rfl,e2,g2⟩:=h';cases r';obtain⟨its2,q2,tp2⟩:=fY hok e2;exact⟨SeqAt.RcAt.list_tuple tp1 tp2 hu',SeqAt.EqAt.list_tuple tp1 tp2 hu'⟩
   |lst ds'=>
    rw[Den]at h';obtain⟨a2,vs2,rfl,_,e2,g2⟩:=h';cases r';obtain⟨its2,q2,tp2⟩:=fZ hok e2;rw[nod]at n1 n2;rw[eZ]at hn;have hl1:=g1.length;have hl2:=g2.length;have hq1:=q1.length;have hq2:=q2.length;have key:Cq A s (.ref a1) (.ref a2) (bM (.lst ds) (.lst ds')):=by
     rw[bM]
     by_cases hlen:ds.length=ds'.length
     ·have z:=SeqAt.RcAt.lists (e:=λj=>bM (ds.getD j .non) (ds'.getD j .non)) tp1 tp2 (by simp;omega) hu' (hin (by omega) n1 n2 g1 g2 q1 q2);rw[qS hlen];simpa[hq1.symm,hl1]using z
     ·rw[qT hlen];exact SeqAt.RcAt.lists_lengths tp1 tp2 (by simp;omega) hu'
    refine⟨key, ?_⟩
    by_cases hab:a1=a2
    ·subst hab;rw[e1]at e2;cases e2;rw[DenL.inj ds ds' _ g1 g2,zY _ (by rw[nod];exact n2)];exact qr _
    ·exact Ba hab key
   |dct=>simp[nod]at n2
  |dct=>simp[nod]at n1
end
end L2
namespace L2.Mr
open PySem PySem.Spec PyProof.Rows
inductive Dv where
 |non|bl (b:Bool)|int (i:Int)|str (x:Str)|tup (xs:List Dv)|ref (i:Nat)|edc|exc (c:Nat)|scr
inductive Ob where
 |lst (xs:List Dv)
abbrev Hs:=List Ob
abbrev Ev:=List (Option Dv)
inductive Rs (α:Type) where
 |ok (a:α) (h:Hs)|ex (c:Nat) (h:Hs)|bad
def Rs.bind {α β:Type}(r:Rs α) (f:α->Hs->Rs β):Rs β:=match r with
 | .ok a h=>f a h
 | .ex c h=>.ex c h
 | .bad=>.bad
@[simp] theorem Rs.bind_ok {α β:Type}(a:α) (h:Hs) (f:α->Hs->Rs β):(Rs.ok a h).bind f=f a h:=rfl
@[simp] theorem Rs.bind_ex {α β:Type}(c:Nat) (h:Hs) (f:α->Hs->Rs β):(Rs.ex c h).bind f=.ex c h:=rfl
@[simp] theorem Rs.bind_bad {α β:Type}(f:α->Hs->Rs β):(Rs.bad).bind f=.bad:=rfl
abbrev M (α:Type):=Ev->Hs->Rs α
structure Cfg where
 K:aq
 cl:Nat->ai
 scr:List Int
 sa:ai
 tab:Option ai:=none
 lq:Str:=Str.empty
def dP (C:af) (e T:ai) (a0:af) (h:cp):Prop:=∃oe vs,h.get? e=some oe/\oe.cls=C/\oe.data=.fields vs/\vs[0]?=some a0/\vs[1]?=some (.ref T)/\oe.dict=none
def uC (G:Cfg) (H:Hp) (c:Nat) (u:af):Prop:=∃e φ,u=.ref e/\H e=some (.ext φ)/\∀h,φ h->∃o,h.get? e=some o/\o.cls=.ref (G.cl c)
def AD:HO->Prop
 | .tup _=>True
 | .dK kvs=>kvs=[]
 | .frz _ _=>True
 |_=>False
def FzL (K:aq) (H:Hp) (a:ai) (xs:List V):Prop:=(∃o,H a=some (.frz o (.lst xs))) ∨
  ∃(o:Obj) (its:Array af) (n:Nat),K.lookup a=some o/\o.cls=.type "list"/\o.dict=none/\o.data=.seq its n/\its.size<=ck/\Vals xs its.toList
theorem FzL.sq {K:aq}{H:Hp}{a:ai}{xs:List V}(h:FzL K H a xs):SqL K H a xs:=by
 rcases h with⟨o,h⟩|h
 ·exact .inl (.inr ⟨o,h⟩)
 ·exact .inr h
theorem FzL.keep {K:aq}{H H':Hp}{a:ai}{xs:List V}(h:FzL K H a xs) (k:∀a o,AD o->H a=some o->H' a=some o):FzL K H' a xs:=by
 rcases h with⟨o,h⟩|h
 ·exact .inl ⟨o,k a _ trivial h⟩
 ·exact .inr h
mutual
def RelD (G:Cfg) (μ:Nat->ai) (n:Nat) (H:Hp):Dv->V->Prop
 | .non,v=>v=.non
 | .bl b,v=>v=.bl b
 | .int i,v=>v=.int i
 | .str x,v=>v=.str x
 | .tup ds,v=>∃a vs,v=.ref a/\H a=some (.tup vs)/\RelDL G μ n H ds vs
 | .ref i,v=>i<n/\v=.ref (μ i)
 | .edc,v=>∃a,v=.ref a/\H a=some (.dK [])
 | .exc c,v=>∃a o u,v=.ref a/\H a=some (.frz o u)/\o.cls=.ref (G.cl c)/\o.dict=none/\∃vs,o.data=.fields vs
 | .scr,v=>v=.ref G.sa/\FzL G.K H G.sa (G.scr.map V.int)
def RelDL (G:Cfg) (μ:Nat->ai) (n:Nat) (H:Hp):List Dv->List V->Prop
 | [],vs=>vs=[]
 |d::ds,vs=>∃v r,vs=v::r/\RelD G μ n H d v/\RelDL G μ n H ds r
end
structure Ext (μ:Nat->ai) (n:Nat) (H:Hp) (μ':Nat->ai) (n':Nat) (H':Hp):Prop where
 le:n<=n'
 mu:∀i,i<n->μ' i=μ i
 im:∀a o,AD o->H a=some o->H' a=some o
theorem Ext.refl {μ:Nat->ai}{n:Nat}{H:Hp}:Ext μ n H μ n H:=⟨ak _,λ_ _=>rfl,λ_ _ _ e=>e⟩
theorem Ext.trans {μ μ1 μ2:Nat->ai}{n n1 n2:Nat}{H H1 H2:Hp}(a:Ext μ n H μ1 n1 H1) (b:Ext μ1 n1 H1 μ2 n2 H2):Ext μ n H μ2 n2 H2:=⟨dq a.le b.le,λi hi=>(b.mu i (au hi a.le)).trans (a.mu i hi),λc o i e=>b.im c o i (a.im c o i e)⟩
section
variable{G:Cfg}{μ μ':Nat->ai}{n n':Nat}{H H':Hp}
mutual
theorem RelD.mono (x:Ext μ n H μ' n' H'):∀(d:Dv) (v:V),RelD G μ n H d v->RelD G μ' n' H' d v
 | .non,v,h=>h
 | .bl b,v,h=>h
 | .int i,v,h=>h
 | .str s,v,h=>h
 | .tup ds,v,h=>by obtain⟨a,vs,e,h1,h2⟩:=h;exact⟨a,vs,e,x.im a _ trivial h1,RelDL.mono x ds vs h2⟩
 | .ref i,v,h=>by obtain⟨h1,h2⟩:=h;exact⟨au h1 x.le,by rw[x.mu i h1];exact h2⟩
 | .edc,v,h=>by obtain⟨a,e,h1⟩:=h;exact⟨a,e,x.im a _ rfl h1⟩
 | .exc c,v,h=>by obtain⟨a,o,u,e,h1,h2⟩:=h;exact⟨a,o,u,e,x.im a _ trivial h1,h2⟩
 | .scr,v,h=>by obtain⟨h1,h2⟩:=h;exact⟨h1,h2.keep x.im⟩
theorem RelDL.mono (x:Ext μ n H μ' n' H'):∀(ds:List Dv) (vs:List V),RelDL G μ n H ds vs->RelDL G μ' n' H' ds vs
 | [],vs,h=>h
 |d::ds,vs,h=>by obtain⟨v,r,e,h1,h2⟩:=h;exact⟨v,r,e,RelD.mono x d v h1,RelDL.mono x ds r h2⟩
end
theorem RelDL.length:∀{ds:List Dv}{vs:List V},RelDL G μ n H ds vs->vs.length=ds.length
 | [],_,h=>by rw[RelDL]at h;subst h;rfl
 |d::ds,_,h=>by rw[RelDL]at h;obtain⟨v,r,rfl,_,h2⟩:=h;rw[dv,dv,RelDL.length h2]
theorem RelDL.get:∀{ds:List Dv}{vs:List V}{i:Nat}{d:Dv},RelDL G μ n H ds vs->ds[i]?=some d->∃v,vs[i]?=some v/\RelD G μ n H d v
 | [],_,_,_,_,e=>by simp at e
 |d::ds,_,0,d',h,e=>by rw[RelDL]at h;obtain⟨v,r,rfl,h1,_⟩:=h;simp at e;subst e;exact⟨v,rfl,h1⟩
 |d::ds,_,i+1,d',h,e=>by rw[RelDL]at h;obtain⟨v,r,rfl,_,h2⟩:=h;obtain⟨u,e1,h3⟩:=RelDL.get (i:=i) h2 (by simpa using e);exact⟨u,by simpa using e1,h3⟩
theorem RelDL.nil:RelDL G μ n H [] []:=by rw[RelDL]
theorem RelDL.cons {d:Dv}{v:V}{ds:List Dv}{vs:List V}(h:RelD G μ n H d v) (t:RelDL G μ n H ds vs):RelDL G μ n H (d::ds) (v::vs):=by rw[RelDL];exact⟨v,vs,rfl,h,t⟩
theorem RelDL.append:∀{ds es:List Dv}{vs ws:List V},RelDL G μ n H ds vs->RelDL G μ n H es ws->RelDL G μ n H (ds++es) (vs++ws)
 | [],_,_,_,h,h'=>by rw[RelDL]at h;subst h;exact h'
 |d::ds,_,_,_,h,h'=>by rw[RelDL]at h;obtain⟨v,r,rfl,h1,h2⟩:=h;exact RelDL.cons h1 (RelDL.append h2 h')
theorem RelDL.take:∀{ds:List Dv}{vs:List V}(k:Nat),RelDL G μ n H ds vs->RelDL G μ n H (ds.take k) (vs.take k)
 | [],_,k,h=>by rw[RelDL]at h;subst h;simp[RelDL.nil]
 |d::ds,_,0,h=>by simp[RelDL.nil]
 |d::ds,_,k+1,h=>by rw[RelDL]at h;obtain⟨v,r,rfl,h1,h2⟩:=h;exact RelDL.cons h1 (RelDL.take k h2)
theorem RelDL.drop:∀{ds:List Dv}{vs:List V}(k:Nat),RelDL G μ n H ds vs->RelDL G μ n H (ds.drop k) (vs.drop k)
 | [],_,k,h=>by rw[RelDL]at h;subst h;simp[RelDL.nil]
 |d::ds,_,0,h=>h
 |d::ds,_,k+1,h=>by rw[RelDL]at h;obtain⟨v,r,rfl,h1,h2⟩:=h;exact RelDL.drop k h2
theorem RelDL.set {x:Dv}{u:V}(hx:RelD G μ n H x u):∀{ds:List Dv}{vs:List V}(i:Nat),RelDL G μ n H ds vs->RelDL G μ n H (ds.set i x) (vs.set i u)
 | [],_,_,h=>by rw[RelDL]at h;subst h;exact RelDL.nil
 |d::ds,_,0,h=>by rw[RelDL]at h;obtain⟨v,r,rfl,h1,h2⟩:=h;exact RelDL.cons hx h2
 |d::ds,_,i+1,h=>by rw[RelDL]at h;obtain⟨v,r,rfl,h1,h2⟩:=h;exact RelDL.cons h1 (RelDL.set hx i h2)
end
def RJ (G:Cfg) (μ:Nat->ai) (n:Nat) (H:Hp) (a:ai):Ob->Prop
 | .lst xs=>∃vs,H a=some (.lst vs)/\RelDL G μ n H xs vs
def uD (q:Str) (oc:Obj):Prop:=∃vs t,oc.data=.fields vs/\vs[1]?=some (.str q t)
def TabOk (G:Cfg) (H:Hp):Prop:=∀P,G.tab=some P->∃ps,H P=some (.tbl ps)/\wg ps.toList/\∀pos cv,codeAmong pos ps.toList=some cv->∃q oc,cv=.ref q/\H q=some (.frz oc (.own 0))/\uD G.lq oc
theorem TabOk.keep {G:Cfg}{H H':Hp}(t:TabOk G H) (k:∀a o,(∀xs,o≠.lst xs)->(∀φ,o≠.ext φ)->H a=some o->H' a=some o):TabOk G H':=λP e=>by obtain⟨ps,h1,h2,h3⟩:=t P e;refine⟨ps,k P _ (λ_ z=>by cases z) (λ_ z=>by cases z) h1,h2,λpos cv q=>?_⟩;obtain⟨a,oc,e1,e2,e3⟩:=h3 pos cv q;exact⟨a,oc,e1,k a _ (λ_ z=>by cases z) (λ_ z=>by cases z) e2,e3⟩
structure Sim (G:Cfg) (μ:Nat->ai) (h:Hs) (H:Hp):Prop where
 inj:∀i j,i<h.length->j<h.length->μ i=μ j->i=j
 ob:∀(i:Nat) (o:Ob),h[i]?=some o->RJ G μ h.length H (μ i) o
 tab:TabOk G H
structure RelS (G:Cfg) (μ:Nat->ai) (n:Nat) (H:Hp) (ρ:Ev) (σ:St):Prop where
 len:ρ.length=σ.length
 at_:∀(i:Nat) (d:Dv),ρ[i]?=some (some d)->∃v,σ[i]?=some (some v)/\RelD G μ n H d v
theorem RelS.mono {G:Cfg}{μ μ':Nat->ai}{n n':Nat}{H H':Hp}{ρ:Ev}{σ:St}(r:RelS G μ n H ρ σ) (x:Ext μ n H μ' n' H'):RelS G μ' n' H' ρ σ:=⟨r.len,λi d e=>let ⟨v,e1,h⟩:=r.at_ i d e;⟨v,e1,RelD.mono x d v h⟩⟩
def Out {α β:Type}(G:Cfg) (E:XK) (μ:Nat->ai) (n:Nat) (H:Hp) (r:Rs α) (R:(Nat->ai)->Nat->Hp->α->β->Prop) (Q:β->Hp->Prop):Prop:=
 match r with
 | .ok d h'=>∀μ' H' v,Ext μ n H μ' h'.length H'->Sim G μ' h' H'->R μ' h'.length H' d v->Q v H'
 | .ex c h'=>∀μ' H' u,Ext μ n H μ' h'.length H'->Sim G μ' h' H'->uC G H' c u->E u none H'
 | .bad=>False
theorem Out.bind {α β γ δ:Type}{G:Cfg}{E:XK}{μ:Nat->ai}{n:Nat}{H:Hp}{r:Rs α}{f:α->Hs->Rs γ}{R:(Nat->ai)->Nat->Hp->γ->δ->Prop}{Q:δ->Hp->Prop}{R1:(Nat->ai)->Nat->Hp->α->β->Prop}
  (o:Out G E μ n H (r.bind f) R Q):Out G E μ n H r R1 λv H1=>∃μ1 d h1,Ext μ n H μ1 h1.length H1/\Sim G μ1 h1 H1/\R1 μ1 h1.length H1 d v/\Out G E μ1 h1.length H1 (f d h1) R Q:=by
 cases r with
 |bad=>exact o
 |ex c h'=>exact o
 |ok d h'=>
  intro μ1 H1 v x1 s1 r1;refine⟨μ1,d,h',x1,s1,r1, ?_⟩;have o':Out G E μ n H (f d h') R Q:=o
  cases e:f d h' with
  |bad=>rw[e]at o';exact o'
  |ex c h2=>rw[e]at o';exact λμ2 H2 u x2 s2 r2=>o' μ2 H2 u (x1.trans x2) s2 r2
  |ok d2 h2=>rw[e]at o';exact λμ2 H2 u x2 s2 r2=>o' μ2 H2 u (x1.trans x2) s2 r2
theorem Out.mono {α β:Type}{G:Cfg}{E:XK}{μ:Nat->ai}{n:Nat}{H:Hp}{r:Rs α}{R:(Nat->ai)->Nat->Hp->α->β->Prop}{Q Q':β->Hp->Prop}(o:Out G E μ n H r R Q) (h:∀v H',Q v H'->Q' v H'):Out G E μ n H r R Q':=by
 cases r with
 |bad=>exact o
 |ex c h'=>exact o
 |ok d h'=>exact λμ' H' v x s r=>h _ _ (o μ' H' v x s r)
abbrev RB:(Nat->ai)->Nat->Hp->Bool->Bool->Prop:=λ_ _ _ b b'=>b'=b
def gL (G:Cfg) (E:XK) (m:M Dv):TE:=λσ H Q=>∃μ ρ h,RelS G μ h.length H ρ σ/\Sim G μ h H/\Out G E μ h.length H (m ρ h) (RelD G) Q
def gX (G:Cfg) (E:XK) (m:M Bool):TT:=λσ H Q=>∃μ ρ h,RelS G μ h.length H ρ σ/\Sim G μ h H/\Out G E μ h.length H (m ρ h) RB Q
def AE (G:Cfg) (E:XK) (m:M (List Dv)):TA:=λσ H Q=>∃μ ρ h,RelS G μ h.length H ρ σ/\Sim G μ h H/\Out G E μ h.length H (m ρ h) (RelDL G) Q
def aK (X:Cx) (G:Cfg) (E:XK) (pe:bu) (m:M Dv):Prop:=X.K=G.K->PE X pe (gL G E m)
def fV (X:Cx) (G:Cfg) (E:XK) (pe:bu) (m:M Bool):Prop:=X.K=G.K->PT X pe (gX G E m)
def dZ (X:Cx) (G:Cfg) (E:XK) (pe:List bu) (m:M (List Dv)):Prop:=X.K=G.K->PA X pe (AE G E m)
theorem PE.imp {X:Cx}{e:bu}{t t':TE}(h:PE X e t) (i:∀σ H Q,t' σ H Q->t σ H Q):PE X e t':=λpins s σ H Q I q=>h pins s σ H Q I (i σ H Q q)
theorem PT.imp {X:Cx}{e:bu}{t t':TT}(h:PT X e t) (i:∀σ H Q,t' σ H Q->t σ H Q):PT X e t':=λpins s σ H Q I q=>h pins s σ H Q I (i σ H Q q)
theorem PA.imp {X:Cx}{e:List bu}{t t':TA}(h:PA X e t) (i:∀σ H Q,t' σ H Q->t σ H Q):PA X e t':=λpos pins s σ H Q I q=>h pos pins s σ H Q I (i σ H Q q)
section
variable{G:Cfg}{E:XK}{σ:St}{H:Hp}
theorem eO {m:M Dv}{γ δ:Type}{f:Dv->Hs->Rs γ}{R:(Nat->ai)->Nat->Hp->γ->δ->Prop}{Q:δ->Hp->Prop}{Q1:V->Hp->Prop}{μ:Nat->ai}{ρ:Ev}{h:Hs}(rs:RelS G μ h.length H ρ σ) (s:Sim G μ h H) (o:Out G E μ h.length H ((m ρ h).bind f) R Q)
  (k:∀μ1 d h1 v H1,Ext μ h.length H μ1 h1.length H1->RelS G μ1 h1.length H1 ρ σ->Sim G μ1 h1 H1->RelD G μ1 h1.length H1 d v->Out G E μ1 h1.length H1 (f d h1) R Q->Q1 v H1):gL G E m σ H Q1:=
 ⟨μ,ρ,h,rs,s,(o.bind (R1:=RelD G)).mono λv H1 ⟨μ1,d,h1,x,s1,r1,o1⟩=>k μ1 d h1 v H1 x (rs.mono x) s1 r1 o1⟩
theorem AF {m:M Bool}{γ δ:Type}{f:Bool->Hs->Rs γ}{R:(Nat->ai)->Nat->Hp->γ->δ->Prop}{Q:δ->Hp->Prop}{Q1:Bool->Hp->Prop}{μ:Nat->ai}{ρ:Ev}{h:Hs}(rs:RelS G μ h.length H ρ σ) (s:Sim G μ h H) (o:Out G E μ h.length H ((m ρ h).bind f) R Q)
  (k:∀μ1 b h1 H1,Ext μ h.length H μ1 h1.length H1->RelS G μ1 h1.length H1 ρ σ->Sim G μ1 h1 H1->Out G E μ1 h1.length H1 (f b h1) R Q->Q1 b H1):gX G E m σ H Q1:=
 ⟨μ,ρ,h,rs,s,(o.bind (R1:=RB)).mono λv H1 ⟨μ1,d,h1,x,s1,r1,o1⟩=>by have e:v=d:=r1;subst e;exact k μ1 v h1 H1 x (rs.mono x) s1 o1⟩
theorem iH {m:M (List Dv)}{γ δ:Type}{f:List Dv->Hs->Rs γ}{R:(Nat->ai)->Nat->Hp->γ->δ->Prop}{Q:δ->Hp->Prop}{Q1:List V->Hp->Prop}{μ:Nat->ai}{ρ:Ev}{h:Hs}(rs:RelS G μ h.length H ρ σ) (s:Sim G μ h H) (o:Out G E μ h.length H ((m ρ h).bind f) R Q)
  (k:∀μ1 d h1 v H1,Ext μ h.length H μ1 h1.length H1->RelS G μ1 h1.length H1 ρ σ->Sim G μ1 h1 H1->RelDL G μ1 h1.length H1 d v->Out G E μ1 h1.length H1 (f d h1) R Q->Q1 v H1):AE G E m σ H Q1:=
 ⟨μ,ρ,h,rs,s,(o.bind (R1:=RelDL G)).mono λv H1 ⟨μ1,d,h1,x,s1,r1,o1⟩=>k μ1 d h1 v H1 x (rs.mono x) s1 r1 o1⟩
theorem Out.val {α β:Type}{μ:Nat->ai}{h:Hs}{d:α}{R:(Nat->ai)->Nat->Hp->α->β->Prop}{Q:β->Hp->Prop}{v:β}(s:Sim G μ h H) (o:Out G E μ h.length H (.ok d h) R Q) (r:R μ h.length H d v):Q v H:=o μ H v Ext.refl s r
end
section
variable{G:Cfg}{μ:Nat->ai}{h:Hs}{H H':Hp}{p:ai}{n:Nat}
theorem Ext.same (e:Same H H'):Ext μ n H μ n H':=⟨ak _,λ_ _=>rfl,λa o _ q=>e a o q⟩
theorem Sim.same (s:Sim G μ h H) (e:Same H H'):Sim G μ h H':=⟨s.inj,λi o q=>by
 have r:=s.ob i o q
 cases o with
 |lst xs=>obtain⟨vs,e1,r1⟩:=r;exact⟨vs,e _ _ e1,RelDL.mono (Ext.same e) _ _ r1⟩,s.tab.keep λa o _ _ q=>e a o q⟩
theorem cG {o:HO}(h:H p=none):Same H (upd H p o):=λb u e=>by rw[bO (eX e h)];exact e
theorem Sim.not (s:Sim G μ h H) (hp:H p=none):∀(i:Nat),i<h.length->μ i≠p:=λi hi z=>by
 have q:h[i]?=some h[i]:=ar hi;generalize h[i]=o at q
 cases o with
 |lst xs=>obtain⟨vs,e1,_⟩:=s.ob i _ q;rw[z,hp]at e1;cases e1
theorem Sim.alloc {ds:List Dv}{vs:List V}(s:Sim G μ h H) (hp:H p=none) (r:RelDL G μ h.length H ds vs):
  Ext μ h.length H (λi=>if i=h.length then p else μ i) (h++[Ob.lst ds]).length (upd H p (.lst vs))/\Sim G (λi=>if i=h.length then p else μ i) (h++[.lst ds]) (upd H p (.lst vs)):=by
 have hl:(h++[Ob.lst ds]).length=h.length+1:=by simp
 have hq:=s.not hp;have x:Ext μ h.length H (λi=>if i=h.length then p else μ i) (h++[Ob.lst ds]).length (upd H p (.lst vs)):=⟨by omega,λi hi=>if_neg (bc hi),λa o _ e=>cG hp a o e⟩
 refine⟨x,λi j hi hj e=>?_,λi o q=>?_,s.tab.keep λa o _ _ q=>cG hp a o q⟩
 ·rw[hl]at hi hj
  by_cases h1:i=h.length <;> by_cases h2:j=h.length
  ·omega
  ·rw[if_pos h1,if_neg h2]at e;exact absurd e.symm (hq j (by omega))
  ·rw[if_neg h1,if_pos h2]at e;exact absurd e (hq i (by omega))
  ·rw[if_neg h1,if_neg h2]at e;exact s.inj i j (by omega) (by omega) e
 ·by_cases h1:i<h.length
  ·rw[dy h1]at q;have r1:=s.ob i o q
   cases o with
   |lst xs=>obtain⟨ws,e1,r2⟩:=r1;exact⟨ws,by rw[if_neg (bc h1)];exact cG hp _ _ e1,RelDL.mono x _ _ r2⟩
  ·rw[gg (by omega)]at q;have h2:i=h.length:=by have:=(az.mp q).1;simp at this;omega
   subst h2;simp at q;subst q;exact⟨vs,by rw[if_pos rfl];exact cK,RelDL.mono x _ _ r⟩
theorem Sim.write {xs ys:List Dv}{i:Nat}{vs:List V}(s:Sim G μ h H) (q:h[i]?=some (.lst xs)) (r:RelDL G μ h.length H ys vs):
  Ext μ h.length H μ (h.set i (.lst ys)).length (upd H (μ i) (.lst vs))/\Sim G μ (h.set i (.lst ys)) (upd H (μ i) (.lst vs)):=by
 obtain⟨us,e0,r0⟩:=s.ob i _ q;have hi:i<h.length:=(az.mp q).1;have im:∀a o,AD o->H a=some o->upd H (μ i) (.lst vs) a=some o:=λa o m e=>by
  rw[bO];exact e
  rintro rfl;rw[e0]at e;cases e;exact m
 have x:Ext μ h.length H μ (h.set i (.lst ys)).length (upd H (μ i) (.lst vs)):=⟨by simp,λ_ _=>rfl,im⟩
 refine⟨x,λa b ha hb=>?_,λj o e=>?_,s.tab.keep λa o n1 _ q=>?_⟩
 rotate_left 2
 ·rw[bO];exact q
  rintro rfl;rw[e0]at q;cases q;exact n1 _ rfl
 ·rw[kv]at ha hb;exact s.inj a b ha hb
 ·by_cases hij:i=j
  ·subst hij;rw[dk hi]at e;cases e;exact⟨vs,cK,RelDL.mono x _ _ r⟩
  ·rw[fq hij]at e;have hj:j<h.length:=(az.mp e).1;have r1:=s.ob j o e;have ne:μ j≠μ i:=λz=>hij (s.inj j i hj hi z).symm
   cases o with
   |lst zs=>obtain⟨ws,e1,r2⟩:=r1;exact⟨ws,by rw[bO ne];exact e1,RelDL.mono x _ _ r2⟩
end
def lim {α:Type}(n:Nat) (r:Rs α):Rs α:=if n<=1000000 then r else .bad
theorem uE {n:Nat}(h:n<=1000000):n<=ck:=dq h (by decide)
def getL (h:Hs) (i:Nat):Option (List Dv):=match h[i]? with
 |some (.lst xs)=>some xs
 |none=>none
theorem eG {h:Hs}{i:Nat}{xs:List Dv}(e:getL h i=some xs):h[i]?=some (.lst xs):=by
 unfold getL at e
 cases q:h[i]? with
 |none=>rw[q]at e;cases e
 |some o=>cases o;rw[q]at e;cases e;rfl
section
variable{X:Cx}{G:Cfg}{E:XK}{a b c:bu}{ma mb mc:M Dv}{pos:Pos}{es:List bu}{aS:M (List Dv)}
def aB (i:Nat):M Dv:=λρ h=>match ρ[i]? with
 |some (some d)=>.ok d h
 |_=>.bad
theorem aD (i:Nat) {x:Str}(hN:X.N[i]?=some x:=by rfl) (hv:oS X.env.scope x:=by first|exact Or.inl rfl|exact Or.inr (Or.inl rfl)|exact Or.inr (Or.inr rfl))
  (hd:(x==("__debug__" : Str))=false:=by decide) (hcd:(x==("__classdict__" : Str))=false:=by decide):aK X G E (.Name x pos) (aB i):=λ_=>PE.imp (zA hN hv hd hcd) λσ H Q ⟨μ,ρ,h,rs,s,o⟩=>by
 unfold aB at o
 split at o
 ·rename_i d e;obtain⟨v,e1,r⟩:=rs.at_ i d e;exact⟨v,e1,o.val s r⟩
 ·exact o.elim
def mC (d:Dv):M Dv:=λ_ h=>.ok d h
theorem aT {i j}:aK X G E (.Constant (.int i) j pos) (mC (.int i)):=λ_=>PE.imp NI λσ H Q ⟨μ,ρ,h,rs,s,o⟩=>o.val s (show RelD G μ _ H (.int i) (.int i) from rfl)
theorem gA {i j}:aK X G E (.Constant (.bool i) j pos) (mC (.bl i)):=λ_=>PE.imp NJ λσ H Q ⟨μ,ρ,h,rs,s,o⟩=>o.val s (show RelD G μ _ H (.bl i) (.bl i) from rfl)
theorem uF {j}:aK X G E (.Constant .none j pos) (mC .non):=λ_=>PE.imp ES λσ H Q ⟨μ,ρ,h,rs,s,o⟩=>o.val s (show RelD G μ _ H .non .non from rfl)
theorem uG {x j}:aK X G E (.Constant (.str x) j pos) (mC (.str x)):=λ_=>PE.imp NK λσ H Q ⟨μ,ρ,h,rs,s,o⟩=>o.val s (show RelD G μ _ H (.str x) (.str x) from rfl)
def aC:M (List Dv):=λ_ h=>.ok [] h
def aA (m:M Dv) (ms:M (List Dv)):M (List Dv):=λρ h=>(m ρ h).bind λd h1=>(ms ρ h1).bind λds h2=>.ok (d::ds) h2
theorem aN:dZ X G E [] aC:=λ_=>PA.imp jA λσ H Q ⟨μ,ρ,h,rs,s,o⟩=>o.val s RelDL.nil
theorem aF (ha:aK X G E a ma) (hr:dZ X G E es aS) (hs:aw (a::es) X.env=(false,eval a X.env)::aw es X.env:=by rfl):dZ X G E (a::es) (aA ma aS):=λhK=>PA.imp (gW (ha hK) (hr hK) hs) λσ H Q ⟨μ,ρ,h,rs,s,o⟩=>eO rs s o λμ1 d h1 v H1 x1 rs1 s1 r1 o1=>iH rs1 s1 o1 λμ2 ds h2 vs H2 x2 rs2 s2 r2 o2=>o2.val s2 (RelDL.cons (RelD.mono x2 _ _ r1) r2)
def aM (ms:M (List Dv)):M Dv:=λρ h=>(ms ρ h).bind λds h1=>lim ds.length (.ok (.tup ds) h1)
theorem fB {k} (h:dZ X G E es aS):aK X G E (.Tuple es k pos) (aM aS):=λhK=>PE.imp (E9 (h hK)) λσ H Q ⟨μ,ρ,h,rs,s,o⟩=>iH rs s o λμ1 ds h1 vs H1 x1 rs1 s1 r1 o1=>by
 unfold lim at o1
 split at o1
 ·rename_i hl;refine⟨by rw[r1.length];exact uE hl,λp hp=>?_⟩;exact o1 μ1 _ _ (Ext.same (cG hp)) (s1.same (cG hp)) ⟨p,vs,rfl,cK,RelDL.mono (Ext.same (cG hp)) _ _ r1⟩
 ·exact o1.elim
def aR (ms:M (List Dv)):M Dv:=λρ h=>(ms ρ h).bind λds h1=>lim ds.length (.ok (.ref h1.length) (h1++[.lst ds]))
theorem nA {μ:Nat->ai}{h:Hs}{H:Hp}{ds:List Dv}{vs:List V}{Q:VK}{p:ai}(s:Sim G μ h H) (r:RelDL G μ h.length H ds vs) (hp:H p=none) (o:Out G E μ h.length H (.ok (.ref h.length) (h++[.lst ds])) (RelD G) Q):Q (.ref p) (upd H p (.lst vs)):=by obtain⟨x,s'⟩:=s.alloc hp r;exact o _ _ _ x s' ⟨by simp,by show V.ref p=V.ref (if h.length=h.length then p else μ h.length);rw[if_pos rfl]⟩
theorem fF (h:dZ X G E es aS):aK X G E (.List es pos) (aR aS):=λhK=>PE.imp (PU (h hK)) λσ H Q ⟨μ,ρ,h,rs,s,o⟩=>iH rs s o λμ1 ds h1 vs H1 x1 rs1 s1 r1 o1=>by
 unfold lim at o1
 split at o1
 ·rename_i hl;exact⟨by rw[r1.length];exact uE hl,λp hp=>nA s1 r1 hp o1⟩
 ·exact o1.elim
def m2 (f:Dv->Dv->Hs->Rs Dv) (ma mb:M Dv):M Dv:=λρ h=>(ma ρ h).bind λx h1=>(mb ρ h1).bind λy h2=>f x y h2
def fO (G:Cfg) (r:R2) (f:Dv->Dv->Hs->Rs Dv):Prop:=∀(E:XK) (μ:Nat->ai) (h:Hs) (H:Hp) (x y:Dv) (vx vy:V) (Q:VK),Sim G μ h H->RelD G μ h.length H x vx->RelD G μ h.length H y vy->Out G E μ h.length H (f x y h) (RelD G) Q->r vx vy H Q
theorem qU {r:R2}{f:Dv->Dv->Hs->Rs Dv}(hd:fO G r f) {σ:St}{H:Hp}{Q:VK}(t:gL G E (m2 f ma mb) σ H Q):qM r (gL G E ma) (gL G E mb) σ H Q:=by obtain⟨μ,ρ,h,rs,s,o⟩:=t;exact eO rs s o λμ1 x h1 vx H1 x1 rs1 s1 r1 o1=>eO rs1 s1 o1 λμ2 y h2 vy H2 x2 rs2 s2 r2 o2=>hd E μ2 h2 H2 x y vx vy Q s2 (RelD.mono x2 _ _ r1) r2 o2
theorem pA {op:Operator}{r:R2}{f:Dv->Dv->Hs->Rs Dv}(ho:OpR X (binaryOp op) r) (hd:fO G r f) (ha:aK X G E a ma) (hb:aK X G E b mb):aK X G E (.BinOp a op b pos) (m2 f ma mb):=λhK=>PE.imp (OZ ho (ha hK) (hb hK)) λ_ _ _ t=>qU hd t
theorem qV {op:CmpOp}{r:R2}{f:Dv->Dv->Hs->Rs Dv}(ho:OpR X (compareOp op) r) (hd:fO G r f) (ha:aK X G E a ma) (hb:aK X G E b mb) (hm:behindInMarks op b=false):aK X G E (.Compare a [op] [b] pos) (m2 f ma mb):=λhK=>PE.imp (PC ho (ha hK) (hb hK) hm) λ_ _ _ t=>qU hd t
def cO:Dv->Hs->Rs Bool
 | .bl b,h=>.ok b h
 |_,_=>.bad
def mB (m:M Dv):M Bool:=λρ h=>(m ρ h).bind cO
theorem RK {m:M Dv}{σ:St}{H:Hp}{Q:Bool->Hp->Prop}(t:gX G E (mB m) σ H Q):gL G E m σ H λx H'=>∃k,x=.bl k/\Q k H':=by
 obtain⟨μ,ρ,h,rs,s,o⟩:=t;refine eO rs s o λμ1 x h1 vx H1 x1 rs1 s1 r1 o1=>?_
 cases x with
 |bl k=>exact⟨k,r1,o1.val s1 rfl⟩
 |_=>exact o1.elim
theorem nB {op:CmpOp}{r:R2}{f:Dv->Dv->Hs->Rs Dv}(ho:OpR X (compareOp op) r) (hd:fO G r f) (ha:aK X G E a ma) (hb:aK X G E b mb) (hm:behindInMarks op b=false):fV X G E (.Compare a [op] [b] pos) (mB (m2 f ma mb)):=λhK=>PT.imp (PF ho (ha hK) (hb hK) hm) λσ H Q t=>qU hd (RK t)
def jQ (f f':Dv->Dv->Hs->Rs Dv) (ma mb mc:M Dv):M Dv:=λρ h=>(ma ρ h).bind λx h1=>(mb ρ h1).bind λy h2=>(f x y h2).bind λz h3=>match z with
 | .bl true=>(mc ρ h3).bind λw h4=>f' y w h4
 | .bl false=>.ok (.bl false) h3
 |_=>.bad
theorem RM {r r':R2}{f f':Dv->Dv->Hs->Rs Dv}(hd:fO G r f) (hd':fO G r' f') {σ:St}{H:Hp}{Q:VK}(t:gL G E (jQ f f' ma mb mc) σ H Q):E4 r r' (gL G E ma) (gL G E mb) (gL G E mc) σ H Q:=by
 obtain⟨μ,ρ,h,rs,s,o⟩:=t;refine eO rs s o λμ1 x h1 vx H1 x1 rs1 s1 r1 o1=>eO rs1 s1 o1 λμ2 y h2 vy H2 x2 rs2 s2 r2 o2=>?_;refine hd E μ2 h2 H2 x y vx vy _ s2 (RelD.mono x2 _ _ r1) r2 ((o2.bind (R1:=RelD G)).mono λvz H3 ⟨μ3,z,h3,x3,s3,r3,o3⟩=>?_)
 cases z with
 |bl k=>
  refine⟨k,r3, ?_⟩
  cases k with
  |true=>exact zS (eO (rs2.mono x3) s3 o3 λμ4 w h4 vw H4 x4 mY s4 r4 o4=>hd' E μ4 h4 H4 y w vy vw Q s4 (RelD.mono (x3.trans x4) _ _ r2) r4 o4)
  |false=>exact zR (o3.val s3 rfl)
 |_=>exact o3.elim
theorem GB {op op':CmpOp}{r r':R2}{f f':Dv->Dv->Hs->Rs Dv}(ho:OpR X (compareOp op) r) (ho':OpR X (compareOp op') r') (hd:fO G r f) (hd':fO G r' f') (ha:aK X G E a ma) (hb:aK X G E b mb) (hc:aK X G E c mc)
  (hm:lastMarks [op,op'] [b,c]=false:=by with_unfolding_all rfl):aK X G E (.Compare a [op,op'] [b,c] pos) (jQ f f' ma mb mc):=λhK=>
 PE.imp (PH ho ho' (ha hK) (hb hK) (hc hK) hm) λ_ _ _ t=>RM hd hd' t
def mD (G:Cfg) (r:V->Hp->VK->Prop) (f:Dv->Hs->Rs Dv):Prop:=∀(E:XK) (μ:Nat->ai) (h:Hs) (H:Hp) (x:Dv) (vx:V) (Q:VK),Sim G μ h H->RelD G μ h.length H x vx->Out G E μ h.length H (f x h) (RelD G) Q->r vx H Q
def m1 (f:Dv->Hs->Rs Dv) (ma:M Dv):M Dv:=λρ h=>(ma ρ h).bind f
theorem RN {op:UnaryOp}{r:V->Hp->VK->Prop}{f:Dv->Hs->Rs Dv}(ho:tR X (unaryOp op) r) (hd:mD G r f) (ha:aK X G E a ma):aK X G E (.UnaryOp op a pos) (m1 f ma):=λhK=>PE.imp (O2 ho (ha hK)) λσ H Q ⟨μ,ρ,h,rs,s,o⟩=>eO rs s o λμ1 x h1 vx H1 x1 rs1 s1 r1 o1=>hd E μ1 h1 H1 x vx Q s1 r1 o1
variable{tA tB':M Bool}{rest:List bu}
def eI (t u:M Bool):M Bool:=λρ h=>(t ρ h).bind λc h1=>if c=true then u ρ h1 else .ok false h1
def dU (t u:M Bool):M Bool:=λρ h=>(t ρ h).bind λc h1=>if c=true then .ok true h1 else u ρ h1
def cA (t:M Bool):M Bool:=λρ h=>(t ρ h).bind λc h1=>.ok (!c) h1
def SndW (X:Cx) (G:Cfg) (E:XK) (pe:bu) (m:M Bool):Prop:=X.K=G.K->PW X pe (gX G E m)
theorem SndW.t {pe:bu}{m:M Bool}(h:SndW X G E pe m):fV X G E pe m:=λhK=>(h hK).pt
theorem PW.imp {e:bu}{t t':TT}(h:PW X e t) (i:∀σ H Q,t' σ H Q->t σ H Q):PW X e t':=λwh pins s σ H Q I q=>h wh pins s σ H Q I (i σ H Q q)
theorem uH (ha:fV X G E a tA):SndW X G E (.BoolOp .And [a] pos) tA:=λhK=>NM (ha hK)
theorem nE (ha:fV X G E a tA):SndW X G E (.BoolOp .Or [a] pos) tA:=λhK=>NN (ha hK)
theorem RO {σ:St}{H:Hp}{Q:Bool->Hp->Prop}(t:gX G E (eI tA tB') σ H Q):EU (gX G E tA) (gX G E tB') σ H Q:=by
 obtain⟨μ,ρ,h,rs,s,o⟩:=t;refine AF rs s o λμ1 k h1 H1 x1 rs1 s1 o1=>?_
 cases k with
 |true=>rw[if_pos rfl]at o1 ⊢;exact⟨μ1,ρ,h1,rs1,s1,o1⟩
 |false=>rw[if_neg (by decide)]at o1 ⊢;exact o1.val s1 rfl
theorem RP {σ:St}{H:Hp}{Q:Bool->Hp->Prop}(t:gX G E (dU tA tB') σ H Q):EV (gX G E tA) (gX G E tB') σ H Q:=by
 obtain⟨μ,ρ,h,rs,s,o⟩:=t;refine AF rs s o λμ1 k h1 H1 x1 rs1 s1 o1=>?_
 cases k with
 |false=>rw[if_neg (by decide)]at o1 ⊢;exact⟨μ1,ρ,h1,rs1,s1,o1⟩
 |true=>rw[if_pos rfl]at o1 ⊢;exact o1.val s1 rfl
theorem qW (ha:fV X G E a tA) (hb:SndW X G E (.BoolOp .And (b::rest) pos) tB'):SndW X G E (.BoolOp .And (a::b::rest) pos) (eI tA tB'):=λhK=>PW.imp (NO (ha hK) (hb hK)) λ_ _ _ t=>RO t
theorem mE (ha:fV X G E a tA) (hb:SndW X G E (.BoolOp .Or (b::rest) pos) tB'):SndW X G E (.BoolOp .Or (a::b::rest) pos) (dU tA tB'):=λhK=>PW.imp (NP (ha hK) (hb hK)) λ_ _ _ t=>RP t
theorem gY (ha:fV X G E a tA):fV X G E (.UnaryOp .Not a pos) (cA tA):=λhK=>PT.imp (NQ (ha hK)) λσ H Q ⟨μ,ρ,h,rs,s,o⟩=>AF rs s o λμ1 k h1 H1 x1 rs1 s1 o1=>o1.val s1 rfl
def cM (m u:M Dv):M Dv:=λρ h=>(m ρ h).bind λd h1=>match d with
 | .bl true=>u ρ h1
 | .bl false=>.ok (.bl false) h1
 |_=>.bad
def uI (m u:M Dv):M Dv:=λρ h=>(m ρ h).bind λd h1=>match d with
 | .bl true=>.ok (.bl true) h1
 | .bl false=>u ρ h1
 |_=>.bad
def mF:Dv->Hs->Rs Dv
 | .bl b,h=>.ok (.bl (!b)) h
 |_,_=>.bad
theorem jR {op} {m:M Dv}(h:aK X G E a m):aK X G E (.BoolOp op [a] pos) m:=λhK=>NU (h hK)
theorem jS (ha:aK X G E a ma) (hb:aK X G E (.BoolOp .And (b::rest) pos) mb):aK X G E (.BoolOp .And (a::b::rest) pos) (cM ma mb):=λhK=>PE.imp (NV (ha hK) (hb hK)) λσ H Q ⟨μ,ρ,h,rs,s,o⟩=>
 eO rs s o λμ1 x h1 vx H1 x1 rs1 s1 r1 o1=>by
  cases x with
  |bl k=>
   refine⟨k,r1, ?_⟩
   cases k with
   |true=>exact zS ⟨μ1,ρ,h1,rs1,s1,o1⟩
   |false=>exact zR (o1.val s1 rfl)
  |_=>exact o1.elim
theorem RQ (ha:aK X G E a ma) (hb:aK X G E (.BoolOp .Or (b::rest) pos) mb):aK X G E (.BoolOp .Or (a::b::rest) pos) (uI ma mb):=λhK=>PE.imp (NW (ha hK) (hb hK)) λσ H Q ⟨μ,ρ,h,rs,s,o⟩=>
 eO rs s o λμ1 x h1 vx H1 x1 rs1 s1 r1 o1=>by
  cases x with
  |bl k=>
   refine⟨k,r1, ?_⟩
   cases k with
   |false=>exact zR ⟨μ1,ρ,h1,rs1,s1,o1⟩
   |true=>exact zS (o1.val s1 rfl)
  |_=>exact o1.elim
theorem AG (ha:aK X G E a ma):aK X G E (.UnaryOp .Not a pos) (m1 mF ma):=λhK=>PE.imp (NX (ha hK)) λσ H Q ⟨μ,ρ,h,rs,s,o⟩=>
 eO rs s o λμ1 x h1 vx H1 x1 rs1 s1 r1 o1=>by
  cases x with
  |bl k=>exact⟨k,r1,o1.val s1 rfl⟩
  |_=>exact o1.elim
def eJ:Dv->Hs->Rs Bool
 | .non,h=>.ok false h
 | .bl b,h=>.ok b h
 | .int i,h=>.ok (i != 0) h
 | .tup xs,h=>.ok (!xs.isEmpty) h
 | .ref i,h=>match getL h i with
  |some xs=>.ok (!xs.isEmpty) h
  |none=>.bad
 |_,_=>.bad
def bG (m:M Dv):M Bool:=λρ h=>(m ρ h).bind eJ
theorem GC {μ:Nat->ai}{n:Nat}{H:Hp}{ds:List Dv}{vs:List V}(r:RelDL G μ n H ds vs):vs.isEmpty=ds.isEmpty:=by
 have:=r.length
 cases ds <;> cases vs <;> simp_all
theorem fG (ha:aK X G E a ma) (he:∀whole,isTrue a X.env whole=(do let v <-whole;standAt a.pos;holding [v] (truthy v)):=by intro _;rfl):fV X G E a (bG ma):=λhK=>PT.imp (PL (ha hK) he) λσ H Q ⟨μ,ρ,h,rs,s,o⟩=>
 eO rs s o λμ1 x h1 vx H1 x1 rs1 s1 r1 o1=>by
  cases x with
  |non=>rw[RelD]at r1;subst r1;exact⟨_,rfl,o1.val s1 rfl⟩
  |bl k=>rw[RelD]at r1;subst r1;exact⟨_,rfl,o1.val s1 rfl⟩
  |int i=>rw[RelD]at r1;subst r1;exact⟨_,rfl,o1.val s1 rfl⟩
  |tup ds=>obtain⟨p,vs,rfl,e,r⟩:=r1;exact⟨_,.inr (.inl ⟨vs,SqT.of e,rfl⟩),by rw[GC r];exact o1.val s1 rfl⟩
  |ref i=>
   obtain⟨hi,rfl⟩:=r1;dsimp only[eJ]at o1
   cases q:getL h1 i with
   |none=>rw[q]at o1;exact o1.elim
   |some xs=>obtain⟨vs,e,r⟩:=s1.ob i _ (eG q);rw[q]at o1;exact⟨_,.inl ⟨vs,SqL.of e,rfl⟩,by rw[GC r];exact o1.val s1 rfl⟩
  |_=>exact o1.elim
end
end L2.Mr
namespace L2
open PySem PySem.Spec PyProof.Rows
section
variable{Pg:bg}{w:cn}{P:ai->Prop}{H:Hp}{s:ag}
theorem RR (hok:HOk Pg w H s.heap) (n:Nat) (A:cg) (d d':Dt) (v v':V) (u u':af) (hn:eZ d<=n) (hu:A.units+n+1<cLine) (n1:nod d=true) (n2:nod d'=true) (h:Den P H d v) (h':Den P H d' v') (r:RelV v u) (r':RelV v' u'):
  SeqAt.RcNeAt A s u u' (!bM d d'):=by
 have hu':A.units<cLine:=by omega
 have hin:∀{vs vs':List V}{ds ds':List Dt}{its its':List af},kJ ds+1<=n->iG ds=true->iG ds'=true->DenL P H ds vs->DenL P H ds' vs'->Vals vs its->Vals vs' its'->
   ∀j (h1:j<its.toArray.size) (h2:j<its'.toArray.size),vh A.in1 s its.toArray[j] its'.toArray[j] (bM (ds.getD j .non) (ds'.getD j .non)):=by
  intro vs vs' ds ds' its its' hd m1 m2 g g' q q' j h1 h2;obtain⟨x,ex,rx⟩:=uB q h1;obtain⟨x',ex',rx'⟩:=uB q' h2;obtain⟨dx,edx,gx⟩:=g.get ex;obtain⟨dx',edx',gx'⟩:=g'.get ex';have e1:ds.getD j .non=dx:=by simp[nt,edx]
  have e2:ds'.getD j .non=dx':=by simp[nt,edx']
  rw[e1,e2];have hm:=bx edx;have hdm:=AA hm;exact(AB hok (n - 1) A.in1 dx dx' x x' _ _ (by omega) (by show A.units+1+(n - 1)+1<cLine;omega) (qR m1 hm) (qR m2 (bx edx')) gx gx' rx rx').2
 cases d with
 |non=>
  rw[Den]at h;subst h;cases r
  cases d' with
  |non=>rw[Den]at h';subst h';cases r';exact SeqAt.RcNeAt.none_none
  |bl b'=>rw[Den]at h';subst h';cases r';exact SeqAt.RcNeAt.none_bool  _
  |int i'=>rw[Den]at h';subst h';obtain⟨t2,rfl⟩:=r';exact SeqAt.RcNeAt.none_int  _ _
  |str x'=>rw[Den]at h';subst h';obtain⟨t2,rfl⟩:=r';exact SeqAt.RcNeAt.none_str  _ _
  |tup ds'=>rw[Den]at h';obtain⟨a2,vs2,rfl,e2,g2⟩:=h';cases r';obtain⟨its2,q2,tp2⟩:=fY hok e2;exact SeqAt.RcNeAt.none_tuple  tp2 hu'
  |lst ds'=>rw[Den]at h';obtain⟨a2,vs2,rfl,_,e2,g2⟩:=h';cases r';obtain⟨its2,q2,tp2⟩:=fZ hok e2;exact SeqAt.RcNeAt.none_list  tp2 hu'
  |dct=>simp[nod]at n2
 |bl b=>
  rw[Den]at h;subst h;cases r
  cases d' with
  |non=>rw[Den]at h';subst h';cases r';exact SeqAt.RcNeAt.bool_none _
  |bl b'=>rw[Den]at h';subst h';cases r';exact SeqAt.RcNeAt.bool_bool _ _
  |int i'=>rw[Den]at h';subst h';obtain⟨t2,rfl⟩:=r';exact SeqAt.RcNeAt.bool_int _ _ _
  |str x'=>rw[Den]at h';subst h';obtain⟨t2,rfl⟩:=r';exact SeqAt.RcNeAt.bool_str _ _ _
  |tup ds'=>rw[Den]at h';obtain⟨a2,vs2,rfl,e2,g2⟩:=h';cases r';obtain⟨its2,q2,tp2⟩:=fY hok e2;exact SeqAt.RcNeAt.bool_tuple _ tp2 hu'
  |lst ds'=>rw[Den]at h';obtain⟨a2,vs2,rfl,_,e2,g2⟩:=h';cases r';obtain⟨its2,q2,tp2⟩:=fZ hok e2;exact SeqAt.RcNeAt.bool_list _ tp2 hu'
  |dct=>simp[nod]at n2
 |int i=>
  rw[Den]at h;subst h;obtain⟨t1,rfl⟩:=r
  cases d' with
  |non=>rw[Den]at h';subst h';cases r';exact SeqAt.RcNeAt.int_none _ _
  |bl b'=>rw[Den]at h';subst h';cases r';exact SeqAt.RcNeAt.int_bool _ _ _
  |int i'=>rw[Den]at h';subst h';obtain⟨t2,rfl⟩:=r';exact SeqAt.RcNeAt.int_int _ _ _ _
  |str x'=>rw[Den]at h';subst h';obtain⟨t2,rfl⟩:=r';exact SeqAt.RcNeAt.int_str _ _ _ _
  |tup ds'=>rw[Den]at h';obtain⟨a2,vs2,rfl,e2,g2⟩:=h';cases r';obtain⟨its2,q2,tp2⟩:=fY hok e2;exact SeqAt.RcNeAt.int_tuple _ _ tp2 hu'
  |lst ds'=>rw[Den]at h';obtain⟨a2,vs2,rfl,_,e2,g2⟩:=h';cases r';obtain⟨its2,q2,tp2⟩:=fZ hok e2;exact SeqAt.RcNeAt.int_list _ _ tp2 hu'
  |dct=>simp[nod]at n2
 |str x=>
  rw[Den]at h;subst h;obtain⟨t1,rfl⟩:=r
  cases d' with
  |non=>rw[Den]at h';subst h';cases r';exact SeqAt.RcNeAt.str_none _ _
  |bl b'=>rw[Den]at h';subst h';cases r';exact SeqAt.RcNeAt.str_bool _ _ _
  |int i'=>rw[Den]at h';subst h';obtain⟨t2,rfl⟩:=r';exact SeqAt.RcNeAt.str_int _ _ _ _
  |str x'=>rw[Den]at h';subst h';obtain⟨t2,rfl⟩:=r';exact SeqAt.RcNeAt.str_str _ _ _ _
  |tup ds'=>rw[Den]at h';obtain⟨a2,vs2,rfl,e2,g2⟩:=h';cases r';obtain⟨its2,q2,tp2⟩:=fY hok e2;exact SeqAt.RcNeAt.str_tuple _ _ tp2 hu'
  |lst ds'=>rw[Den]at h';obtain⟨a2,vs2,rfl,_,e2,g2⟩:=h';cases r';obtain⟨its2,q2,tp2⟩:=fZ hok e2;exact SeqAt.RcNeAt.str_list _ _ tp2 hu'
  |dct=>simp[nod]at n2
 |tup ds=>
  rw[Den]at h;obtain⟨a1,vs1,rfl,e1,g1⟩:=h;cases r;obtain⟨its1,q1,tp1⟩:=fY hok e1
  cases d' with
  |non=>rw[Den]at h';subst h';cases r';exact SeqAt.RcNeAt.tuple_none  tp1 hu'
  |bl b'=>rw[Den]at h';subst h';cases r';exact SeqAt.RcNeAt.tuple_bool _ tp1 hu'
  |int i'=>rw[Den]at h';subst h';obtain⟨t2,rfl⟩:=r';exact SeqAt.RcNeAt.tuple_int _ _ tp1 hu'
  |str x'=>rw[Den]at h';subst h';obtain⟨t2,rfl⟩:=r';exact SeqAt.RcNeAt.tuple_str _ _ tp1 hu'
  |tup ds'=>
   rw[Den]at h';obtain⟨a2,vs2,rfl,e2,g2⟩:=h';cases r';obtain⟨its2,q2,tp2⟩:=fY hok e2;rw[nod]at n1 n2;rw[eZ]at hn;have hl1:=g1.length;have hl2:=g2.length;have hq1:=q1.length;have hq2:=q2.length;rw[bM];have z:=SeqAt.RcNeAt.tuples (e:=λj=>bM (ds.getD j .non) (ds'.getD j .non)) tp1 tp2 hu' (hin hn n1 n2 g1 g2 q1 q2);have s1:its1.toArray.size=ds.length:=by simp;omega
   have s2:its2.toArray.size=ds'.length:=by simp;omega
   rw[s1,s2]at z
   by_cases hlen:ds.length=ds'.length
   ·rw[qS hlen];rw[<-hlen,Nat.min_self]at z;simpa using z
   ·rw[qT hlen];rw[show(ds.length==ds'.length)=false from beq_eq_false_iff_ne.mpr hlen,um]at z;exact z
  |lst ds'=>rw[Den]at h';obtain⟨a2,vs2,rfl,_,e2,g2⟩:=h';cases r';obtain⟨its2,q2,tp2⟩:=fZ hok e2;exact SeqAt.RcNeAt.tuple_list tp1 tp2 hu'
  |dct=>simp[nod]at n2
 |lst ds=>
  rw[Den]at h;obtain⟨a1,vs1,rfl,_,e1,g1⟩:=h;cases r;obtain⟨its1,q1,tp1⟩:=fZ hok e1
  cases d' with
  |non=>rw[Den]at h';subst h';cases r';exact SeqAt.RcNeAt.list_none  tp1 hu'
  |bl b'=>rw[Den]at h';subst h';cases r';exact SeqAt.RcNeAt.list_bool _ tp1 hu'
  |int i'=>rw[Den]at h';subst h';obtain⟨t2,rfl⟩:=r';exact SeqAt.RcNeAt.list_int _ _ tp1 hu'
  |str x'=>rw[Den]at h';subst h';obtain⟨t2,rfl⟩:=r';exact SeqAt.RcNeAt.list_str _ _ tp1 hu'
  |tup ds'=>rw[Den]at h';obtain⟨a2,vs2,rfl,e2,g2⟩:=h';cases r';obtain⟨its2,q2,tp2⟩:=fY hok e2;exact SeqAt.RcNeAt.list_tuple tp1 tp2 hu'
  |lst ds'=>
   rw[Den]at h';obtain⟨a2,vs2,rfl,_,e2,g2⟩:=h';cases r';obtain⟨its2,q2,tp2⟩:=fZ hok e2;rw[nod]at n1 n2;rw[eZ]at hn;have hl1:=g1.length;have hl2:=g2.length;have hq1:=q1.length;have hq2:=q2.length;rw[bM]
   by_cases hlen:ds.length=ds'.length
   ·have z:=SeqAt.RcNeAt.lists (e:=λj=>bM (ds.getD j .non) (ds'.getD j .non)) tp1 tp2 (by simp;omega) hu' (hin hn n1 n2 g1 g2 q1 q2);rw[qS hlen];simpa[hq1.symm,hl1]using z
   ·rw[qT hlen];exact SeqAt.RcNeAt.lists_lengths tp1 tp2 (by simp;omega) hu'
  |dct=>simp[nod]at n2
 |dct=>simp[nod]at n1
end
end L2
namespace L2.Mr
open PySem PySem.Spec PyProof.Rows
def bU {α β:Type}(f:α->Option β):List α->Option (List β)
 | []=>some []
 |x::xs=>match f x with
  |none=>none
  |some y=>match bU f xs with
   |none=>none
   |some ys=>some (y::ys)
def bV:Nat->Hs->Dv->Option Dt
 |0,_,_=>none
 |k+1,h,d=>match d with
  | .non=>some .non
  | .bl b=>some (.bl b)
  | .int i=>some (.int i)
  | .str x=>some (.str x)
  | .tup xs=>match bU (bV k h) xs with
   |some ts=>some (.tup ts)
   |none=>none
  | .ref i=>match getL h i with
   |some xs=>match bU (bV k h) xs with
    |some ts=>some (.lst ts)
    |none=>none
   |none=>none
  |_=>none
abbrev jB:ai->Prop:=λ_=>True
section
variable{G:Cfg}{μ:Nat->ai}{h:Hs}{H:Hp}
theorem pC (s:Sim G μ h H):∀(k:Nat) (d:Dv) (v:V) (t:Dt),RelD G μ h.length H d v->bV k h d=some t->Den jB H t v/\eZ t<=k/\nod t=true:=by
 intro k
 induction k with
 |zero=>intro d v t _ e;cases e
 |succ k ih=>
  have il:∀(xs:List Dv) (vs:List V) (ts:List Dt),RelDL G μ h.length H xs vs->bU (bV k h) xs=some ts->DenL jB H ts vs/\kJ ts<=k/\iG ts=true:=by
   intro xs
   induction xs with
   |nil=>intro vs ts r e;cases e;rw[RelDL]at r;subst r;exact⟨DenL.nil,by simp[kJ],rfl⟩
   |cons x xs ihx=>
    intro vs ts r e;rw[RelDL]at r;obtain⟨v,rr,rfl,r1,r2⟩:=r;unfold bU at e
    cases q:bV k h x with
    |none=>rw[q]at e;cases e
    |some y=>
     rw[q]at e;dsimp only at e
     cases q2:bU (bV k h) xs with
     |none=>rw[q2]at e;cases e
     |some ys=>rw[q2]at e;cases e;obtain⟨a1,a2,a3⟩:=ih x v y r1 q;obtain⟨b1,b2,b3⟩:=ihx rr ys r2 q2;exact⟨DenL.cons a1 b1,by rw[kJ];omega,by rw[iG,a3,b3];rfl⟩
  intro d v t r e;unfold bV at e
  cases d with
  |non=>cases e;rw[RelD]at r;subst r;exact⟨by rw[Den],by simp[eZ],rfl⟩
  |bl b=>cases e;rw[RelD]at r;subst r;exact⟨by rw[Den],by simp[eZ],rfl⟩
  |int b=>cases e;rw[RelD]at r;subst r;exact⟨by rw[Den],by simp[eZ],rfl⟩
  |str b=>cases e;rw[RelD]at r;subst r;exact⟨by rw[Den],by simp[eZ],rfl⟩
  |tup xs=>
   dsimp only at e
   cases q:bU (bV k h) xs with
   |none=>rw[q]at e;cases e
   |some ts=>rw[q]at e;cases e;obtain⟨a,vs,rfl,e1,r1⟩:=r;obtain⟨b1,b2,b3⟩:=il xs vs ts r1 q;exact⟨by rw[Den];exact⟨a,vs,rfl,e1,b1⟩,by rw[eZ];omega,by rw[nod];exact b3⟩
  |ref i=>
   dsimp only at e
   cases g:getL h i with
   |none=>rw[g]at e;cases e
   |some xs=>
    rw[g]at e;dsimp only at e
    cases q:bU (bV k h) xs with
    |none=>rw[q]at e;cases e
    |some ts=>rw[q]at e;cases e;obtain⟨hi,rfl⟩:=r;obtain⟨vs,e1,r1⟩:=s.ob i _ (eG g);obtain⟨b1,b2,b3⟩:=il xs vs ts r1 q;exact⟨by rw[Den];exact⟨_,vs,rfl,trivial,e1,b1⟩,by rw[eZ];omega,by rw[nod];exact b3⟩
  |edc=>cases e
  |exc c=>cases e
  |scr=>cases e
end
def cB:Nat:=30
def dB (x y:Dv) (h:Hs):Rs Dv:=match bV cB h x,bV cB h y with
 |some s,some t=>.ok (.bl (bM s t)) h
 |_,_=>.bad
def cC (x y:Dv) (h:Hs):Rs Dv:=match bV cB h x,bV cB h y with
 |some s,some t=>.ok (.bl (!bM s t)) h
 |_,_=>.bad
def uJ (neg:Bool):R2:=λx y H Q=>∃t t',Den jB H t x/\Den jB H t' y/\eZ t<=cB/\nod t=true/\nod t'=true/\Q (.bl (if neg then !bM t t' else bM t t')) H
section
variable{X:Cx}{G:Cfg}
theorem GD (hu:X.A.units+64<cLine):OpR X (compareOp .Eq) (uJ false):=by intro pins s σ H x y v u Q I r1 r2 ⟨t,t',d,d',hd,n1,n2,q⟩;exact EqBoolInt.of_rc (AB I.hok cB X.A t t' x y v u hd (by unfold cB;omega) n1 n2 d d' r1 r2).1 ⟨.bl _,H,I,rfl,q⟩
theorem GF (hu:X.A.units+64<cLine):OpR X (compareOp .NotEq) (uJ true):=by intro pins s σ H x y v u Q I r1 r2 ⟨t,t',d,d',hd,n1,n2,q⟩;exact EqBoolInt.of_rcne (RR I.hok cB X.A t t' x y v u hd (by unfold cB;omega) n1 n2 d d' r1 r2) ⟨.bl _,H,I,rfl,q⟩
theorem GG:fO G (uJ false) dB:=by
 intro E μ h H x y vx vy Q s rx ry o;unfold dB at o
 split at o
 ·rename_i t t' e e';obtain⟨a1,a2,a3⟩:=pC s _ x vx t rx e;obtain⟨b1,b2,b3⟩:=pC s _ y vy t' ry e';exact⟨t,t',a1,b1,a2,a3,b3,o.val s rfl⟩
 ·exact o.elim
theorem GH:fO G (uJ true) cC:=by
 intro E μ h H x y vx vy Q s rx ry o;unfold cC at o
 split at o
 ·rename_i t t' e e';obtain⟨a1,a2,a3⟩:=pC s _ x vx t rx e;obtain⟨b1,b2,b3⟩:=pC s _ y vy t' ry e';exact⟨t,t',a1,b1,a2,a3,b3,o.val s rfl⟩
 ·exact o.elim
end
def gM (g:Int->Int->Dv):Dv->Dv->Hs->Rs Dv
 | .int i,.int j,h=>.ok (g i j) h
 |_,_,_=>.bad
def jC (C:Int->Int->Bool) (g:Int->Int->Dv):Dv->Dv->Hs->Rs Dv
 | .int i,.int j,h=>if C i j=true then .ok (g i j) h else .bad
 |_,_,_=>.bad
section
variable{X:Cx}{G:Cfg}
theorem RS {f:Int->Int->Int}:fO G (iZ λi j=>.int (f i j)) (gM λi j=>.int (f i j)):=by
 intro E μ h H x y vx vy Q s rx ry o
 cases x with
 |int i=>
  cases y with
  |int j=>exact⟨i,j,rx,ry,o.val s rfl⟩
  |_=>exact o.elim
 |_=>exact o.elim
theorem nF {f:Int->Int->Bool}:fO G (iZ λi j=>.bl (f i j)) (gM λi j=>.bl (f i j)):=by
 intro E μ h H x y vx vy Q s rx ry o
 cases x with
 |int i=>
  cases y with
  |int j=>exact⟨i,j,rx,ry,o.val s rfl⟩
  |_=>exact o.elim
 |_=>exact o.elim
theorem uK {C:Int->Int->Prop}{B:Int->Int->Bool}{f:Int->Int->Int}(hB:∀i j,B i j=true->C i j):fO G (rI C λi j=>.int (f i j)) (jC B λi j=>.int (f i j)):=by
 intro E μ h H x y vx vy Q s rx ry o
 cases x with
 |int i=>
  cases y with
  |int j=>
   dsimp only[jC]at o
   split at o
   ·rename_i hb;exact⟨i,j,rx,ry,hB i j hb,o.val s rfl⟩
   ·exact o.elim
  |_=>exact o.elim
 |_=>exact o.elim
def jT (i:Int):Bool:=decide (-18446744073709551616<i)&&decide (i<18446744073709551616)
def pD (i j:Int):Bool:=jT i||jT j
theorem RT (i j:Int) (h:pD i j=true):CMul i j:=by
 unfold pD jT at h;unfold CMul;simp only[Bool.or_eq_true,cy,decide_eq_true_eq]at h
 rcases h with h|h
 ·exact .inl ⟨by omega,by omega⟩
 ·exact .inr ⟨by omega,by omega⟩
def pE (_ j:Int):Bool:=decide (0<j)
theorem RU (i j:Int) (h:pE i j=true):0<j:=by unfold pE at h;simpa using h
def qX (i j:Int):Bool:=decide (0<=j)&&decide (j<=1000000)&&decide (i.natAbs<18446744073709551616)
theorem RV (i j:Int) (h:qX i j=true):zI i j:=by unfold qX at h;unfold zI;simp only[cy,decide_eq_true_eq]at h;exact⟨h.1.1,h.1.2,by have:=h.2;omega⟩
def nG:Dv->Dv->Hs->Rs Dv
 | .int i,.int j,h=>.ok (.int (i+j)) h
 | .ref i,.ref j,h=>match getL h i,getL h j with
  |some xs,some ys=>lim (xs.length+ys.length) (.ok (.ref h.length) (h++[.lst (xs++ys)]))
  |_,_=>.bad
 | .tup xs,.tup ys,h=>if xs.isEmpty=true then .bad else lim (xs.length+ys.length) (.ok (.tup (xs++ys)) h)
 |_,_,_=>.bad
def AH (K:aq):R2:=λx y H Q=>(iZ λi j=>.int (i+j)) x y H Q∨FX x y H Q∨FL K x y H Q
theorem RW:OpR X (binaryOp .Add) (AH X.K):=op_add.or (op_cat.or QL)
theorem RX:fO G (AH G.K) nG:=by
 intro E μ h H x y vx vy Q s rx ry o
 cases x with
 |int i=>
  cases y with
  |int j=>exact .inl ⟨i,j,rx,ry,o.val s rfl⟩
  |_=>exact o.elim
 |ref i=>
  cases y with
  |ref j=>
   dsimp only[nG]at o
   cases g1:getL h i with
   |none=>rw[g1]at o;exact o.elim
   |some xs=>
    cases g2:getL h j with
    |none=>rw[g1,g2]at o;exact o.elim
    |some ys=>
     rw[g1,g2]at o;dsimp only at o;unfold lim at o
     split at o
     ·rename_i hl;obtain⟨vs,e1,r1⟩:=s.ob i _ (eG g1);obtain⟨ws,e2,r2⟩:=s.ob j _ (eG g2);obtain⟨_,rfl⟩:=rx;obtain⟨_,rfl⟩:=ry;exact .inr (.inl ⟨_,_,vs,ws,rfl,rfl,e1,e2,by rw[r1.length,r2.length];exact uE hl,λp hp=>nA s (r1.append r2) hp o⟩)
     ·exact o.elim
  |_=>exact o.elim
 |tup xs=>
  cases y with
  |tup ys=>
   dsimp only[nG]at o
   split at o
   ·exact o.elim
   ·rename_i hne;unfold lim at o
    split at o
    ·rename_i hl;obtain⟨a,vs,rfl,e1,r1⟩:=rx;obtain⟨b,ws,rfl,e2,r2⟩:=ry;refine .inr (.inr ⟨a,b,vs,ws,rfl,rfl,SqT.of e1,SqT.of e2, ?_,by rw[r1.length,r2.length];exact uE hl,λz=>?_,λ_ p hp=>?_⟩)
     ·intro z;subst z;have:=r1.length
      cases xs <;> simp_all
     ·subst z;have e3:ys=[]:=by have:=r2.length;cases ys <;> simp_all
      subst e3;refine o.val s ?_;rw[kr];exact⟨a,vs,rfl,e1,r1⟩
     ·exact o μ _ _ (Ext.same (cG hp)) (s.same (cG hp)) ⟨p,_,rfl,cK,RelDL.mono (Ext.same (cG hp)) _ _ (r1.append r2)⟩
    ·exact o.elim
  |_=>exact o.elim
 |_=>exact o.elim
def iI (xs:List Dv) (i:Int) (h:Hs):Rs Dv:=match eY xs i with
 |some d=>.ok d h
 |none=>.bad
def fH (scr:List Int):Dv->Dv->Hs->Rs Dv
 | .tup xs,.int i,h=>iI xs i h
 | .ref k,.int i,h=>match getL h k with
  |some xs=>iI xs i h
  |none=>.bad
 | .scr,.int i,h=>iI (scr.map Dv.int) i h
 |_,_,_=>.bad
theorem pF {μ:Nat->ai}{n:Nat}{H:Hp}:∀ns:List Int,RelDL G μ n H (ns.map Dv.int) (ns.map V.int)
 | []=>RelDL.nil
 |i::ns=>RelDL.cons rfl (pF ns)
theorem AI {E:XK}{μ:Nat->ai}{h:Hs}{H:Hp}{xs:List Dv}{vs:List V}{i:Int}{Q:VK}(s:Sim G μ h H) (r:RelDL G μ h.length H xs vs) (o:Out G E μ h.length H (iI xs i h) (RelD G) Q):∃v,eY vs i=some v/\Q v H:=by
 unfold iI at o
 cases e:eY xs i with
 |none=>rw[e]at o;exact o.elim
 |some d=>
  rw[e]at o;unfold eY at e ⊢;rw[r.length]
  cases q:ixN xs.length i with
  |none=>rw[q]at e;cases e
  |some j=>rw[q]at e;obtain⟨v,e1,r1⟩:=r.get e;exact⟨v,e1,o.val s r1⟩
theorem GI:fO G (zQ G.K) (fH G.scr):=by
 intro E μ h H x y vx vy Q s rx ry o
 cases y with
 |int i=>
  cases x with
  |tup xs=>obtain⟨a,vs,rfl,e1,r1⟩:=rx;obtain⟨v,e2,q⟩:=AI s r1 o;exact .inr (.inl ⟨a,vs,i,v,rfl,ry,SqT.of e1,e2,q⟩)
  |ref k=>
   dsimp only[fH]at o
   cases g:getL h k with
   |none=>rw[g]at o;exact o.elim
   |some xs=>rw[g]at o;obtain⟨vs,e1,r1⟩:=s.ob k _ (eG g);obtain⟨_,rfl⟩:=rx;obtain⟨v,e2,q⟩:=AI s r1 o;exact .inl ⟨_,vs,i,v,rfl,ry,SqL.of e1,e2,q⟩
  |scr=>obtain⟨rfl,hf⟩:=rx;obtain⟨v,e2,q⟩:=AI s (pF G.scr) o;exact .inl ⟨_,_,i,v,rfl,ry,hf.sq,e2,q⟩
  |_=>exact o.elim
 |_=>cases x <;> exact o.elim
theorem RY {E:XK}{a b:bu}{ma mb:M Dv}{pos:Pos}(ha:aK X G E a ma) (hb:aK X G E b mb) (hs:zP b:=by intro _ _;rfl):aK X G E (.Subscript a b pos) (m2 (fH G.scr) ma mb):=λhK=>PE.imp (FN (by have:=FR (X:=X);rw[hK]at this;exact this) (ha hK) (hb hK) hs) λ_ _ _ t=>qU GI t
theorem uL:dz "tuple" = some (.type "tuple"):=by decide +kernel
theorem qY:dz "list" = some (.type "list"):=by decide +kernel
theorem RZ:dz "max" = some (.builtin "max"):=by decide +kernel
theorem R0:dz "min" = some (.builtin "min"):=by decide +kernel
variable{E:XK}{aS:M (List Dv)}{e:bu}{es:List bu}{x:Str}{p pos:Pos}{id T:String}
def nI (G:Cfg) (r:List V->Hp->VK->Prop) (f:List Dv->Hs->Rs Dv):Prop:=∀(E:XK) (μ:Nat->ai) (h:Hs) (H:Hp) (xs:List Dv) (vs:List V) (Q:VK),Sim G μ h H->RelDL G μ h.length H xs vs->Out G E μ h.length H (f xs h) (RelD G) Q->r vs H Q
def aE (f:List Dv->Hs->Rs Dv) (ms:M (List Dv)):M Dv:=λρ h=>(ms ρ h).bind f
theorem GJ {r:List V->Hp->VK->Prop}{f:List Dv->Hs->Rs Dv}(hd:nI G r f) {σ:St}{H:Hp}{Q:VK}(t:gL G E (aE f aS) σ H Q):tV r (AE G E aS) σ H Q:=by obtain⟨μ,ρ,h,rs,s,o⟩:=t;exact iH rs s o λμ1 ds h1 vs H1 x1 rs1 s1 r1 o1=>hd E μ1 h1 H1 ds vs Q s1 r1 o1
theorem uM {r:List V->Hp->VK->Prop}{f:List Dv->Hs->Rs Dv}(hc:CallR X (.builtin id) r) (hd:nI G r f) (hg:Gl X x) (hm:X.mg x=none) (hv:dz x=some (.builtin id)) (ha:dZ X G E (e::es) aS) (hn:x ≠ "__name__" := by decide) (hdb:(x==("__debug__" : Str))=false:=by decide)
  (he:aw (e::es) X.env=(false,eval e X.env)::aw es X.env:=by rfl) (hpl:(backTo pos (aw es X.env)).any (·.1)=false:=by rfl):aK X G E (.Call (.Name x p) (e::es) [] pos) (aE f aS):=λhK=>
 PE.imp (oX hc hg hm hv (ha hK) hn hdb he hpl) λ_ _ _ t=>GJ hd t
theorem GK {r:List V->Hp->VK->Prop}{f:List Dv->Hs->Rs Dv}(hc:CallR X (.type T) r) (hd:nI G r f) (hg:Gl X x) (hm:X.mg x=none) (hv:dz x=some (.type T)) (ha:dZ X G E (e::es) aS) (hn:x ≠ "__name__" := by decide) (hdb:(x==("__debug__" : Str))=false:=by decide)
  (he:aw (e::es) X.env=(false,eval e X.env)::aw es X.env:=by rfl) (hpl:(backTo pos (aw es X.env)).any (·.1)=false:=by rfl):aK X G E (.Call (.Name x p) (e::es) [] pos) (aE f aS):=λhK=>
 PE.imp (mZ hc hg hm hv (ha hK) hn hdb he hpl) λ_ _ _ t=>GJ hd t
def eB (scr:List Int):Dv->Hs->Option (List Dv)
 | .tup xs,_=>some xs
 | .ref i,h=>getL h i
 | .scr,_=>some (scr.map Dv.int)
 |_,_=>none
def f1 (g:Dv->Hs->Rs Dv):List Dv->Hs->Rs Dv
 | [d],h=>g d h
 |_,_=>.bad
def fI (scr:List Int) (d:Dv) (h:Hs):Rs Dv:=match eB scr d h with
 |some xs=>.ok (.int xs.length) h
 |none=>.bad
theorem nJ {μ:Nat->ai}{n:Nat}{H:Hp}{d:Dv}{vs:List V}(r:RelDL G μ n H [d] vs):∃v,vs=[v]/\RelD G μ n H d v:=by rw[RelDL]at r;obtain⟨v,rr,rfl,h1,h2⟩:=r;rw[RelDL]at h2;subst h2;exact⟨v,rfl,h1⟩
theorem uN {r:V->Hp->VK->Prop}{g:Dv->Hs->Rs Dv}(hg:mD G r g):nI G (λxs H Q=>∃v,xs=[v]/\r v H Q) (f1 g):=by
 intro E μ h H xs vs Q s rr o
 match xs,rr,o with
 | [],_,o=>exact o.elim
 |_::_::_,_,o=>exact o.elim
 | [d],rr,o=>obtain⟨v,rfl,r1⟩:=nJ rr;exact⟨v,rfl,hg E μ h H d v Q s r1 o⟩
theorem uO {μ:Nat->ai}{n:Nat}{H:Hp}{d d':Dv}{vs:List V}(r:RelDL G μ n H [d,d'] vs):∃v v',vs=[v,v']/\RelD G μ n H d v/\RelD G μ n H d' v':=by rw[RelDL]at r;obtain⟨v,rr,rfl,h1,h2⟩:=r;obtain⟨v',rfl,h3⟩:=nJ h2;exact⟨v,v',rfl,h1,h3⟩
theorem AJ {μ:Nat->ai}{h:Hs}{H:Hp}{d:Dv}{v:V}{xs:List Dv}(s:Sim G μ h H) (r:RelD G μ h.length H d v) (e:eB G.scr d h=some xs):∃a vs,v=.ref a/\(SqL G.K H a vs∨SqT G.K H a vs)/\RelDL G μ h.length H xs vs:=by
 cases d with
 |tup ds=>cases e;obtain⟨a,vs,rfl,e1,r1⟩:=r;exact⟨a,vs,rfl,.inr (SqT.of e1),r1⟩
 |ref i=>obtain⟨_,rfl⟩:=r;obtain⟨vs,e1,r1⟩:=s.ob i _ (eG e);exact⟨_,vs,rfl,.inl (SqL.of e1),r1⟩
 |scr=>cases e;obtain⟨rfl,hf⟩:=r;exact⟨_,_,rfl,.inl hf.sq,pF _⟩
 |_=>cases e
def GL (K:aq):V->Hp->VK->Prop:=λx H Q=>∃p ys,x=.ref p/\(SqL K H p ys∨SqT K H p ys)/\Q (.int ys.length) H
theorem GN:mD G (GL G.K) (fI G.scr):=by
 intro E μ h H d v Q s r1 o;unfold fI at o
 cases e:eB G.scr d h with
 |none=>rw[e]at o;exact o.elim
 |some ys=>rw[e]at o;obtain⟨a,ws,rfl,hs,r2⟩:=AJ s r1 e;exact⟨a,ws,rfl,hs,by rw[r2.length];exact o.val s rfl⟩
theorem CallR.imp {f:af}{r r':List V->Hp->VK->Prop}(h:CallR X f r) (i:∀xs H Q,r' xs H Q->r xs H Q):CallR X f r':=λpins s σ H xs us Q I rv q=>h pins s σ H xs us Q I rv (i xs H Q q)
theorem GO (hg:Gl X "len") (hm:X.mg "len" = none) (ha:dZ X G E (e::es) aS)
  (he:aw (e::es) X.env=(false,eval e X.env)::aw es X.env:=by rfl) (hpl:(backTo pos (aw es X.env)).any (·.1)=false:=by rfl):aK X G E (.Call (.Name "len" p) (e::es) [] pos) (aE (f1 (fI G.scr)) aS):=λhK=>
 uM (CallR.imp (FT (X:=X)) λxs H Q ⟨v,h1,a,ys,h2,h3,h4⟩=>⟨a,ys,by rw[h1,h2],by rw[hK];exact h3,h4⟩) (uN GN) hg hm ye ha (by decide) (by decide) he hpl hK
def lF:List Dv->Hs->Rs Dv
 | [.int i,.int j],h=>.ok (.int (if j>i then j else i)) h
 |_,_=>.bad
def pG:List Dv->Hs->Rs Dv
 | [.int i,.int j],h=>.ok (.int (if j<i then j else i)) h
 |_,_=>.bad
theorem GP {f:List Dv->Hs->Rs Dv}{g:Int->Int->Int}(h2:∀i j h,f [.int i,.int j] h=.ok (.int (g i j)) h) (hb:∀xs h,(∀i j,xs≠[.int i,.int j])->f xs h=.bad):
  nI G (λxs H Q=>∃i j,xs=[.int i,.int j]/\Q (.int (g i j)) H) f:=by
 intro E μ h H xs vs Q s r o
 by_cases hx:∃i j,xs=[.int i,.int j]
 ·obtain⟨i,j,rfl⟩:=hx;obtain⟨v,v',rfl,r1,r2⟩:=uO r;rw[RelD]at r1 r2;subst r1;subst r2;rw[h2]at o;exact⟨i,j,rfl,o.val s rfl⟩
 ·rw[hb xs h (λi j e=>hx ⟨i,j,e⟩)]at o;exact o.elim
theorem R3:nI G (λxs H Q=>∃i j,xs=[.int i,.int j]/\Q (.int (if j>i then j else i)) H) lF:=GP (λ_ _ _=>rfl) λxs h hx=>by
 unfold lF;split
 ·rename_i i j;exact absurd rfl (hx i j)
 ·rfl
theorem R4:nI G (λxs H Q=>∃i j,xs=[.int i,.int j]/\Q (.int (if j<i then j else i)) H) pG:=GP (λ_ _ _=>rfl) λxs h hx=>by
 unfold pG;split
 ·rename_i i j;exact absurd rfl (hx i j)
 ·rfl
def hZ:Dv->Hs->Rs Dv
 | .tup xs,h=>.ok (.tup xs) h
 | .ref i,h=>match getL h i with
  |some xs=>.ok (.tup xs) h
  |none=>.bad
 |_,_=>.bad
def R5 (K:aq):V->Hp->VK->Prop:=λx H Q=>∃p ys,x=.ref p/\((SqL K H p ys/\∀l,H l=none->Q (.ref l) (upd H l (.tup ys)))∨(SqT K H p ys/\Q (.ref p) H))
theorem R6:mD G (R5 G.K) hZ:=by
 intro E μ h H d v Q s r1 o
 cases d with
 |tup ds=>have r1':=r1;obtain⟨a,ws,rfl,e1,r2⟩:=r1;exact⟨a,ws,rfl,.inr ⟨SqT.of e1,o.val s r1'⟩⟩
 |ref i=>
  dsimp only[hZ]at o
  cases g:getL h i with
  |none=>rw[g]at o;exact o.elim
  |some ys=>rw[g]at o;obtain⟨_,rfl⟩:=r1;obtain⟨ws,e1,r2⟩:=s.ob i _ (eG g);exact⟨_,ws,rfl,.inl ⟨SqL.of e1,λl hl=>o μ _ _ (Ext.same (cG hl)) (s.same (cG hl)) ⟨l,ws,rfl,cK,RelDL.mono (Ext.same (cG hl)) _ _ r2⟩⟩⟩
 |_=>exact o.elim
theorem uP (hg:Gl X "tuple") (hm:X.mg "tuple" = none) (ha:dZ X G E (e::es) aS)
  (he:aw (e::es) X.env=(false,eval e X.env)::aw es X.env:=by rfl) (hpl:(backTo pos (aw es X.env)).any (·.1)=false:=by rfl):aK X G E (.Call (.Name "tuple" p) (e::es) [] pos) (aE (f1 hZ) aS):=λhK=>
 GK (CallR.imp (QW (X:=X)) λxs H Q ⟨v,h1,a,ys,h2,h3⟩=>⟨a,ys,by rw[h1,h2],by rw[hK];exact h3⟩) (uN R6) hg hm uL ha (by decide) (by decide) he hpl hK
def pH (scr:List Int) (d:Dv) (h:Hs):Rs Dv:=match eB scr d h with
 |some xs=>.ok (.ref h.length) (h++[.lst xs])
 |none=>.bad
theorem R7:mD G (λx H Q=>∃p ys,x=.ref p/\(SqL G.K H p ys∨SqT G.K H p ys)/\∀l,H l=none->Q (.ref l) (upd H l (.lst ys))) (pH G.scr):=by
 intro E μ h H d v Q s r1 o;unfold pH at o
 cases e:eB G.scr d h with
 |none=>rw[e]at o;exact o.elim
 |some ys=>rw[e]at o;obtain⟨a,ws,rfl,hs,r2⟩:=AJ s r1 e;exact⟨a,ws,rfl,hs,λl hl=>nA s r2 hl o⟩
theorem GQ (hc:X.calm=true) (hg:Gl X "max") (hm:X.mg "max" = none) (ha:dZ X G E (e::es) aS)
  (he:aw (e::es) X.env=(false,eval e X.env)::aw es X.env:=by rfl) (hpl:(backTo pos (aw es X.env)).any (·.1)=false:=by rfl):aK X G E (.Call (.Name "max" p) (e::es) [] pos) (aE lF aS):=
 uM (PM hc) R3 hg hm RZ ha (by decide) (by decide) he hpl
theorem R8 (hc:X.calm=true) (hg:Gl X "min") (hm:X.mg "min" = none) (ha:dZ X G E (e::es) aS)
  (he:aw (e::es) X.env=(false,eval e X.env)::aw es X.env:=by rfl) (hpl:(backTo pos (aw es X.env)).any (·.1)=false:=by rfl):aK X G E (.Call (.Name "min" p) (e::es) [] pos) (aE pG aS):=
 uM (PN hc) R4 hg hm R0 ha (by decide) (by decide) he hpl
end
inductive Sr where
 |nx (ρ:Ev) (h:Hs)|rt (d:Dv) (h:Hs)|bk (ρ:Ev) (h:Hs)|ct (ρ:Ev) (h:Hs)|ex (c:Nat) (h:Hs)|bad
abbrev MS:=Ev->Hs->Sr
def SOut (G:Cfg) (E:XK) (μ:Nat->ai) (n:Nat) (H:Hp) (r:Sr) (D:Ends):Prop:=match r with
 | .nx ρ h'=>∀μ' H' σ',Ext μ n H μ' h'.length H'->Sim G μ' h' H'->RelS G μ' h'.length H' ρ σ'->D.nx σ' H'
 | .bk ρ h'=>∀μ' H' σ',Ext μ n H μ' h'.length H'->Sim G μ' h' H'->RelS G μ' h'.length H' ρ σ'->D.bk σ' H'
 | .ct ρ h'=>∀μ' H' σ',Ext μ n H μ' h'.length H'->Sim G μ' h' H'->RelS G μ' h'.length H' ρ σ'->D.ct σ' H'
 | .rt d h'=>∀μ' H' v,Ext μ n H μ' h'.length H'->Sim G μ' h' H'->RelD G μ' h'.length H' d v->D.rt v H'
 | .ex c h'=>∀μ' H' u,Ext μ n H μ' h'.length H'->Sim G μ' h' H'->uC G H' c u->E u none H'
 | .bad=>False
theorem SOut.ext {G:Cfg}{E:XK}{μ μ1:Nat->ai}{n n1:Nat}{H H1:Hp}{r:Sr}{D:Ends}(o:SOut G E μ n H r D) (x:Ext μ n H μ1 n1 H1):SOut G E μ1 n1 H1 r D:=by
 cases r with
 |nx ρ h'=>exact λμ' H' σ' y=>o μ' H' σ' (x.trans y)
 |bk ρ h'=>exact λμ' H' σ' y=>o μ' H' σ' (x.trans y)
 |ct ρ h'=>exact λμ' H' σ' y=>o μ' H' σ' (x.trans y)
 |rt d h'=>exact λμ' H' σ' y=>o μ' H' σ' (x.trans y)
 |ex c h'=>exact λμ' H' σ' y=>o μ' H' σ' (x.trans y)
 |bad=>exact o
def uQ (G:Cfg) (E:XK) (m:MS):TS:=λD σ H=>∃μ ρ h,RelS G μ h.length H ρ σ/\Sim G μ h H/\SOut G E μ h.length H (m ρ h) D
def iJ (X:Cx) (G:Cfg) (E:XK) (st:gv) (m:MS):Prop:=X.K=G.K->PS X st (uQ G E m)
def iK (X:Cx) (G:Cfg) (E:XK) (st:List gv) (m:MS):Prop:=X.K=G.K->PSs X st (uQ G E m)
theorem PS.imp {X:Cx}{e:gv}{t t':TS}(h:PS X e t) (i:∀D σ H,t' D σ H->t D σ H):PS X e t':=λpins s σ H D I q=>h pins s σ H D I (i D σ H q)
theorem PSs.imp {X:Cx}{e:List gv}{t t':TS}(h:PSs X e t) (i:∀D σ H,t' D σ H->t D σ H):PSs X e t':=λpins s σ H D I q=>h pins s σ H D I (i D σ H q)
def Rs.thenS {α:Type}(r:Rs α) (f:α->Hs->Sr):Sr:=match r with
 | .ok a h=>f a h
 | .ex c h=>.ex c h
 | .bad=>.bad
@[simp] theorem Rs.thenS_ok {α:Type}(a:α) (h:Hs) (f:α->Hs->Sr):(Rs.ok a h).thenS f=f a h:=rfl
@[simp] theorem Rs.thenS_ex {α:Type}(c:Nat) (h:Hs) (f:α->Hs->Sr):(Rs.ex c h).thenS f=.ex c h:=rfl
@[simp] theorem Rs.thenS_bad {α:Type}(f:α->Hs->Sr):(Rs.bad).thenS f=.bad:=rfl
theorem SOut.thenS {α β:Type}{G:Cfg}{E:XK}{μ:Nat->ai}{n:Nat}{H:Hp}{r:Rs α}{f:α->Hs->Sr}{D:Ends}{R:(Nat->ai)->Nat->Hp->α->β->Prop}
  (o:SOut G E μ n H (r.thenS f) D):Out G E μ n H r R λv H1=>∃μ1 d h1,Ext μ n H μ1 h1.length H1/\Sim G μ1 h1 H1/\R μ1 h1.length H1 d v/\SOut G E μ1 h1.length H1 (f d h1) D:=by
 cases r with
 |bad=>exact o
 |ex c h'=>exact o
 |ok d h'=>exact λμ1 H1 v x1 s1 r1=>⟨μ1,d,h',x1,s1,r1,SOut.ext o x1⟩
section
variable{X:Cx}{G:Cfg}{E:XK}{st:gv}{rest:List gv}{m u:MS}{e:bu}{me:M Dv}{pos:Pos}
theorem mG {m:M Dv}{σ:St}{H:Hp}{f:Dv->Hs->Sr}{D:Ends}{Q1:V->Hp->Prop}{μ:Nat->ai}{ρ:Ev}{h:Hs}(rs:RelS G μ h.length H ρ σ) (s:Sim G μ h H) (o:SOut G E μ h.length H ((m ρ h).thenS f) D)
  (k:∀μ1 d h1 v H1,Ext μ h.length H μ1 h1.length H1->RelS G μ1 h1.length H1 ρ σ->Sim G μ1 h1 H1->RelD G μ1 h1.length H1 d v->SOut G E μ1 h1.length H1 (f d h1) D->Q1 v H1):gL G E m σ H Q1:=
 ⟨μ,ρ,h,rs,s,(o.thenS (R:=RelD G)).mono λv H1 ⟨μ1,d,h1,x,s1,r1,o1⟩=>k μ1 d h1 v H1 x (rs.mono x) s1 r1 o1⟩
theorem GR {m:M Bool}{σ:St}{H:Hp}{f:Bool->Hs->Sr}{D:Ends}{Q1:Bool->Hp->Prop}{μ:Nat->ai}{ρ:Ev}{h:Hs}(rs:RelS G μ h.length H ρ σ) (s:Sim G μ h H) (o:SOut G E μ h.length H ((m ρ h).thenS f) D)
  (k:∀μ1 b h1 H1,Ext μ h.length H μ1 h1.length H1->RelS G μ1 h1.length H1 ρ σ->Sim G μ1 h1 H1->SOut G E μ1 h1.length H1 (f b h1) D->Q1 b H1):gX G E m σ H Q1:=
 ⟨μ,ρ,h,rs,s,(o.thenS (R:=RB)).mono λv H1 ⟨μ1,d,h1,x,s1,r1,o1⟩=>by have e:v=d:=r1;subst e;exact k μ1 v h1 H1 x (rs.mono x) s1 o1⟩
def bH:MS:=λρ h=>.nx ρ h
def aL (m u:MS):MS:=λρ h=>match m ρ h with
 | .nx ρ1 h1=>u ρ1 h1
 |r=>r
theorem dW:iK X G E [] bH:=λ_=>PSs.imp N1 λD σ H ⟨μ,ρ,h,rs,s,o⟩=>o μ H σ Ext.refl s rs
theorem bB (h1:iJ X G E st m) (h2:iK X G E rest u):iK X G E (st::rest) (aL m u):=λhK=>PSs.imp (N2 (h1 hK) (h2 hK)) λD σ H ⟨μ,ρ,h,rs,s,o⟩=>by
 refine⟨μ,ρ,h,rs,s, ?_⟩;unfold aL at o
 cases q:m ρ h with
 |nx ρ1 h1=>rw[q]at o;exact λμ1 H1 σ1 x1 s1 rs1=>⟨μ1,ρ1,h1,rs1,s1,SOut.ext o x1⟩
 |bk ρ1 h1=>rw[q]at o;exact o
 |ct ρ1 h1=>rw[q]at o;exact o
 |rt ρ1 h1=>rw[q]at o;exact o
 |ex ρ1 h1=>rw[q]at o;exact o
 |bad=>rw[q]at o;exact o
theorem bC (h1:iJ X G E st m):iK X G E [st] m:=λhK=>EW (h1 hK)
def eN (me:M Dv):MS:=λρ h=>(me ρ h).thenS λ_ h1=>.nx ρ h1
theorem nK (he:aK X G E e me) (hs:swapsWith e none pos.line X.env=pure false:=by rfl):iJ X G E (.Expr e pos) (eN me):=λhK=>PS.imp (N4 (he hK) hs) λD σ H ⟨μ,ρ,h,rs,s,o⟩=>mG rs s o λμ1 d h1 v H1 x1 rs1 s1 r1 o1=>o1 μ1 H1 σ Ext.refl s1 rs1
def aO (me:M Dv):MS:=λρ h=>(me ρ h).thenS λd h1=>.rt d h1
theorem bQ (he:aK X G E e me):iJ X G E (.Return (some e) pos) (aO me):=λhK=>PS.imp (N6 (he hK)) λD σ H ⟨μ,ρ,h,rs,s,o⟩=>mG rs s o λμ1 d h1 v H1 x1 rs1 s1 r1 o1=>o1 μ1 H1 v Ext.refl s1 r1
def aW (c:M Bool) (t u:MS):MS:=λρ h=>(c ρ h).thenS λb h1=>if b=true then t ρ h1 else u ρ h1
theorem dX {c:bu}{a b:List gv}{mc:M Bool}(hc:fV X G E c mc) (ha:iK X G E a m) (hb:iK X G E b u):iJ X G E (.If c a b pos) (aW mc m u):=λhK=>PS.imp (N8 (hc hK) (ha hK) (hb hK)) λD σ H ⟨μ,ρ,h,rs,s,o⟩=>
 GR rs s o λμ1 k h1 H1 x1 rs1 s1 o1=>by
  cases k with
  |true=>rw[if_pos rfl]at o1 ⊢;exact⟨μ1,ρ,h1,rs1,s1,o1⟩
  |false=>rw[if_neg (by decide)]at o1 ⊢;exact⟨μ1,ρ,h1,rs1,s1,o1⟩
theorem RelS.set {μ:Nat->ai}{n:Nat}{H:Hp}{ρ:Ev}{σ:St}{d:Dv}{v:V}(rs:RelS G μ n H ρ σ) (i:Nat) (r:RelD G μ n H d v):RelS G μ n H (ρ.set i (some d)) (σ.set i (some v)):=⟨by rw[kv,kv];exact rs.len,λj d' e=>by
 have hl:=rs.len
 by_cases hij:i=j
 ·subst hij;have hi:i<ρ.length:=by have:=(az.mp e).1;simpa using this
  rw[dk hi]at e;cases e;exact⟨v,dk (by omega),r⟩
 ·rw[fq hij]at e ⊢;exact rs.at_ j d' e⟩
abbrev dC:=Dv->Ev->Option Ev
def qZ (G:Cfg) (st:dC):TG:=λv σ H Q=>∃μ ρ h d ρ',RelS G μ h H ρ σ/\RelD G μ h H d v/\st d ρ=some ρ'/\∀σ',RelS G μ h H ρ' σ'->Q σ' H
def lG (X:Cx) (G:Cfg) (tg:bu) (st:dC):Prop:=X.K=G.K->PG X tg (qZ G st)
theorem PG.imp {tg:bu}{t t':TG}(h:PG X tg t) (i:∀v σ H Q,t' v σ H Q->t v σ H Q):PG X tg t':=λpins s σ H v u Q I r q=>h pins s σ H v u Q I r (i v σ H Q q)
theorem PGs.imp {tg:List bu}{t t':lD}(h:PGs X tg t) (i:∀v σ H Q,t' v σ H Q->t v σ H Q):PGs X tg t':=λpins s σ H v u Q I r q=>h pins s σ H v u Q I r (i v σ H Q q)
def aG (i:Nat):dC:=λd ρ=>some (ρ.set i (some d))
theorem cP {i:Nat}{x:Str}(hN:X.N.Nodup) (hi:X.N[i]?=some x) (hx:lW X.env.scope x) (hf:X.fn x=true∨X.env.scope.names.lookup x=some .local:=by first|exact .inl rfl|exact .inr rfl|assumption):lG X G (.Name x pos) (aG i):=λ_=>PG.imp (N9 hN hi hx hf) λv σ H Q ⟨μ,ρ,h,d,ρ',rs,r,e,k⟩=>by cases e;exact k _ (rs.set i r)
abbrev mH:=List Dv->Ev->Option Ev
def R9 (G:Cfg) (st:mH):lD:=λvs σ H Q=>∃μ ρ h ds ρ',RelS G μ h H ρ σ/\RelDL G μ h H ds vs/\st ds ρ=some ρ'/\∀σ',RelS G μ h H ρ' σ'->Q σ' H
def uR (X:Cx) (G:Cfg) (tg:List bu) (st:mH):Prop:=X.K=G.K->PGs X tg (R9 G st)
def fP:mH:=λds ρ=>match ds with
 | []=>some ρ
 |_=>none
def cQ (s:dC) (t:mH):mH:=λds ρ=>match ds with
 |d::r=>match s d ρ with
  |some ρ1=>t r ρ1
  |none=>none
 | []=>none
theorem nL:uR X G [] fP:=λ_=>PGs.imp OC λvs σ H Q ⟨μ,ρ,h,ds,ρ',rs,r,e,k⟩=>by
 cases ds with
 |nil=>cases e;rw[RelDL]at r;subst r;exact⟨rfl,k _ rs⟩
 |cons d r=>cases e
theorem iA {tg:bu}{tgs:List bu}{s:dC}{t:mH}(h1:lG X G tg s) (h2:uR X G tgs t)
  (hs:(assignEach (tg::tgs) X.env).map (·.2)=assign tg X.env::(assignEach tgs X.env).map (·.2):=by rfl):uR X G (tg::tgs) (cQ s t):=λhK=>PGs.imp (OD (h1 hK) (h2 hK) hs) λvs σ H Q ⟨μ,ρ,h,ds,ρ',rs,r,e,k⟩=>by
 cases ds with
 |nil=>cases e
 |cons d ds=>
  rw[RelDL]at r;obtain⟨v,rr,rfl,r1,r2⟩:=r;unfold cQ at e;dsimp only at e
  cases q:s d ρ with
  |none=>rw[q]at e;cases e
  |some ρ1=>rw[q]at e;exact⟨v,rr,rfl,μ,ρ,h,d,ρ1,rs,r1,q,λσ1 rs1=>⟨μ,ρ1,h,ds,ρ',rs1,r2,e,k⟩⟩
def fJ (n:Nat) (t:mH):dC:=λd ρ=>match d with
 | .tup ds=>if ds.length=n then t ds ρ else none
 |_=>none
theorem nM {tgs:List bu}{k:Nat}{t:mH}{n:Nat}(hc:X.calm=true) (h:uR X G tgs t)
  (hn:(assignEach tgs X.env).length=n:=by rfl) (hst:(assignEach tgs X.env).findIdx? (·.1)=none:=by rfl):lG X G (.Tuple tgs k pos) (fJ n t):=λhK=>
 PG.imp (OF hc (h hK) hn hst) λv σ H Q ⟨μ,ρ,hh,d,ρ',rs,r,e,kk⟩=>by
  cases d with
  |tup ds=>
   dsimp only[fJ]at e
   split at e
   ·rename_i hl;obtain⟨a,vs,rfl,e1,r1⟩:=r;exact⟨a,vs,rfl,SqT.of e1,by rw[r1.length];exact hl,μ,ρ,hh,ds,ρ',rs,r1,e,kk⟩
   ·cases e
  |_=>cases e
def aJ (me:M Dv) (st:dC):MS:=λρ h=>(me ρ h).thenS λd h1=>match st d ρ with
 |some ρ1=>.nx ρ1 h1
 |none=>.bad
theorem SA {st:dC}{σ:St}{H:Hp}{D:Ends}(t:uQ G E (aJ me st) D σ H):tQ (gL G E me) (qZ G st) D σ H:=by
 obtain⟨μ,ρ,h,rs,s,o⟩:=t;refine mG rs s o λμ1 d h1 v H1 x1 rs1 s1 r1 o1=>?_
 cases q:st d ρ with
 |none=>rw[q]at o1;exact o1.elim
 |some ρ1=>rw[q]at o1;exact⟨μ1,ρ,h1.length,d,ρ1,rs1,r1,q,λσ' rs'=>o1 μ1 H1 σ' Ext.refl s1 rs'⟩
theorem SD {tg:bu}{st:dC}(he:aK X G E e me) (hg:lG X G tg st) (hs:swapsWithSole [tg] e pos.line X.env=pure false:=by rfl) (hw:swappedStores [tg] e X.env=pure none:=by rfl)
  (h1:(assignEach [tg] X.env).map (·.2)=[assign tg X.env]:=by rfl):iJ X G E (.Assign [tg] e pos) (aJ me st):=λhK=>PS.imp (EY (he hK) (hg hK) hs hw h1) λ_ _ _ t=>SA t
theorem cD {i:Nat}{x:Str}{pos':Pos}(hN:X.N.Nodup) (hi:X.N[i]?=some x) (hx:lW X.env.scope x) (he:aK X G E e me) (hs:swapsWith e (some (.Name x pos')) pos.line X.env=pure false:=by rfl) (hf:X.fn x=true∨X.env.scope.names.lookup x=some .local:=by first|exact .inl rfl|exact .inr rfl|assumption):
  iJ X G E (.Assign [.Name x pos'] e pos) (aJ me (aG i)):=λhK=>PS.imp (zD hN hi hx (he hK) hs hf) λD σ H t=>by
 obtain⟨μ,ρ,h,rs,s,o⟩:=t;exact mG rs s o λμ1 d h1 v H1 x1 rs1 s1 r1 o1=>o1 μ1 H1 _ Ext.refl s1 (rs1.set i r1)
end
structure Src where
 n:Nat
 get:Nat->Hs->Option Dv
 fin:Hs->Bool
def ItOk (G:Cfg) (μ0:Nat->ai) (n0:Nat) (H0:Hp) (src:Src) (J:It):Prop:=
 ∀(k:Nat) (μ:Nat->ai) (h:Hs) (H:Hp),Ext μ0 n0 H0 μ h.length H->Sim G μ h H->
  (k<src.n->∀d,src.get k h=some d->J.go k H/\∀x H',J.yld k H x H'->Same H H'/\RelD G μ h.length H' d x)/\(k=src.n->src.fin h=true->J.stop k H)
def AK (G:Cfg) (E:XK) (m:M Src):TI:=λσ H R=>∃μ ρ h,RelS G μ h.length H ρ σ/\Sim G μ h H/\Out G E μ h.length H (m ρ h) (ItOk G) R
def kK (X:Cx) (G:Cfg) (E:XK) (tg iter:bu) (m:M Src):Prop:=X.K=G.K->PI X tg iter (AK G E m)
theorem PI.imp {X:Cx}{tg iter:bu}{t t':TI}(h:PI X tg iter t) (i:∀σ H R,t' σ H R->t σ H R):PI X tg iter t':=λpins s σ H R I q=>h pins s σ H R I (i σ H R q)
def dI (xs:List Dv):Src:=⟨xs.length,λk _=>xs[k]?,λ_=>true⟩
def eQ (i n:Nat):Src:=⟨n,λk h=>match getL h i with
 |some xs=>if xs.length=n then xs[k]? else none
 |none=>none,λh=>match getL h i with
 |some xs=>xs.length==n
 |none=>false⟩
def cH (lo hi:Int):Src:=⟨(hi - lo).toNat,λk _=>some (.int (lo+k)),λ_=>true⟩
def cI (f:Dv->Hs->Rs Src) (m:M Dv):M Src:=λρ h=>(m ρ h).bind f
section
variable{X:Cx}{G:Cfg}{E:XK}{tg e a b:bu}{me ma mb:M Dv}{pos p:Pos}
def fK:Dv->Hs->Rs Src
 | .ref i,h=>match getL h i with
  |some xs=>.ok (eQ i xs.length) h
  |none=>.bad
 |_,_=>.bad
def fQ:Dv->Hs->Rs Src
 | .tup xs,h=>.ok (dI xs) h
 |_,_=>.bad
theorem rA (he:aK X G E e me):kK X G E tg e (cI fK me):=λhK=>PI.imp (OP (he hK)) λσ H R ⟨μ,ρ,h,rs,s,o⟩=>eO rs s o λμ1 x h1 vx H1 x1 rs1 s1 r1 o1=>by
 rw[hK]
 cases x with
 |ref i=>
  obtain⟨hi,rfl⟩:=r1;dsimp only[fK]at o1
  cases g:getL h1 i with
  |none=>rw[g]at o1;exact o1.elim
  |some xs=>
   rw[g]at o1;obtain⟨vs,e1,r2⟩:=s1.ob i _ (eG g);refine⟨_,rfl,⟨vs,SqL.of e1⟩,o1.val s1 λk μ2 h2 H2 x2 s2=>?_⟩;have emu:=x2.mu i hi;constructor
   ·intro hk d hd;dsimp only[eQ]at hd
    cases g2:getL h2 i with
    |none=>rw[g2]at hd;cases hd
    |some ys=>
     rw[g2]at hd;dsimp only at hd
     split at hd
     ·obtain⟨ws,e2,r3⟩:=s2.ob i _ (eG g2);rw[emu]at e2;obtain⟨v,ev,rv⟩:=r3.get hd;refine⟨⟨ws,v,SqL.of e2,ev⟩,λx H' hy=>?_⟩;obtain⟨rfl,hy⟩:=hy;have:=hy ws (SqL.of e2);rw[ev]at this;cases this;exact⟨Same.refl _,rv⟩
     ·cases hd
   ·intro hk hf;dsimp only[eQ]at hf
    cases g2:getL h2 i with
    |none=>rw[g2]at hf;cases hf
    |some ys=>
     rw[g2]at hf;obtain⟨ws,e2,r3⟩:=s2.ob i _ (eG g2);rw[emu]at e2;refine⟨ws,SqL.of e2, ?_⟩;have h3:ys.length=xs.length:=by simpa using hf
     rw[r3.length,h3,hk];exact ak _
 |_=>exact o1.elim
theorem ItOk.tup {μ:Nat->ai}{n:Nat}{H:Hp}{a:ai}{vs:List V}{xs:List Dv}{K:aq}(e:H a=some (.tup vs)) (r:RelDL G μ n H xs vs) (hi:∀(X:Cx),True):ItOk G μ n H (dI xs) (zF K a):=by
 intro k μ2 h2 H2 x2 s2;have e2:=x2.im a (.tup vs) trivial e;have r2:=RelDL.mono x2 _ _ r;have inj:∀ws,SqT K H2 a ws->ws=vs->True:=λ_ _ _=>trivial;constructor
 ·intro hk d hd;obtain⟨v,ev,rv⟩:=r2.get hd;refine⟨⟨vs,v,SqT.of e2,ev⟩,λx H' hy=>?_⟩;obtain⟨rfl,hy⟩:=hy;have:=hy vs (SqT.of e2);rw[ev]at this;cases this;exact⟨Same.refl _,rv⟩
 ·intro hk _;exact⟨vs,SqT.of e2,by rw[r2.length,hk];exact ak _⟩
theorem nO (he:aK X G E e me):kK X G E tg e (cI fQ me):=λhK=>PI.imp (OQ (he hK)) λσ H R ⟨μ,ρ,h,rs,s,o⟩=>eO rs s o λμ1 x h1 vx H1 x1 rs1 s1 r1 o1=>by
 cases x with
 |tup xs=>obtain⟨a,vs,rfl,e1,r2⟩:=r1;exact⟨a,rfl,⟨vs,SqT.of e1⟩,o1.val s1 (ItOk.tup e1 r2 λ_=>trivial)⟩
 |_=>exact o1.elim
def jU (i:Int):Bool:=decide (-4611686018427387904<=i)&&decide (i<4611686018427387904)
def cJ:List Dv->Hs->Rs Src
 | [.int j],h=>if jU j=true then .ok (cH 0 j) h else .bad
 |_,_=>.bad
def jD:List Dv->Hs->Rs Src
 | [.int i,.int j],h=>if jU i=true/\jU j=true then .ok (cH i j) h else .bad
 |_,_=>.bad
def aS (f:List Dv->Hs->Rs Src) (ms:M (List Dv)):M Src:=λρ h=>(ms ρ h).bind f
theorem ItOk.rng {μ:Nat->ai}{n:Nat}{H:Hp}(lo hi:Int):ItOk G μ n H (cH lo hi) (qL lo (hi - lo).toNat):=by
 intro k μ2 h2 H2 x2 s2;constructor
 ·intro hk d hd;cases hd;exact⟨hk,λx H' hy=>by obtain⟨rfl,rfl⟩:=hy;exact⟨Same.refl _,rfl⟩⟩
 ·intro hk _;exact qe hk.symm
variable{ms:M (List Dv)}
theorem iL (hg:Gl X "range") (hm:X.mg "range" = none) (ha:dZ X G E [a] ms) (hs:aw [a] X.env=[(false,eval a X.env)]:=by rfl):kK X G E tg (.Call (.Name "range" p) [a] [] pos) (aS cJ ms):=λhK=>
 PI.imp (OT hg hm (ha hK) hs) λσ H R ⟨μ,ρ,h,rs,s,o⟩=>iH rs s o λμ1 ds h1 vs H1 x1 rs1 s1 r1 o1=>by
  unfold cJ at o1
  split at o1
  ·rename_i j
   split at o1
   ·rename_i hj;obtain⟨v,rfl,rv⟩:=nJ r1;rw[RelD]at rv;subst rv;simp only[jU,cy,decide_eq_true_eq]at hj;refine⟨j,rfl,by omega,by omega, ?_⟩;have:=o1.val s1 (ItOk.rng (G:=G) (μ:=μ1) (n:=h1.length) (H:=H1) 0 j);rw[Int.sub_zero]at this;exact this
   ·exact o1.elim
  ·exact o1.elim
theorem GS (hg:Gl X "range") (hm:X.mg "range" = none) (ha:dZ X G E [a,b] ms) (hs:aw [a,b] X.env=[(false,eval a X.env),(false,eval b X.env)]:=by rfl) (hs2:aw [b] X.env=[(false,eval b X.env)]:=by rfl):kK X G E tg (.Call (.Name "range" p) [a,b] [] pos) (aS jD ms):=λhK=>
 PI.imp (OU hg hm (ha hK) hs hs2) λσ H R ⟨μ,ρ,h,rs,s,o⟩=>iH rs s o λμ1 ds h1 vs H1 x1 rs1 s1 r1 o1=>by
  unfold jD at o1
  split at o1
  ·rename_i i j
   split at o1
   ·rename_i hj;obtain⟨v,v',rfl,rv,rv'⟩:=uO r1;rw[RelD]at rv rv';subst rv;subst rv';simp only[jU,cy,decide_eq_true_eq]at hj;exact⟨i,j,rfl,⟨by omega,by omega,by omega,by omega⟩,o1.val s1 (ItOk.rng (G:=G) (μ:=μ1) (n:=h1.length) (H:=H1) i j)⟩
   ·exact o1.elim
  ·exact o1.elim
end
def gO (src:Src) (st:dC) (body:MS):Nat->Nat->MS
 |0,_=>λρ h=>if src.fin h=true then .nx ρ h else .bad
 |f+1,k=>λρ h=>match src.get k h with
  |none=>.bad
  |some d=>match st d ρ with
   |none=>.bad
   |some ρ1=>match body ρ1 h with
    | .nx ρ2 h2=>gO src st body f (k+1) ρ2 h2
    | .ct ρ2 h2=>gO src st body f (k+1) ρ2 h2
    | .bk ρ2 h2=>.nx ρ2 h2
    |r=>r
def dS (mi:M Src) (st:dC) (body:MS):MS:=λρ h=>(mi ρ h).thenS λsrc h1=>gO src st body src.n 0 ρ h1
section
variable{X:Cx}{G:Cfg}{E:XK}{tg iter:bu}{body:List gv}{mi:M Src}{st:dC}{mb:MS}{pos:Pos}
theorem jV (hp:zi (model X.prog X.w) X.A X.env X.xe) (hc:X.calm=true) (hi:kK X G E tg iter mi) (hg:lG X G tg st) (hb:iK X G E body mb)
  (hs:∀x,foldedSetIterable iter X.env x=pure x:=by intro _;rfl):iJ X G E (.For tg iter body [] pos) (dS mi st mb):=λhK=>PS.imp (OW hp hc (hi hK) (hg hK) (hb hK) hs) λD σ H ⟨μ,ρ,h,rs,s,o⟩=>by
 refine⟨μ,ρ,h,rs,s,(o.thenS (R:=ItOk G)).mono λJ H1 ⟨μ1,src,h1,x1,s1,ok,o1⟩=>?_⟩;refine⟨λi m σ H=>∃μ2 ρ2 h2,Ext μ1 h1.length H1 μ2 h2.length H/\RelS G μ2 h2.length H ρ2 σ/\Sim G μ2 h2 H/\i+m=src.n/\SOut G E μ2 h2.length H (gO src st mb m i ρ2 h2) D,⟨src.n,μ1,ρ,h1,Ext.refl,rs.mono x1,s1,Nat.zero_add _,o1⟩, ?_⟩
 rintro i m σ2 H2 ⟨μ2,ρ2,h2,x2,rs2,s2,him,o2⟩
 cases m with
 |zero=>
  unfold gO at o2
  split at o2
  ·rename_i hf;exact .inl ⟨(ok i μ2 h2 H2 x2 s2).2 (by omega) hf,o2 μ2 H2 σ2 Ext.refl s2 rs2⟩
  ·exact o2.elim
 |succ m=>
  unfold gO at o2
  cases q:src.get i h2 with
  |none=>rw[q]at o2;exact o2.elim
  |some d=>
   rw[q]at o2;dsimp only at o2
   cases q2:st d ρ2 with
   |none=>rw[q2]at o2;exact o2.elim
   |some ρ3=>
    rw[q2]at o2;dsimp only at o2;obtain⟨go,yl⟩:=(ok i μ2 h2 H2 x2 s2).1 (by omega) d q;refine .inr ⟨go,λσ' H'=>∃μ3 ρ4 h4,Ext μ1 h1.length H1 μ3 h4.length H'/\RelS G μ3 h4.length H' ρ4 σ'/\Sim G μ3 h4 H'/\(i+1)+m=src.n/\SOut G E μ3 h4.length H' (gO src st mb m (i+1) ρ4 h4) D,λσ' H' z=>⟨m,kd m,z⟩,λx H' hy=>?_⟩;obtain⟨sm,rx⟩:=yl x H' hy;have xs:Ext μ2 h2.length H2 μ2 h2.length H':=Ext.same sm;refine⟨μ2,ρ2,h2.length,d,ρ3,rs2.mono xs,rx,q2,λσ3 rs3=>⟨μ2,ρ3,h2,rs3,s2.same sm, ?_⟩⟩;have step:∀ρ5 h5,SOut G E μ2 h2.length H2 (gO src st mb m (i+1) ρ5 h5) D->∀μ6 H6 σ6,Ext μ2 h2.length H' μ6 h5.length H6->Sim G μ6 h5 H6->RelS G μ6 h5.length H6 ρ5 σ6->
      ∃μ3 ρ4 h4,Ext μ1 h1.length H1 μ3 h4.length H6/\RelS G μ3 h4.length H6 ρ4 σ6/\Sim G μ3 h4 H6/\(i+1)+m=src.n/\SOut G E μ3 h4.length H6 (gO src st mb m (i+1) ρ4 h4) D:=
     λρ5 h5 o5 μ6 H6 σ6 x6 s6 rs6=>⟨μ6,ρ5,h5,(x2.trans xs).trans x6,rs6,s6,by omega,o5.ext (xs.trans x6)⟩
    cases q3:mb ρ3 h2 with
    |nx ρ5 h5=>rw[q3]at o2;exact step ρ5 h5 o2
    |ct ρ5 h5=>rw[q3]at o2;exact step ρ5 h5 o2
    |bk ρ5 h5=>rw[q3]at o2;exact λμ6 H6 σ6 x6 s6 rs6=>o2 μ6 H6 σ6 (xs.trans x6) s6 rs6
    |rt d5 h5=>rw[q3]at o2;exact λμ6 H6 σ6 x6 s6 rs6=>o2 μ6 H6 σ6 (xs.trans x6) s6 rs6
    |ex d5 h5=>rw[q3]at o2;exact λμ6 H6 σ6 x6 s6 rs6=>o2 μ6 H6 σ6 (xs.trans x6) s6 rs6
    |bad=>rw[q3]at o2;exact o2.elim
end
abbrev MC:=Ev->Hs->List Dv->Rs (Ev×List Dv)
def bS (me:M Dv):MC:=λρ h acc=>match me ρ h with
 | .ok d h1=>if acc.length<1000000 then .ok (ρ,acc++[d]) h1 else .bad
 |_=>.bad
def fW (src:Src) (st:dC) (test:M Bool) (inner:MC):Nat->Nat->MC
 |0,_=>λρ h acc=>if src.fin h=true then .ok (ρ,acc) h else .bad
 |f+1,k=>λρ h acc=>match src.get k h with
  |none=>.bad
  |some d=>match st d ρ with
   |none=>.bad
   |some ρ1=>match test ρ1 h with
    | .ok true h2=>match inner ρ1 h2 acc with
     | .ok r h3=>fW src st test inner f (k+1) r.1 h3 r.2
     |_=>.bad
    | .ok false h2=>fW src st test inner f (k+1) ρ1 h2 acc
    |_=>.bad
def lI (mi:M Src) (st:dC) (test:M Bool) (inner:MC):MC:=λρ h acc=>match mi ρ h with
 | .ok src h1=>fW src st test inner src.n 0 ρ h1 acc
 |_=>.bad
def dJ:M Bool:=λ_ h=>.ok true h
def jW (cap:List (Option Nat)) (ρ:Ev):Ev:=cap.map λo=>match o with
 |some j=>(ρ[j]?).getD none
 |none=>none
def bW (mi:M Src) (cap:List (Option Nat)) (st:dC) (test:M Bool) (inner:MC):M (List Dv):=λρ h=>(mi ρ h).bind λsrc h1=>match fW src st test inner src.n 0 (jW cap ρ) h1 []with
 | .ok r h2=>.ok r.2 h2
 |_=>.bad
def rC (G:Cfg) (m:MC):TC:=λσ H vs K=>∃μ ρ h xs ρ' xs' h',RelS G μ h.length H ρ σ/\Sim G μ h H/\RelDL G μ h.length H xs vs/\m ρ h xs=.ok (ρ',xs') h' /\
 ∀μ' H' σ' vs',Ext μ h.length H μ' h'.length H'->Sim G μ' h' H'->RelS G μ' h'.length H' ρ' σ'->RelDL G μ' h'.length H' xs' vs'->K σ' H' vs'
section
variable{G:Cfg}
theorem SE {μ:Nat->ai}{n:Nat}{H:Hp}{ρ:Ev}{σ:St}(rs:RelS G μ n H ρ σ) (cap:List (Option Nat)):RelS G μ n H (jW cap ρ) (oZ cap σ):=⟨by simp[jW,oZ],λi d e=>by
 unfold jW at e;rw[di]at e
 cases q:cap[i]? with
 |none=>rw[q]at e;cases e
 |some o=>
  rw[q]at e
  cases o with
  |none=>cases e
  |some j=>
   have e':(ρ[j]?).getD none=some d:=by simpa using e
   have e2:ρ[j]?=some (some d):=by
    cases z:ρ[j]? with
    |none=>rw[z]at e';cases e'
    |some y=>rw[z]at e';simp at e';rw[e']
   obtain⟨v,e3,r⟩:=rs.at_ j d e2;refine⟨v, ?_,r⟩;unfold oZ;rw[di,q];simp[e3]⟩
theorem AL {E:XK}{me:M Dv}{σ:St}{H:Hp}{vs:List V}{K:St->Hp->List V->Prop}(t:rC G (bS me) σ H vs K):F2 (gL G E me) σ H vs K:=by
 obtain⟨μ,ρ,h,xs,ρ',xs',h',rs,s,r,e,k⟩:=t;refine⟨μ,ρ,h,rs,s, ?_⟩;unfold bS at e
 cases q:me ρ h with
 |bad=>rw[q]at e;cases e
 |ex c h1=>rw[q]at e;cases e
 |ok d h1=>
  rw[q]at e;dsimp only at e
  split at e
  ·rename_i hl;cases e;intro μ1 H1 v x1 s1 r1;refine⟨?_,k μ1 H1 σ _ x1 s1 (rs.mono x1) ((RelDL.mono x1 _ _ r).append (RelDL.cons r1 RelDL.nil))⟩;rw[r.length];exact au hl (by decide)
  ·cases e
theorem GU {E:XK}{src:Src}{st:dC}{test:M Bool}{inner:MC}{J:It}{μ1:Nat->ai}{h1:Hs}{H1:Hp}{ρ ρ':Ev}{σ:St}{xs xs':List Dv}{vs:List V}{h':Hs}{K:St->Hp->List V->Prop}
  (ok:ItOk G μ1 h1.length H1 src J) (rs:RelS G μ1 h1.length H1 ρ σ) (s1:Sim G μ1 h1 H1) (r:RelDL G μ1 h1.length H1 xs vs) (e:fW src st test inner src.n 0 ρ h1 xs=.ok (ρ',xs') h')
  (k:∀μ' H' σ' vs',Ext μ1 h1.length H1 μ' h'.length H'->Sim G μ' h' H'->RelS G μ' h'.length H' ρ' σ'->RelDL G μ' h'.length H' xs' vs'->K σ' H' vs'):
  qP J (qZ G st) (gX G E test) (rC G inner) K σ H1 vs:=by
 refine⟨λi m σ H vs=>∃μ2 ρ2 h2 xs2,Ext μ1 h1.length H1 μ2 h2.length H/\RelS G μ2 h2.length H ρ2 σ/\Sim G μ2 h2 H/\RelDL G μ2 h2.length H xs2 vs/\i+m=src.n/\fW src st test inner m i ρ2 h2 xs2=.ok (ρ',xs') h',⟨src.n,μ1,ρ,h1,xs,Ext.refl,rs,s1,r,Nat.zero_add _,e⟩, ?_⟩
 rintro i m σ2 H2 vs2 ⟨μ2,ρ2,h2,xs2,x2,rs2,s2,r2,him,e2⟩
 cases m with
 |zero=>
  unfold fW at e2
  split at e2
  ·rename_i hf;cases e2;exact .inl ⟨(ok i μ2 _ H2 x2 s2).2 (by omega) hf,k μ2 H2 σ2 vs2 x2 s2 rs2 r2⟩
  ·cases e2
 |succ m=>
  unfold fW at e2
  cases q:src.get i h2 with
  |none=>rw[q]at e2;cases e2
  |some d=>
   rw[q]at e2;dsimp only at e2
   cases q2:st d ρ2 with
   |none=>rw[q2]at e2;cases e2
   |some ρ3=>
    rw[q2]at e2;dsimp only at e2;obtain⟨go,yl⟩:=(ok i μ2 h2 H2 x2 s2).1 (by omega) d q;refine .inr ⟨go,λσ' H' vs'=>∃μ3 ρ4 h4 xs4,Ext μ1 h1.length H1 μ3 h4.length H'/\RelS G μ3 h4.length H' ρ4 σ'/\Sim G μ3 h4 H'/\RelDL G μ3 h4.length H' xs4 vs'/\(i+1)+m=src.n/\fW src st test inner m (i+1) ρ4 h4 xs4=.ok (ρ',xs') h',
     λσ' H' vs' z=>⟨m,kd m,z⟩,λx H' hy=>?_⟩
    obtain⟨sm,rx⟩:=yl x H' hy;have xsm:Ext μ2 h2.length H2 μ2 h2.length H':=Ext.same sm;refine⟨μ2,ρ2,h2.length,d,ρ3,rs2.mono xsm,rx,q2,λσ3 rs3=>⟨μ2,ρ3,h2,rs3,s2.same sm, ?_⟩⟩
    cases q3:test ρ3 h2 with
    |bad=>rw[q3]at e2;cases e2
    |ex c h3=>rw[q3]at e2;cases e2
    |ok b h3=>
     rw[q3]at e2;intro μ4 H4 b' x4 s4 rb;have eb:b'=b:=rb;subst eb
     cases b' with
     |false=>rw[if_neg (by decide)];exact⟨μ4,ρ3,h3,xs2,(x2.trans xsm).trans x4,rs3.mono x4,s4,RelDL.mono (xsm.trans x4) _ _ r2,by omega,e2⟩
     |true=>
      rw[if_pos rfl];dsimp only at e2
      cases q4:inner ρ3 h3 xs2 with
      |bad=>rw[q4]at e2;cases e2
      |ex c h5=>rw[q4]at e2;cases e2
      |ok rr h5=>rw[q4]at e2;obtain⟨ρ5,xs5⟩:=rr;exact⟨μ4,ρ3,h3,xs2,ρ5,xs5,h5,rs3.mono x4,s4,RelDL.mono (xsm.trans x4) _ _ r2,q4,λμ6 H6 σ6 vs6 x6 s6 rs6 r6=>⟨μ6,ρ5,h5,xs5,((x2.trans xsm).trans x4).trans x6,rs6,s6,r6,by omega,e2⟩⟩
theorem SF {E:XK}{mi:M Src}{st:dC}{test:M Bool}{inner:MC}{σ:St}{H:Hp}{vs:List V}{K:St->Hp->List V->Prop}(t:rC G (lI mi st test inner) σ H vs K):F8 (AK G E mi) (qZ G st) (gX G E test) (rC G inner) σ H vs K:=by
 obtain⟨μ,ρ,h,xs,ρ',xs',h',rs,s,r,e,k⟩:=t;refine⟨μ,ρ,h,rs,s, ?_⟩;unfold lI at e
 cases q:mi ρ h with
 |bad=>rw[q]at e;cases e
 |ex c h1=>rw[q]at e;cases e
 |ok src h1=>rw[q]at e;exact λμ1 H1 J x1 s1 ok=>GU ok (rs.mono x1) s1 (RelDL.mono x1 _ _ r) e λμ2 H2 σ2 vs2 x2=>k μ2 H2 σ2 vs2 (x1.trans x2)
def RL (G:Cfg):(Nat->ai)->Nat->Hp->List Dv->V->Prop:=λμ n H xs v=>∃p vs,v=.ref p/\H p=some (.lst vs)/\(∀i,i<n->μ i≠p)/\RelDL G μ n H xs vs
def uS (G:Cfg) (E:XK) (m:M (List Dv)):TE:=λσ H Q=>∃μ ρ h,RelS G μ h.length H ρ σ/\Sim G μ h H/\Out G E μ h.length H (m ρ h) (RL G) Q
def pI (X:Cx) (G:Cfg) (E:XK) (pe:bu) (m:M (List Dv)):Prop:=X.K=G.K->PE X pe (uS G E m)
theorem Sim.adopt {μ:Nat->ai}{h:Hs}{H:Hp}{p:ai}{ds:List Dv}{vs:List V}(s:Sim G μ h H) (e:H p=some (.lst vs)) (hq:∀i,i<h.length->μ i≠p) (r:RelDL G μ h.length H ds vs):
  Ext μ h.length H (λi=>if i=h.length then p else μ i) (h++[Ob.lst ds]).length H/\Sim G (λi=>if i=h.length then p else μ i) (h++[.lst ds]) H:=by
 have hl:(h++[Ob.lst ds]).length=h.length+1:=by simp
 have x:Ext μ h.length H (λi=>if i=h.length then p else μ i) (h++[Ob.lst ds]).length H:=⟨by omega,λi hi=>if_neg (bc hi),λa o _ e=>e⟩
 refine⟨x,λi j hi hj e=>?_,λi o q=>?_,s.tab⟩
 ·rw[hl]at hi hj
  by_cases h1:i=h.length <;> by_cases h2:j=h.length
  ·omega
  ·rw[if_pos h1,if_neg h2]at e;exact absurd e.symm (hq j (by omega))
  ·rw[if_neg h1,if_pos h2]at e;exact absurd e (hq i (by omega))
  ·rw[if_neg h1,if_neg h2]at e;exact s.inj i j (by omega) (by omega) e
 ·by_cases h1:i<h.length
  ·rw[dy h1]at q;have r1:=s.ob i o q
   cases o with
   |lst xs=>obtain⟨ws,e1,r2⟩:=r1;exact⟨ws,by rw[if_neg (bc h1)];exact e1,RelDL.mono x _ _ r2⟩
  ·rw[gg (by omega)]at q;have h2:i=h.length:=by have:=(az.mp q).1;simp at this;omega
   subst h2;simp at q;subst q;exact⟨vs,by rw[if_pos rfl];exact e,RelDL.mono x _ _ r⟩
def bZ (m:M (List Dv)):M Dv:=λρ h=>(m ρ h).bind λxs h1=>.ok (.ref h1.length) (h1++[.lst xs])
theorem GV {E:XK}{m:M (List Dv)}{σ:St}{H:Hp}{Q:VK}(t:gL G E (bZ m) σ H Q):uS G E m σ H Q:=by obtain⟨μ,ρ,h,rs,s,o⟩:=t;refine⟨μ,ρ,h,rs,s,(o.bind (R1:=RL G)).mono λv H1 ⟨μ1,xs,h1,x1,s1,⟨p,vs,ev,e1,hq,r1⟩,o1⟩=>?_⟩;subst ev;obtain⟨x2,s2⟩:=s1.adopt e1 hq r1;exact o1 _ _ _ x2 s2 ⟨by simp,by show V.ref p=V.ref (if h1.length=h1.length then p else μ1 h1.length);rw[if_pos rfl]⟩
theorem rD {X:Cx}{E:XK}{pe:bu}{m:M (List Dv)}(h:pI X G E pe m):aK X G E pe (bZ m):=λhK=>PE.imp (h hK) λ_ _ _ t=>GV t
theorem AM {E E':XK}{mi:M Src}{cap:List (Option Nat)}{st:dC}{test:M Bool}{inner:MC}{σ:St}{H:Hp}{Q:VK}(t:uS G E (bW mi cap st test inner) σ H Q):zX (AK G E mi) cap (qZ G st) (gX G E' test) (rC G inner) σ H Q:=by
 obtain⟨μ,ρ,h,rs,s,o⟩:=t;refine⟨μ,ρ,h,rs,s,(o.bind (R1:=ItOk G)).mono λJ H1 ⟨μ1,src,h1,x1,s1,ok,o1⟩=>?_⟩
 cases q:fW src st test inner src.n 0 (jW cap ρ) h1 []with
 |bad=>rw[q]at o1;exact o1.elim
 |ex c h2=>rw[q]at o1;exact o1.elim
 |ok r h2=>rw[q]at o1;obtain⟨ρ',xs'⟩:=r;refine GU ok (SE (rs.mono x1) cap) s1 RelDL.nil q λμ2 H2 σ2 vs2 x2 s2 rs2 r2 p hp=>?_;exact o1 μ2 _ _ (x2.trans (Ext.same (cG hp))) (s2.same (cG hp)) ⟨p,vs2,rfl,cK,s2.not hp,RelDL.mono (Ext.same (cG hp)) _ _ r2⟩
end
section
variable{X:Cx}{G:Cfg}{E:XK}{elt tg iter tg' iter':bu}{ifs ifs':List bu}{sc:iu}{ps pos:Pos}{mi mi':M Src}{st st':dC}{test test':M Bool}{me:M Dv}{N:List Str}{cap:List (Option Nat)}
def pJ (X:Cx) (G:Cfg) (ifs:List bu) (m:M Bool):Prop:=X.K=G.K->PTs X ifs (gX G E0 m)
theorem PTs.imp {Y:Cx}{ifs:List bu}{t t':TT}(h:PTs Y ifs t) (i:∀σ H Q,t' σ H Q->t σ H Q):PTs Y ifs t':=λpins s σ H Q I q=>h pins s σ H Q I (i σ H Q q)
theorem jX {Y:Cx}:pJ Y G [] dJ:=λ_=>PTs.imp RD λσ H Q ⟨μ,ρ,h,rs,s,o⟩=>o.val s rfl
theorem nQ {Y:Cx}{c:bu}{m:M Bool}(h:fV Y G E0 c m):pJ Y G [c] m:=λhK=>RE (h hK)
theorem PCl.imp {Y:Cx}{D:ai}{m:Sem Unit}{t t':TC}(h:PCl Y D m t) (i:∀σ H xs K,t' σ H xs K->t σ H xs K):PCl Y D m t':=λpins s σ H xs K I a f q=>h pins s σ H xs K I a f (i σ H xs K q)
theorem jE (hc:X.calm=true) (C:CapOk X sc N cap) (hi:kK X G E tg iter mi) (hg:∀s H ex,lG (cW X sc N s H ex) G tg st) (htt:∀s H ex,pJ (cW X sc N s H ex) G ifs test) (hel:∀s H ex,aK (cW X sc N s H ex) G E0 elt me)
  (hs:∀x,foldedSetIterable iter X.env x=pure x:=by intro _;rfl):pI X G E (.ListComp elt [⟨tg,iter,ifs,0⟩] sc ps) (bW mi cap st test (bS me)):=λhK=>
 PE.imp (GA hc C rfl (λit D env=>F6 elt tg iter ifs sc ps (.ref it) D env) (hi hK) (λs H ex=>hg s H ex hK) (λs H ex=>htt s H ex hK) (λs H ex D=>PCl.imp (zW (hel s H ex hK)) λ_ _ _ _ t=>AL t) hs) λ_ _ _ t=>AM t
theorem SG (hc:X.calm=true) (C:CapOk X sc N cap) (hi:kK X G E tg iter mi) (hg:∀s H ex,lG (cW X sc N s H ex) G tg st) (htt:∀s H ex,pJ (cW X sc N s H ex) G ifs test)
  (hi':∀s H ex,kK (cW X sc N s H ex) G E0 tg' iter' mi') (hg':∀s H ex,lG (cW X sc N s H ex) G tg' st') (htt':∀s H ex,pJ (cW X sc N s H ex) G ifs' test') (hel:∀s H ex,aK (cW X sc N s H ex) G E0 elt me)
  (hs:∀x,foldedSetIterable iter X.env x=pure x:=by intro _;rfl) (hs':∀s H ex x,foldedSetIterable iter' (cW X sc N s H ex).env x=pure x:=by intro _ _ _ _;rfl):
  pI X G E (.ListComp elt [⟨tg,iter,ifs,0⟩,⟨tg',iter',ifs',0⟩] sc ps) (bW mi cap st test (lI mi' st' test' (bS me))):=λhK=>
 PE.imp (GA hc C rfl (inner:=λD env=>qQ iter' (.ListComp elt [⟨tg,iter,ifs,0⟩,⟨tg',iter',ifs',0⟩] sc ps) 1 D env) (λit D env=>RF elt tg iter tg' iter' ifs ifs' sc ps (.ref it) D env) (hi hK) (λs H ex=>hg s H ex hK) (λs H ex=>htt s H ex hK)
  (λs H ex D=>PCl.imp (RH (X:=cW X sc N s H ex) (D:=D) (gens:=[⟨tg,iter,ifs,0⟩,⟨tg',iter',ifs',0⟩]) (d:=1) rfl hc rfl (λit=>RG elt tg iter tg' iter' ifs ifs' sc ps (.ref it) D _) (hi' s H ex hK) (hg' s H ex hK) (htt' s H ex hK) (PCl.imp (zW (hel s H ex hK)) λ_ _ _ _ t=>AL t) (hs' s H ex)) λ_ _ _ _ t=>SF t) hs) λ_ _ _ t=>AM t
end
def dY (T:ai) (h:cp):Prop:=∃oT ts,h.get? T=some oT/\oT.data=.fields ts/\ts[3]?=some .none
structure Chg (fs:List ai) (e T:ai) (h h':cp):Prop where
 new:h.objs.size<=T
 keep:∀b o,b≠e->b∉fs->h.get? b=some o->h'.get? b=some o
 slot:∀b o,b≠e->h.get? b=some o->∃sl,h'.get? b=some { o with slots:=sl }
 tb:dY T h'
theorem SH (f:Array af->Array af) (o:Obj):(Obj.mapFields f o).dict=o.dict:=by
 unfold Obj.mapFields
 split <;> rfl
section
variable{M:Aq}{A:cg}{E:af->ag->Prop}{s:ag}
theorem AN {a:ai}{o:Obj}{vs:Array af}{i:Nat}{v:af}{Q:Unit->ag->Prop}(e:s.heap.get? a=some o) (hd:o.data=.fields vs) (hi:i<vs.size)
  (k:∀h' o',ig a s.heap h'->h'.get? a=some o'->o'.cls=o.cls->o'.dict=o.dict->o'.data=.fields (vs.setIfInBounds i v)->Q () { s with heap:=h' }):wpAny M A (setField (.ref a) i v) Q E s:=
 have d':=vt hd (·.setIfInBounds i v)
 Bu e hd hi (k _ _ (ou ..) (ow _ e (Ce d')) (Obj.cls_mapFields ..) (SH ..) d')
theorem SI {head v:af}{L:Int}{pl:List af}{Q:af->ag->Prop}(hpl:IsPlace pl) (k:∀ob ts,ob.data=.fields ts->3<ts.size->ob.isFreed=false->Q (.ref s.heap.objs.size) { s with heap:=s.heap.push ob }):
  wpAny M A (Ak head v .none (rawInt L) .none pl) Q E s:=
 dm (k _ _ rfl (by simp only[av,bw,dv,pj];omega) rfl) (hpl.sizeOk5 ..)
theorem GW {e T:ai}{oe oT:Obj}{vs ts:Array af}{Q:Unit->ag->Prop}(he:s.heap.get? e=some oe) (hd:oe.data=.fields vs) (h1:vs[1]?=some (.ref T)) (hT:s.heap.get? T=some oT) (hdT:oT.data=.fields ts) (hs:3<ts.size)
  (k:∀h',ig T s.heap h'->dY T h'->Q () { s with heap:=h' }):wpAny M A (setFlight (.ref e) none) Q E s:=by
 refine aa (dg he hd h1 ?_);show wpAny M A (if(dh T != jq)=true then _ else _) Q E s;rw[if_pos (by simp)];exact AN hT hdT hs λh' o' sb g _ _ d=>k h' sb ⟨o',_,g,d,by rw[jd hs];rfl⟩
theorem GX {base:cp}{l:List Env}{a:ai}{o:Obj}{vs:Array af}(hl:s.heap.FunFrames base l) (e:s.heap.get? a=some o) (hd:o.data=.fields vs):a∉dH l:=λhm=>by obtain⟨_,o',e',nf⟩:=hl.mem hm;rw[e]at e';cases e';exact nf vs hd
theorem GY {base:cp}{env:Env}{outer:List Env}{L e:ai}{oe:Obj}{vs:Array af}{head a0:af}{nx:Bool}{Q:Unit->ag->Prop}(hfr:A.frames=some (env::outer)) (hl:s.heap.FunFrames base (env::outer)) (hf:env.frame=some L)
  (he:s.heap.get? e=some oe) (hd:oe.data=.fields vs) (hdn:oe.dict=none) (hsz:1<vs.size) (h0:vs[0]?=some a0)
  (k:∀h' T,Chg (dH (env::outer)) e T s.heap h'->dP oe.cls e T a0 h'->Q () { s with heap:=h' }):
  wpAny M A (do let a <-frameOf env;let pl <-entryPlaceOf L nx;let b <-Ak head a .none (rawInt L) .none pl;setField (.ref e) 1 b)
   (λ_ s'=>wpAny M A (setFlight (.ref e) none) Q E s') E s:=by
 have ne:=GX hl he hd;refine aa (wpAny_frameOf_fun hfr hl hf λg1 so=>aa (wpAny_entryPlaceOf λpl hpl=>aa (SI hpl λob ts dt hts nf=>?_)));have e1:g1.get? e=some oe:=(so.2.1 e ne).trans he;have lt:e<g1.objs.size:=ao e1;refine AN (s:={ s with heap:=g1.push ob }) (aj _ e1) hd hsz λg2 oe2 sb2 ge c2 dn2 d2=>?_;have gT:g2.get? g1.objs.size=some ob:=sb2.extBut _ _ (jl lt) (ax _ nf);refine GW (s:={ s with heap:=g2 }) ge d2 (T:=g1.objs.size) (by rw[jd hsz]) gT dt hts λg3 sb3 tb=>?_;have kp:∀b o,b≠e->g1.get? b=some o->g3.get? b=some o:=λb o hb q=>sb3.extBut _ _ (bc (ao q)) (sb2.extBut _ _ hb (aj _ q));refine k g3 g1.objs.size ⟨qe so.1.symm,λb o hb hn q=>kp b o hb ((so.2.1 b hn).trans q),λb o hb q=>?_,tb⟩ ⟨oe2,_,sb3.extBut _ _ (bc lt) ge,c2,d2, ?_, ?_,dn2.trans hdn⟩
 ·obtain⟨sl,q'⟩:=so.2.2 b o q;exact⟨sl,kp b _ hb q'⟩
 ·rw[Array.getElem?_setIfInBounds_ne (by decide)];exact h0
 ·rw[jd hsz]
theorem SJ {base:cp}{env:Env}{outer:List Env}{L e:ai}{oe:Obj}{vs:Array af}{a0:af}{Q:Unit->ag->Prop}(hfr:A.frames=some (env::outer)) (hl:s.heap.FunFrames base (env::outer)) (hf:env.frame=some L)
  (he:s.heap.get? e=some oe) (hd:oe.data=.fields vs) (hdn:oe.dict=none) (h0:vs[0]?=some a0) (h1:vs[1]?=some .none)
  (k:∀h' T,Chg (dH (env::outer)) e T s.heap h'->dP oe.cls e T a0 h'->Q () { s with heap:=h' }):
  wpAny M A (noteFrame (.ref e) env) (λ_ s'=>wpAny M A (setFlight (.ref e) none) Q E s') E s:=by
 unfold noteFrame;rw[hf];refine aa (dg he hd h1 ?_);exact GY hfr hl hf he hd hdn (du.mp h1).1 h0 k
theorem SK {base:cp}{env:Env}{outer:List Env}{L e T:ai}{C a0:af}{Q:Unit->ag->Prop}(hfr:A.frames=some (env::outer)) (hl:s.heap.FunFrames base (env::outer)) (hf:env.frame=some L)
  (hx:dP C e T a0 s.heap) (ht:dY T s.heap) (hne:T≠e)
  (k:∀h' T',s.heap.objs.size<=T'->(∀b o,b≠e->b≠T->b∉dH (env::outer)->s.heap.get? b=some o->h'.get? b=some o)->(∀b o,b≠e->b≠T->s.heap.get? b=some o->∃sl,h'.get? b=some { o with slots:=sl })->
   dP C e T' a0 h'->dY T h'->dY T' h'->Q () { s with heap:=h' }):
  wpAny M A (noteFrame (.ref e) env) (λ_ s'=>wpAny M A (setFlight (.ref e) none) Q E s') E s:=by
 obtain⟨oe,vs,he,rfl,hd,h0,h1,hdn⟩:=hx;obtain⟨oT,ts,hT,hdT,h3⟩:=ht;have l3:3<ts.size:=(du.mp h3).1;have nT:=GX hl hT hdT;unfold noteFrame;rw[hf];refine aa (dg he hd h1 ?_);rw[if_pos (by simp)];refine aa (dg hT hdT h3 ?_);rw[if_neg (by simp[rawInt])];refine aa (AN hT hdT l3 λg o' sb gT _ _ dT=>?_);have hl':g.FunFrames base (env::outer):=hl.of_keeps λb o q nf=>⟨o,sb.extBut _ _ (λz=>by subst z;rw[hT]at q;cases q;exact nf ts hdT) q,rfl⟩
 refine GY (s:={ s with heap:=g }) hfr hl' hf (sb.extBut _ _ (cm hne) he) hd hdn (du.mp h1).1 h0 λh' T' c x=>?_;refine k h' T' (by rw[<-sb.1];exact c.new) (λb o n1 n2 n3 q=>c.keep b o n1 n3 (sb.extBut _ _ n2 q)) (λb o n1 n2 q=>c.slot b o n1 (sb.extBut _ _ n2 q)) x ⟨_,_,c.keep T _ hne nT gT,dT, ?_⟩ c.tb;rw[jd l3]
end
theorem AO {P:bg}{w:cn}{H:Hp}{h:cp}{a:ai}{o:HO}(x:ObjOk P w H h a o):∃ob,h.get? a=some ob:=by
 cases o with
 |lst xs=>obtain⟨_,_,_,_,e⟩:=x;exact⟨_,e⟩
 |tup xs=>obtain⟨_,_,_,ob,e,_⟩:=x;exact⟨_,e⟩
 |dK kvs=>obtain⟨_,_,_,_,o,_,_,e,_⟩:=x;exact⟨_,e⟩
 |dT kvs=>obtain⟨_,_,_,_,o,_,_,e,_⟩:=x;exact⟨_,e⟩
 |set S n=>obtain⟨o,_,_,_,e,_⟩:=x;exact⟨_,e⟩
 |ins C dx fs=>obtain⟨_,_,_,e,_⟩:=x;exact⟨_,e⟩
 |own y=>exact x
 |xd fs=>obtain⟨_,⟨_,_,_,e,_⟩,_⟩:=x;exact⟨_,e⟩
 |rng lo hi=>obtain⟨_,_,_,e⟩:=x;exact⟨_,e⟩
 |frz ob u=>obtain⟨e,_⟩:=x;exact⟨_,e⟩
 |tbl ps=>exact⟨_,(show h.get? a=some _ from x)⟩
 |met f y=>exact⟨_,(show h.get? a=some _ from x)⟩
 |ext φ=>obtain⟨_,e,_⟩:=x;exact e
def uT (base:cp) (H:Hp) (C:af) (e:ai):Prop:=∃T a0,H e=some (.ext (dP C e T a0))/\H T=some (.ext (dY T))/\base.get? e=none/\T≠e
def rE (e:ai) (H H':Hp):Prop:=∀b o,b≠e->H b=some o->H' b=some o
theorem SN {C a0:af}{e T:ai}{h1 h2:cp}(x:dP C e T a0 h1) (k:∀o,h1.get? e=some o->h2.get? e=some o):dP C e T a0 h2:=by obtain⟨oe,vs,he,r⟩:=x;exact⟨oe,vs,k oe he,r⟩
theorem SO {T:ai}{h1 h2:cp}(x:dY T h1) (k:∀o,h1.get? T=some o->h2.get? T=some o):dY T h2:=by obtain⟨oe,vs,he,r⟩:=x;exact⟨oe,vs,k oe he,r⟩
theorem GZ {P:bg}{w:cn}{H:Hp}{h:cp}{C a0:af}{e T:ai}(x:dP C e T a0 h):ObjOk P w H h e (.ext (dP C e T a0)):=⟨x,(let ⟨oe,_,he,_⟩:=x;⟨oe,he⟩),λ_ _ y k=>SN y k⟩
theorem uU {P:bg}{w:cn}{H:Hp}{h:cp}{T:ai}(x:dY T h):ObjOk P w H h T (.ext (dY T)):=⟨x,(let ⟨oe,_,he,_⟩:=x;⟨oe,he⟩),λ_ _ y k=>SO y k⟩
section
variable{P:bg}{w:cn}{M:Aq}{A:cg}{E:af->ag->Prop}{s:ag}{H:Hp}{base:cp}{env:Env}{outer:List Env}{L e:ai}{C:af}
theorem AQ {Q:Unit->ag->Prop}(hfr:A.frames=some (env::outer)) (hl:s.heap.FunFrames base (env::outer)) (hf:env.frame=some L) (hok:HOk P w H s.heap) (hfree:∀b∈dH (env::outer),H b=none) (fl:uT base H C e)
  (k:∀h' H',Un (dH (env::outer)) [] H H' s.heap h'->HOk P w H' h'->uT base H' C e->rE e H H'->Q () { s with heap:=h' }):
  wpAny M A (noteFrame (.ref e) env) (λ_ s'=>wpAny M A (setFlight (.ref e) none) Q E s') E s:=by
 obtain⟨T,a0,he,hT,hb,hne⟩:=fl;have xe:dP C e T a0 s.heap:=(show ObjOk P w H s.heap e _ from hok e _ he).1;have xt:dY T s.heap:=(show ObjOk P w H s.heap T _ from hok T _ hT).1;refine SK hfr hl hf xe xt hne λh' T' hnew keep slot x' t0 t'=>?_;have nT':H T'=none:=hok.fresh hnew;have eT':T'≠e:=(eX he nT').symm;have TT':T'≠T:=(eX hT nT').symm;have sx:rE e H (upd (upd H e (.ext (dP C e T' a0))) T' (.ext (dY T'))):=λb o hbe q=>by rw[bO (eX q nT'),bO hbe];exact q
 have ee:upd (upd H e (.ext (dP C e T' a0))) T' (.ext (dY T')) e=some (.ext (dP C e T' a0)):=by rw[bO (cm eT'),cK]
 refine k h' (upd (upd H e (.ext (dP C e T' a0))) T' (.ext (dY T'))) ?_ ?_ ⟨T',a0,ee,cK,hb,eT'⟩ sx
 ·have free:∀b o,s.heap.get? b=some o->H b=none->upd (upd H e (.ext (dP C e T' a0))) T' (.ext (dY T')) b=none:=λb o q n=>by have h1:b≠T':=bc (au (ao q) hnew);have h2:b≠e:=(eX he n).symm;rw[bO h1,bO h2];exact n
  refine⟨λb o q n hb _=>keep b o (eX he n).symm (eX hT n).symm hb q,λb o q n _ _=>slot b o (eX he n).symm (eX hT n).symm q,λb o q n _=>free b o q n,λb o q _=>?_,λb xs q=>?_,λb o u q=>?_,λb ps q=>?_⟩
  ·by_cases h1:b=e
   ·subst h1;obtain⟨oe,_,z,_⟩:=x';exact⟨oe,z⟩
   ·by_cases h2:b=T
    ·subst h2;obtain⟨oe,_,z,_⟩:=t0;exact⟨oe,z⟩
    ·obtain⟨sl,z⟩:=slot b o h1 h2 q;exact⟨_,z⟩
  ·exact sx b _ (lV q he (by intro z;cases z)) q
  ·exact sx b _ (lV q he (by intro z;cases z)) q
  ·exact⟨#[],by rw[sx b _ (lV q he (by intro z;cases z)) q];simp⟩
 ·intro a o q
  by_cases h1:a=T'
  ·subst h1;rw[cK]at q;cases q;exact uU t'
  ·rw[bO h1]at q
   by_cases h2:a=e
   ·subst h2;rw[cK]at q;cases q;exact GZ x'
   ·rw[bO h2]at q
    by_cases h3:a=T
    ·subst h3;rw[hT]at q;cases q;exact uU t0
    ·have nf:a∉dH (env::outer):=λz=>by rw[hfree a z]at q;cases q
     refine(hok a o q).stay (λb u hb z=>?_) (λb z=>sx b _ (lV z he (by intro y;cases y)) z) λb xs z=>sx b _ (lV z he (by intro y;cases y)) z
     rcases hb with rfl|hb
     ·exact keep b u h2 h3 nf z
     ·exact keep b u (lV hb he (by intro y;cases y)) (lV hb hT (by intro y;cases y)) (λy=>by rw[hfree b y]at hb;cases hb) z
theorem G1 {Q:Unit->ag->Prop}{h0:cp}{args:List af}(hfr:A.frames=some (env::outer)) (hl:h0.FunFrames base (env::outer)) (hf:env.frame=some L) (hok:HOk P w H h0) (hfree:∀b∈dH (env::outer),H b=none) (hsb:∀b o,base.get? b=some o->h0.get? b=some o)
  (mx:Heap.MadeExcOf h0 s.heap e C args)
  (k:∀h' H',Un (dH (env::outer)) [] H H' h0 h'->HOk P w H' h'->uT base H' C e->Same H H'->Q () { s with heap:=h' }):
  wpAny M A (noteFrame (.ref e) env) (λ_ s'=>wpAny M A (setFlight (.ref e) none) Q E s') E s:=by
 obtain⟨t,he,hnt,ht⟩:=mx.there;have hbn:base.get? e=none:=by
  cases q:base.get? e with
  |none=>rfl
  |some o=>have:=hsb e o q;rw[mx.new]at this;cases this
 have nH:H e=none:=by
  cases q:H e with
  |none=>rfl
  |some o=>
   have z:∀a o,H a=some o->h0.get? a≠none:=λa o q n=>by
    have lt:=hok.lt q;have:=(hok a o q)
    have ex:∃ob,h0.get? a=some ob:=AO this;obtain⟨ob,eo⟩:=ex;rw[n]at eo;cases eo
   exact absurd mx.new (z e o q)
 have hl1:s.heap.FunFrames base (env::outer):=hl.of_keeps λb o hb _=>⟨o,mx.keeps b o hb,rfl⟩
 refine SJ hfr hl1 hf he rfl rfl (a0:=.ref t) rfl rfl λh' T c x=>?_;have ne_e:∀b o,h0.get? b=some o->b≠e:=λb o q z=>by subst z;rw[mx.new]at q;cases q
 have lt0:∀b o,h0.get? b=some o->b<T:=λb o q=>au (ao (mx.keeps b o q)) c.new;have nT:H T=none:=by
  cases q:H T with
  |none=>rfl
  |some o=>obtain⟨ob,eo⟩:=AO (hok T o q);exact absurd (lt0 T ob eo) (gp _)
 have eT:T≠e:=jl (au (ao he) c.new);have sm:Same H (upd (upd H e (.ext (dP C e T (.ref t)))) T (.ext (dY T))):=λb o q=>by rw[bO (eX q nT),bO (eX q nH)];exact q
 refine k h' (upd (upd H e (.ext (dP C e T (.ref t)))) T (.ext (dY T))) ?_ ?_ ⟨T,.ref t,by rw[bO (cm eT),cK],cK,hbn,eT⟩ sm
 ·refine⟨λb o q n hb _=>c.keep b o (ne_e b o q) hb (mx.keeps b o q),λb o q n _ _=>c.slot b o (ne_e b o q) (mx.keeps b o q),λb o q n _=>?_,λb o q _=>?_,λb xs q=>sm b _ q,λb o u q=>sm b _ q,λb ps q=>⟨#[],by rw[sm b _ q];simp⟩⟩
  ·rw[bO (bc (lt0 b o q)),bO (ne_e b o q)];exact n
  ·obtain⟨sl,z⟩:=c.slot b o (ne_e b o q) (mx.keeps b o q);exact⟨_,z⟩
 ·intro a o q
  by_cases h1:a=T
  ·subst h1;rw[cK]at q;cases q;exact uU c.tb
  ·rw[bO h1]at q
   by_cases h2:a=e
   ·subst h2;rw[cK]at q;cases q;exact GZ x
   ·rw[bO h2]at q;have nf:a∉dH (env::outer):=λz=>by rw[hfree a z]at q;cases q
    refine(hok a o q).stay (λb u hb z=>?_) (λb z=>sm b _ z) λb xs z=>sm b _ z
    rcases hb with rfl|hb
    ·exact c.keep b u (ne_e b u z) nf (mx.keeps b u z)
    ·exact c.keep b u (ne_e b u z) (λy=>by rw[hfree b y]at hb;cases hb) (mx.keeps b u z)
end
def bL (P:bg) (w:cn) (base:cp):lE:=λouter H s E u s'=>∃e C H',u=.ref e/\s'.os=s.os/\sv s'.gens/\Un (dH outer) [] H H' s.heap s'.heap/\HOk P w H' s'.heap/\uT base H' C e/\E u none H'
def SQ (X:Cx) (E:XK):Prop:=∀(pins:List (ai×Obj)) (σ:St) (H:Hp) (s:ag) (h':cp) (e:ai) (C:af) (args:List af),Inv X pins σ H s->Heap.MadeExcOf s.heap h' e C args->
 (∀H',Same H H'->(∃T a0,H' e=some (.ext (dP C e T a0)))->E (.ref e) none H')->X.xe (.ref e) { s with heap:=h' }
structure Good (X:Cx) (G:Cfg) (E:XK) (k:Nat):Prop where
 calm:X.calm=true
 room:Room k X.A
 K:X.K=G.K
 pas:zL (bL X.prog X.w X.base) X E
 own:zi (model X.prog X.w) X.A X.env X.xe
 rais:SQ X E
def AR (E:XK):Prop:=∀e H H',rE e H H'->(∃C T a0 T' a0',H e=some (.ext (dP C e T a0))/\(∃h,dP C e T a0 h)/\H' e=some (.ext (dP C e T' a0')))->E (.ref e) none H->E (.ref e) none H'
section
variable{P:bg}{w:cn}{K:aq}{mg:Str->Option af}{base:cp}{N:List Str}{qual:Str}{scope:iu}{f:ai}{cdv:af}{A:cg}{outer:List Env}{s0:ag}{H0:Hp}{E0:XK}{G:Cfg}{E:XK}{k:Nat}
theorem AS (hr:Room k (A.deeper (envOfC qual scope s0.heap.objs.size f cdv))) (hK:K=G.K) (hE:∀u H',E u none H'->E0 u none H') (hF:AR E):
  Good (fU (bL P w base) P w K mg base N qual scope f cdv A outer s0 H0 E0) G E k where
 calm:=rfl
 room:=hr
 K:=hK
 own:=Bj
 pas:=by intro pins σ H s u s' I ⟨e,C,H',eu,os,bare,un,hok,fl,he⟩;subst eu;have I':=I.call' os un hok bare (λb z=>absurd z (by simp));refine aa (AQ (P:=P) (w:=w) (H:=H') (base:=base) I'.ok.frames I'.stack rfl hok I'.stkFree fl λh'' H'' un2 hok2 fl2 sx=>?_);have I2:=I'.call (h':=h'') (g':=s'.gens) (d':=s'.drawn) (t':=s'.toks) un2 hok2 I'.bare (λb z=>absurd z (by simp));obtain⟨T,a0,h1,_⟩:=id fl;obtain⟨T2,a2,h3,_⟩:=id fl2;have xe1:dP C e T a0 s'.heap:=(show ObjOk P w H' s'.heap e _ from hok e _ h1).1;have:E (.ref e) none H'':=hF e H' H'' sx ⟨C,T,a0,T2,a2,h1,⟨_,xe1⟩,h3⟩ he;exact⟨e,C,H'',rfl,I2.os,I2.bare,I2.base,hok2,fl2,hE _ _ this⟩
 rais:=by intro pins σ H s h' e C args I mx he;refine aa (G1 (P:=P) (w:=w) (H:=H) (base:=base) I.ok.frames I.stack rfl I.hok I.stkFree I.bk mx λh'' H'' un2 hok2 fl2 sm=>?_);have I2:=I.call (h':=h'') (g':=s.gens) (d':=s.drawn) (t':=s.toks) un2 hok2 I.bare (λb z=>absurd z (by simp));obtain⟨T2,a2,h3,_⟩:=id fl2;exact⟨e,C,H'',rfl,I2.os,I2.bare,I2.base,hok2,fl2,hE _ _ (he H'' sm ⟨T2,a2,h3⟩)⟩
theorem eV {X:Cx}{sc:iu}{N':List Str}{s:ag}{H:Hp}{ex:List ai}(g:Good X G E k):Good (cW X sc N' s H ex) G L2.E0 k where
 calm:=g.calm
 room:=g.room
 K:=g.K
 own:=PassesOwn.never
 pas:=λ_ _ _ _ _ _ _ ⟨_,_,_,_,_,_,_,_,_,z⟩=>z
 rais:=λ_ _ H s h' e C args I mx he=>by
  have nH:H e=none:=by
   cases q:H e with
   |none=>rfl
   |some o=>obtain⟨ob,eo⟩:=AO (I.hok e o q);rw[mx.new]at eo;cases eo
  exact he (upd H e (.ext (dP C e 0 .none))) (cG nH) ⟨0,.none,cK⟩
def bN (n:Nat) (ds:List Dv):Ev:=ds.map some++yi (n - ds.length) none
def aZ:Sr->Rs Dv
 | .rt d h=>.ok d h
 | .nx _ h=>.ok .non h
 | .ex c h=>.ex c h
 |_=>.bad
def aU (np n:Nat) (mb:MS):List Dv->Hs->Rs Dv:=λds h=>if ds.length=np then aZ (mb (bN n ds) h)else .bad
def cF (G:Cfg) (F:List Dv->Hs->Rs Dv):Sp:=λvs H Q E=>∃μ h ds,RelDL G μ h.length H ds vs/\Sim G μ h H/\Out G E μ h.length H (F ds h) (RelD G) Q
theorem G2 {μ:Nat->ai}{n:Nat}{H:Hp}{ds:List Dv}{vs:List V}(r:RelDL G μ n H ds vs) (N:List Str):RelS G μ n H (bN N.length ds) (start N vs):=by
 have hl:=r.length;refine⟨by simp[bN,start,hl],λi d e=>?_⟩;unfold bN at e
 by_cases hi:i<ds.length
 ·rw[dy (by simpa using hi),di]at e
  cases q:ds[i]? with
  |none=>rw[q]at e;cases e
  |some d'=>rw[q]at e;cases e;obtain⟨v,e1,r1⟩:=r.get q;refine⟨v, ?_,r1⟩;unfold start;rw[dy (by simp;omega),di,e1];rfl
 ·rw[gg (by simpa using hi),rp]at e
  split at e <;> cases e
def EB (G:Cfg) (μ0:Nat->ai) (n0:Nat) (H0:Hp) (r:Sr):XK:=λu _ H'=>∃c h' μ',r=.ex c h'/\Ext μ0 n0 H0 μ' h'.length H'/\Sim G μ' h' H'/\uC G H' c u
theorem Sim.sameX {μ:Nat->ai}{h:Hs}{H H':Hp}{e:ai}(s:Sim G μ h H) (sx:rE e H H') (hx:∃φ,H e=some (.ext φ)):Sim G μ h H'/\∀(n:Nat),Ext μ n H μ n H':=by
 obtain⟨φ,hx⟩:=hx;have x:∀n:Nat,Ext μ n H μ n H':=λn=>⟨ak _,λ_ _=>rfl,λa o i q=>sx a o (by rintro rfl;rw[hx]at q;cases q;exact i) q⟩
 refine⟨⟨s.inj,λi o q=>?_,s.tab.keep λa o _ n2 q=>sx a o (by rintro rfl;rw[hx]at q;cases q;exact n2 _ rfl) q⟩,x⟩;have r:=s.ob i o q
 cases o with
 |lst xs=>obtain⟨vs,e1,r1⟩:=r;exact⟨vs,sx _ _ (lV e1 hx (by intro z;cases z)) e1,RelDL.mono (x _) _ _ r1⟩
theorem AU {μ0:Nat->ai}{n0:Nat}{H0:Hp}{r:Sr}:AR (EB G μ0 n0 H0 r):=by intro e H H' sx ⟨C,T,a0,T',a0',h1,⟨hp,hx⟩,h3⟩ ⟨c,h',μ',er,x,s,e',φ,eu,h4,h5⟩;cases eu;obtain⟨s2,x2⟩:=s.sameX sx ⟨_,h1⟩;refine⟨c,h',μ',er,x.trans (x2 _),s2,e,_,rfl,h3,λhh z=>?_⟩;rw[h1]at h4;cases h4;obtain⟨o,g1,g2⟩:=h5 hp hx;obtain⟨oe,vs,g3,g4,_⟩:=hx;rw[g3]at g1;cases g1;obtain⟨oe',vs',g5,g6,_⟩:=z;exact⟨oe',g5,by rw[g6,<-g4,g2]⟩
theorem cX {x qual:Str}{st:gv}{fd:bq}{ps:List Str}{mb:MS}(Fn:Fun K x qual st f fd) (S:FnScope N ps (aV st)) (hK:K=G.K)
  (hbody:∀(cdv:af) (A:cg) (outer:List Env) (s:ag) (H:Hp) (E₀ E:XK),Good (fU (bL P w base) P w K mg base N qual (aV st) f cdv A outer s H E₀) G E k->iK (fU (bL P w base) P w K mg base N qual (aV st) f cdv A outer s H E₀) G E (jP st) mb):
  FnOk P w K mg base (bL P w base) (k+1) f fd ps (cF G (aU ps.length N.length mb)):=by
 obtain⟨oc,od,kV,doc,pm,an,cdv,ct,osl,rfl,lk,hcd⟩:=Fn.ex;have hlen:∀vs H Q E,cF G (aU ps.length N.length mb) vs H Q E->vs.length=ps.length:=λvs H Q E ⟨μ,h,ds,r,sm,o⟩=>by
  rw[r.length];unfold aU at o
  by_cases hd:ds.length=ps.length
  ·exact hd
  ·rw[if_neg hd]at o;exact o.elim
 refine zM lk hcd S hlen λA outer s H vs Q E hr hsp=>?_;have hl:=hlen _ _ _ _ hsp;obtain⟨μ,h,ds,r,sm,o⟩:=hsp;have o':Out G E μ h.length H (aZ (mb (bN N.length ds) h)) (RelD G) Q:=by unfold aU at o;rw[if_pos (by rw[<-r.length];exact hl)]at o;exact o
 refine⟨_,hbody cdv A outer s H E (EB G μ h.length H (mb (bN N.length ds) h)) (AS hr hK (λu H' ⟨c,h',μ',er,x,s',fl⟩=>?_) AU) hK, ?_⟩
 ·rw[er]at o';exact o' μ' H' u x s' fl
 ·refine⟨μ,bN N.length ds,h,G2 r N,sm, ?_⟩
  cases q:mb (bN N.length ds) h with
  |bad=>rw[q]at o';exact o'.elim
  |bk ρ h'=>rw[q]at o';exact o'.elim
  |ct ρ h'=>rw[q]at o';exact o'.elim
  |rt d h'=>rw[q]at o';exact o'
  |nx ρ h'=>rw[q]at o';exact λμ' H' σ' x' s' rs'=>o' μ' H' .non x' s' rfl
  |ex c h'=>exact λμ' H' u x' s' fl=>⟨c,h',μ',rfl,x',s',fl⟩
theorem bP {X:Cx}{F:List Dv->Hs->Rs Dv}{ps:List Str}{fd:bq}{x:Str}{p pos:Pos}{e:bu}{es:List bu}{ms:M (List Dv)}{j:Nat}(g:Good X G E k) (Fn:FnOk X.prog X.w X.K X.mg X.base (bL X.prog X.w X.base) j f fd ps (cF G F)) (hj:j<=k)
  (hg:Gl X x) (hm:X.mg x=some (.ref f)) (hk:nr X.K (.ref f)=true) (hb:Binds X.K fd ps []) (ha:dZ X G E (e::es) ms)
  (hdb:(x==("__debug__" : Str))=false:=by decide) (he:aw (e::es) X.env=(false,eval e X.env)::aw es X.env:=by rfl) (hpl:(backTo pos (aw es X.env)).any (·.1)=false:=by rfl):
  aK X G E (.Call (.Name x p) (e::es) [] pos) (aE F ms):=λhK=>
 PE.imp (PY Fn (g.room.mono hj) hg hm hk hb .nil g.pas (ha hK) hdb he hpl) λσ H Q ⟨μ,ρ,h,rs,s,o⟩=>iH rs s o λμ1 ds1 h1 vs H1 x1 rs1 s1 r1 o1=>by rw[kr];exact⟨μ1,h1,ds1,r1,s1,o1⟩
end
abbrev uV:List af:=[.type "ValueError",.type "Exception",.type "BaseException",.type "object"]
theorem SS {K:aq}{mg:Str->Option af}{base:cp}(p:bg) (m:Mod K mg base):∃eM mb,PySem.W.TopRead p eM mg mb base:=by
 obtain⟨mb,hb,hbb⟩:=m.blt;obtain⟨o,es,ep,ho,hd,hk,hf⟩:=id m.glob;refine⟨es.toList.filterMap λe=>match e.key with
  | .str n _=>some n
  |_=>none,mb,m.glob,hb,m.nolimit,hbb,λx _ hx _ _ _=>?_⟩
 rw[<-hf x]
 cases q:nsFind es x with
 |none=>rfl
 |some v=>
  exfalso
  apply hx
  unfold nsFind findBy at q;obtain⟨e,he,_⟩:=Option.map_eq_some_iff.mp q;have h1:=Array.find?_some he;have h2:=Array.mem_of_find?_eq_some he;obtain⟨n,t,hn⟩:=hk e h2;rw[hn]at h1;have h3:n=x:=by simpa[Value.isStr]using h1
  exact jt.mpr ⟨e,by simpa using h2,by rw[hn,h3]⟩
section
variable{X:Cx}{G:Cfg}{E:XK}{k:Nat}{x:Str}{C:ai}{np cpos pos:Pos}{e:bu}{es:List bu}{t:TA}{ms:M (List Dv)}{c:Nat}
theorem SU (g:Good X G E k) (hg:Gl X x) (hm:X.mg x=some (.ref C)) (hns:vk X.K ff x=some (some (.ref C))) (hx:uq X.K C uV "ValueError.__new__" = true) (ha:PA X (e::es) t) (hd:(x==("__debug__" : Str))=false:=by decide)
  (he:aw (e::es) X.env=(false,eval e X.env)::aw es X.env:=by rfl) (hpl:(backTo cpos (aw es X.env)).any (·.1)=false:=by rfl):
  PS X (.Raise (some (.Call (.Name x np) (e::es) [] cpos)) none pos) (λ_ σ H=>t σ H λvs H1=>vs.length<=ck/\∀e H',Same H1 H'->(∃T a0,H' e=some (.ext (dP (.ref C) e T a0)))->E (.ref e) none H'):=by
 intro pins s σ H D I h;obtain⟨bm,N,nm,q,bs,hdct,sn,sub,ab,col,dd,k0,k1,k2,k3,k5,mN,hC,hN,hni,T⟩:=(let ⟨_,_,tr⟩:=SS X.prog I.ok.mod;PySem.W.own_of_in I.ok.mod.kin tr hns hx).obj;refine wpAny_Raise_call_subU (C:=C) (nm:=nm) (q:=q) (N:=N) (bs:=bs) (bm:=bm) (hdct:=hdct) (sn:=sn) (sub:=sub) (ab:=ab) (col:=col) (dd:=dd) (k0:=k0) (k1:=k1) (k2:=k2) (k3:=k3) (k5:=k5)
  xk (by decide) xk (mN:=mN) (T.hasType (by decide)) (I.ok.hd g.calm) (by rw[he];show(false||(backTo cpos (aw es X.env)).any (·.1))=false;rw[hpl];rfl) hni (qK I hg hm ⟨rfl, ?_⟩ hd)
 have hh:=ha cpos pins s σ H _ I h;rw[he]at hh ⊢;refine Bs (aX hh λus s2 ⟨vs,H2,I2,r,hz,w⟩=>⟨rfl,by rw[<-r.length];exact hz,I2.bk _ _ hC,hN.keeps I2.bk,T.keeps I2.bk,λh' e' mx=>?_⟩);exact g.rais pins σ H2 s2 h' e' _ _ I2 mx λH' sm z=>w e' H' sm z
theorem SV {H:Hp}{e:ai}(hc:C=G.cl c) (z:∃T a0,H e=some (.ext (dP (.ref C) e T a0))):uC G H c (.ref e):=by obtain⟨T,a0,z⟩:=z;exact⟨e,_,rfl,z,λh ⟨oe,vs,h1,h2,_⟩=>⟨oe,h1,by rw[h2,hc]⟩⟩
def uW (c:Nat) (ms:M (List Dv)):MS:=λρ h=>(ms ρ h).thenS λds h1=>if ds.length<=1000 then .ex c h1 else .bad
theorem G3 (g:Good X G E k) (hg:Gl X x) (hm:X.mg x=some (.ref C)) (hns:vk X.K ff x=some (some (.ref C))) (hx:uq X.K C uV "ValueError.__new__" = true) (hc:C=G.cl c) (ha:dZ X G E (e::es) ms) (hd:(x==("__debug__" : Str))=false:=by decide)
  (he:aw (e::es) X.env=(false,eval e X.env)::aw es X.env:=by rfl) (hpl:(backTo cpos (aw es X.env)).any (·.1)=false:=by rfl):
  iJ X G E (.Raise (some (.Call (.Name x np) (e::es) [] cpos)) none pos) (uW c ms):=λhK=>PS.imp (SU g hg hm hns hx (ha hK) hd he hpl) λD σ H ⟨μ,ρ,h,rs,s,o⟩=>
 ⟨μ,ρ,h,rs,s,(o.thenS (R:=RelDL G)).mono λvs H1 ⟨μ1,ds,h1,x1,s1,r1,o1⟩=>by
  split at o1
  ·rename_i hl;refine⟨by rw[r1.length];exact dq hl (by decide),λe' H' sm z=>?_⟩;exact o1 μ1 H' (.ref e') (Ext.same sm) (s1.same sm) (SV hc z)
  ·exact o1.elim⟩
end
open PySem PySem.Spec PyProof.Rows PySem.W
section
variable{prog:bg}{w:cn}{A:cg}{E:af->ag->Prop}{h:cp}{g:Array GenState}{d:Drawn}{t:Nat}{os:OsState}{a C:ai}{o:Obj}{K:Frag}
structure ExK (K:Frag) (C:ai):Prop where
 ga:findIn K (.ref C) "__getattribute__" = some (some (.builtin "BaseException.__getattribute__"))
 ng:findIn K (.ref C) "__getattr__" = some none
 cl:findIn K (.ref C) "__class__" = some (some (.builtin "object.__class__"))
 ob:mroIn K C (.type "object")=some true
 be:subIn K (.ref C) (.type "BaseException")=some true
 se:kitCls K (.ref C) (.ref C)=some true
 lk:∃oc od cd osl,K.lookup C=some ⟨oc,od,.cls cd,osl⟩
theorem kindGa:builtinKind "BaseException.__getattribute__" = some .slot/\splitId "BaseException.__getattribute__" = some ("BaseException","__getattribute__"):=by decide +kernel
theorem SX:(ux "BaseException.__getattribute__" == ux "object.__getattribute__")=false:=by decide +kernel
section
variable{R:xi->ag->Prop}{s:ag}
theorem SY {M:Aq}{n:af}{Q:Unit->ag->Prop}(X:K.In s.heap) (I:InstAt s.heap a o C none) (k:ExK K C) (hq:Q () s):wpAny M A (checkBuiltinCall "BaseException.__getattribute__" ⟨[.ref a,n],[]⟩) Q E s:=by
 have one:Looks M s.heap (isInstance (.ref a) (.type "BaseException")) true:=I.type.andThen (looks_subIn X k.be);have two:=F.args_bexc_ga (.ref a) n;obtain⟨hh,g,d,t,os⟩:=s;unfold checkBuiltinCall;rw[kindGa.1,kindGa.2];refine aa (one.at ?_)
 repeat (first|assumption|wp_step)
theorem S0 {n:Tok}(X:K.In s.heap) (I:InstAt s.heap a o C none) (k:ExK K C) (hq:R (.ok (.ret (.ref C))) s):codeAny (model prog w) A (.call (.builtin "BaseException.__getattribute__") ⟨[.ref a,.str "__class__" n],[]⟩) R s:=by
 refine qf F.excAttr_ValueError.ga.plain F.entry_bexc_ga (SY X I k ?_);have own:=I.type (M:=model prog w);have entry:=looks_findIn (M:=model prog w) X k.cl;have of_get:=F.slot_gs_get.lookup;have of_set:=F.slot_gs_set.lookup;have kind:=F.typeOf_object_class;have kindIs:s.TypeIs (.builtin "object.__class__") "getset_descriptor" := kind;obtain⟨hh,g,d,t,os⟩:=s
 repeat (any_goals (first|assumption|with_reducible refine own.at ?_|with_reducible refine entry.at ?_|wp_step))
 exact class_get (s:=⟨hh,g,d,t,os⟩) X I k.ob (by repeat (any_goals (first|assumption|wp_step)))
end
theorem S1 {Q:Option af->ag->Prop}(X:K.In h) (I:InstAt h a o C none) (k:ExK K C) (hq:Q (some (.ref C)) ⟨h,g,d,t+1,os⟩):
  wpAny (model prog w) A (getAttr? (.ref a) "__class__") Q E ⟨h,g,d,t,os⟩:=by
 have own:=I.type (M:=model prog w);have first_:=looks_findIn (M:=model prog w) X k.ga;have then_:=looks_findIn (M:=model prog w) X k.ng;have bound:=F.excAttr_ValueError.ga.bind (.ref a);have other:=SX;have apart:(onTheHeap (dh C)&&ux "BaseException.__getattribute__" == ux "object.__getattribute__")=false:=by rw[other];rfl
 unfold getAttr? getAttrBy?
 repeat (any_goals (first|assumption|with_reducible refine own.at ?_|with_reducible refine first_.at ?_|with_reducible refine then_.at ?_|wp_step))
 exact S0 X I k (by repeat (any_goals (first|assumption|wp_step)))
def S3 (a C:ai) (h:cp):Prop:=∃o,InstAt h a o C none
theorem S4 (k:ExK K C):KitX K (.ref a) (.ref C) (S3 a C) where
 ty:=λ_ _ _ ⟨_,I⟩=>I.type
 it:=λ_ _ X _=>(kit_cls X k.se).2.1
 ne:=λh tp dd its n sl X htp=>by
  cases z:(dh C==dh tp)with
  |false=>rfl
  |true=>
   obtain rfl:C=tp:=by simpa using z
   obtain⟨oc,od,cd,osl,lk⟩:=k.lk;have:=X _ _ lk;rw[htp]at this;simp at this
 ca:=λ{prog w A E Q s} X ⟨o,I⟩ hq=>by obtain⟨hh,g,d,t,os⟩:=s;exact S1 X I k hq
end
inductive Ty where
 |non|bl|int|str|tup|lst|dct|exc (c:Nat)
def gQ:Dv->Hs->Option Ty
 | .non,_=>some .non
 | .bl _,_=>some .bl
 | .int _,_=>some .int
 | .str _,_=>some .str
 | .tup _,_=>some .tup
 | .ref i,h=>match getL h i with
  |some _=>some .lst
  |none=>none
 | .edc,_=>some .dct
 | .exc c,_=>some (.exc c)
 | .scr,_=>none
def kL (cl:Nat->ai):Ty->af
 | .non=>.type "NoneType"
 | .bl=>.type "bool"
 | .int=>.type "int"
 | .str=>.type "str"
 | .tup=>.type "tuple"
 | .lst=>.type "list"
 | .dct=>.type "dict"
 | .exc c=>.ref (cl c)
def bF (f:Ty->Option Bool) (d:Dv) (h:Hs):Rs Dv:=match gQ d h with
 |some ty=>match f ty with
  |some b=>.ok (.bl b) h
  |none=>.bad
 |none=>.bad
section
variable{X:Cx}{G:Cfg}{E:XK}{pins:List (ai×Obj)}{σ:St}{H:Hp}{s:ag}
theorem G4 {μ:Nat->ai}{h:Hs}{d:Dv}{v:V}{u:af}{ty:Ty}(I:Inv X pins σ H s) (sm:Sim G μ h H) (r:RelD G μ h.length H d v) (ru:RelV v u) (e:gQ d h=some ty) (hex:∀c,ty=.exc c->ExK X.K (G.cl c)):
  ∃P,KitX X.K u (kL G.cl ty) P/\P s.heap/\u≠.builtin "__main__.__loader__#opaque":=by
 cases d with
 |non=>cases e;rw[RelD]at r;subst r;cases ru;exact⟨_,kitx_none,trivial,λz=>nomatch z⟩
 |bl b=>cases e;rw[RelD]at r;subst r;cases ru;exact⟨_,kitx_bool,trivial,λz=>nomatch z⟩
 |int i=>cases e;rw[RelD]at r;subst r;obtain⟨t,rfl⟩:=ru;exact⟨_,kitx_int,trivial,λz=>nomatch z⟩
 |str i=>cases e;rw[RelD]at r;subst r;obtain⟨t,rfl⟩:=ru;exact⟨_,kitx_str,trivial,λz=>nomatch z⟩
 |tup ds=>
  cases e;obtain⟨a,vs,rfl,ea,_⟩:=r;cases ru;obtain⟨_,_,_,o,h1,h2,_⟩:=(show ObjOk X.prog X.w H s.heap a (.tup vs) from I.hok a _ ea)
  exact⟨_,kitx_tuple,⟨o,h1,h2⟩,λz=>nomatch z⟩
 |ref i=>
  dsimp only[gQ]at e
  cases g:getL h i with
  |none=>rw[g]at e;cases e
  |some xs=>
   rw[g]at e;cases e;obtain⟨_,rfl⟩:=r;cases ru;obtain⟨vs,ea,_⟩:=sm.ob i _ (eG g);obtain⟨_,_,n,_,h1⟩:=(show ObjOk X.prog X.w H s.heap (μ i) (.lst vs) from I.hok _ _ ea)
   exact⟨_,kitx_list,⟨_,h1,rfl⟩,λz=>nomatch z⟩
 |edc=>
  cases e;obtain⟨a,rfl,ea⟩:=r;cases ru;obtain⟨_,_,vs,_,p⟩:=(show ObjOk X.prog X.w H s.heap a (.dK []) from I.hok a _ ea)
  obtain⟨o,es,ep,h1,h2,_⟩:=p;exact⟨_,kitx_dict,⟨o,h1,h2.1⟩,λz=>nomatch z⟩
 |exc c=>
  cases e;obtain⟨a,o,uo,rfl,ea,hc,hdn,vs,hd⟩:=r;cases ru;obtain⟨h1,_⟩:=(show ObjOk X.prog X.w H s.heap a (.frz o uo) from I.hok a _ ea)
  refine⟨_,S4 (hex c rfl),⟨o,h1,hc, ?_, ?_⟩,λz=>nomatch z⟩
  ·unfold notCls;rw[hd]
  ·rw[hdn];trivial
 |scr=>cases e
end
section
variable{X:Cx}{G:Cfg}{E:XK}{a b:bu}{ma:M Dv}{p pos:Pos}{f:Ty->Option Bool}
theorem G5:dz "isinstance" = some (.builtin "isinstance"):=by decide +kernel
def G6 (G:Cfg) (f:Ty->Option Bool) (c:V):List V->Hp->VK->Prop:=λxs H Q=>∃μ h d v ty bb,xs=[v,c]/\Sim G μ h H/\RelD G μ h.length H d v/\gQ d h=some ty/\f ty=some bb/\Q (.bl bb) H
theorem S5 {c:V}{u:af}(hc:(∃T,c=.ty T)∨∃C,c=.ref C) (rc:RelV c u) (hf:∀ty bb,f ty=some bb->kitOne X.K (kL G.cl ty) u=some bb) (hex:∀c bb,f (.exc c)=some bb->ExK X.K (G.cl c)):CallR X (.builtin "isinstance") (G6 G f c):=by
 intro pins s σ H xs us Q I rv ⟨μ,h,d,v,ty,bb,e1,sm,r,et,ef,q⟩;subst e1;obtain⟨u1,u2,rfl,r1,r2⟩:=oW rv;have e2:u2=u:=by rcases hc with⟨T,rfl⟩|⟨C,rfl⟩ <;> (cases rc;cases r2;rfl)
 subst e2;obtain⟨P,Z,hP,hne⟩:=G4 I sm r r1 et (λc z=>by subst z;exact hex c bb ef);exact kia_one Z I.kIn hP (hf ty bb ef) hne λtk=>⟨.bl bb,H,I.tok _,rfl,q⟩
theorem nU {x:Str}{T:String}(hg:Gl X x) (hm:X.mg x=none) (hv:dz x=some (.type T)) (hn:x ≠ "__name__" := by decide) (hd:(x==("__debug__" : Str))=false:=by decide):PE X (.Name x pos) (tC (.ty T)):=λpins s σ H Q I h=>lX I hg hm hv ⟨.ty T,H,I,rfl,h⟩ hn hd
theorem pK {c:V}{u:af}(hg:Gl X "isinstance") (hm:X.mg "isinstance" = none) (ha:aK X G E a ma) (hb:PE X b (tC c)) (hc:(∃T,c=.ty T)∨∃C,c=.ref C) (rc:RelV c u)
  (hf:∀ty bb,f ty=some bb->kitOne G.K (kL G.cl ty) u=some bb) (hex:∀c bb,f (.exc c)=some bb->ExK G.K (G.cl c))
  (he:aw [a,b] X.env=[(false,eval a X.env),(false,eval b X.env)]:=by rfl) (he2:aw [b] X.env=[(false,eval b X.env)]:=by rfl):
  aK X G E (.Call (.Name "isinstance" p) [a,b] [] pos) (m1 (bF f) ma):=λhK=>
 PE.imp (oX (S5 (G:=G) (f:=f) hc rc (by rw[hK];exact hf) (by rw[hK];exact hex)) hg hm G5 (gW (ha hK) (gW hb jA he2) (by rw[he,he2])) (by decide) (by decide) (by rw[he,he2]) (by rw[he2];rfl))
  λσ H Q ⟨μ,ρ,h,rs,s,o⟩=>eO rs s o λμ1 d h1 v H1 x1 rs1 s1 r1 o1=>by
   show G6 G f c [v,c] H1 Q;unfold bF at o1
   cases q:gQ d h1 with
   |none=>rw[q]at o1;exact o1.elim
   |some ty=>
    rw[q]at o1;dsimp only at o1
    cases q2:f ty with
    |none=>rw[q2]at o1;exact o1.elim
    |some bb=>rw[q2]at o1;exact⟨μ1,h1,d,v,ty,bb,rfl,s1,r1,q,q2,o1.val s1 rfl⟩
def G7 (G:Cfg) (f:Ty->Option Bool) (cs:List V):List V->Hp->VK->Prop:=λxs H Q=>∃μ h d v ty bb tp,xs=[v,.ref tp]/\H tp=some (.tup cs)/\Sim G μ h H/\RelD G μ h.length H d v/\gQ d h=some ty/\f ty=some bb/\Q (.bl bb) H
theorem S6 {cs:List V}{us:List af}(hcs:∀us',Vals cs us'->us'=us) (hf:∀ty bb,f ty=some bb->kitAny X.K (kL G.cl ty) us=some bb) (hex:∀c bb,f (.exc c)=some bb->ExK X.K (G.cl c)):CallR X (.builtin "isinstance") (G7 G f cs):=by
 intro pins s σ H xs uu Q I rv ⟨μ,h,d,v,ty,bb,tp,e1,etp,sm,r,et,ef,q⟩;subst e1;obtain⟨u1,u2,rfl,r1,r2⟩:=oW rv;cases r2;obtain⟨_,its,rits,o,h1,h2,_,n,h3⟩:=(show ObjOk X.prog X.w H s.heap tp (.tup cs) from I.hok tp _ etp)
 have eits:=hcs its rits;subst eits;obtain⟨oc,od,odata,osl⟩:=o
 cases h2;cases h3
 obtain⟨P,Z,hP,hne⟩:=G4 I sm r r1 et (λc z=>by subst z;exact hex c bb ef);exact kia_tup Z I.kIn hP h1 (hf ty bb ef) hne λtk=>⟨.bl bb,H,I.tok _,rfl,q⟩
theorem S7 {cs:List V}{us:List af}{bs:List bu}{kt:Nat}{tpos:Pos}(hg:Gl X "isinstance") (hm:X.mg "isinstance" = none) (ha:aK X G E a ma) (hb:PA X bs (λ_ H Q=>Q cs H)) (hl:cs.length<=ck) (hcs:∀us',Vals cs us'->us'=us)
  (hf:∀ty bb,f ty=some bb->kitAny G.K (kL G.cl ty) us=some bb) (hex:∀c bb,f (.exc c)=some bb->ExK G.K (G.cl c))
  (he:aw [a,.Tuple bs kt tpos] X.env=[(false,eval a X.env),(false,eval (.Tuple bs kt tpos) X.env)]:=by rfl) (he2:aw [.Tuple bs kt tpos] X.env=[(false,eval (.Tuple bs kt tpos) X.env)]:=by rfl):
  aK X G E (.Call (.Name "isinstance" p) [a,.Tuple bs kt tpos] [] pos) (m1 (bF f) ma):=λhK=>
 PE.imp (oX (S6 (G:=G) (f:=f) hcs (by rw[hK];exact hf) (by rw[hK];exact hex)) hg hm G5 (gW (ha hK) (gW (E9 hb) jA he2) (by rw[he,he2])) (by decide) (by decide) (by rw[he,he2]) (by rw[he2];rfl))
  λσ H Q ⟨μ,ρ,h,rs,s,o⟩=>eO rs s o λμ1 d h1 v H1 x1 rs1 s1 r1 o1=>by
   refine⟨hl,λtp htp=>?_⟩;show G7 G f cs [v,.ref tp] (upd H1 tp (.tup cs)) Q;unfold bF at o1
   cases q:gQ d h1 with
   |none=>rw[q]at o1;exact o1.elim
   |some ty=>
    rw[q]at o1;dsimp only at o1
    cases q2:f ty with
    |none=>rw[q2]at o1;exact o1.elim
    |some bb=>rw[q2]at o1;have x2:Ext μ1 h1.length H1 μ1 h1.length (upd H1 tp (.tup cs)):=Ext.same (cG htp);exact⟨μ1,h1,d,v,ty,bb,tp,rfl,cK,s1.same (cG htp),RelD.mono x2 _ _ r1,q,q2,o1 μ1 _ _ x2 (s1.same (cG htp)) rfl⟩
end
def mI:Dv->Option Bool
 | .bl b=>some b
 |_=>none
theorem AV {G:Cfg}{μ:Nat->ai}{n:Nat}{H:Hp}:∀{xs:List Dv}{vs:List V}{bs:List Bool},RelDL G μ n H xs vs->bU mI xs=some bs->vs=bs.map V.bl
 | [],vs,bs,r,e=>by cases e;rw[RelDL]at r;exact r
 |x::xs,vs,bs,r,e=>by
  rw[RelDL]at r;obtain⟨v,rr,rfl,r1,r2⟩:=r;unfold bU at e
  cases x with
  |bl b=>
   dsimp only[mI]at e
   cases q:bU mI xs with
   |none=>rw[q]at e;cases e
   |some zs=>rw[q]at e;cases e;rw[RelD]at r1;subst r1;rw[AV r2 q];rfl
  |_=>cases e
section
variable{X:Cx}{pins:List (ai×Obj)}{σ:St}{H:Hp}{s:ag}
theorem S8 (bs:List Bool):(bf bs.length).all (λi=>bs.getD i false)=bs.all id:=by
 rw[fj,gk,gk];constructor
 ·intro h b hb;obtain⟨i,hi,rfl⟩:=ur.mp hb;simpa[nt,hi]using h i (bp.mpr hi)
 ·intro h i hi;have hi:=bp.mp hi;simpa[nt,hi]using h _ (dj hi)
theorem S9 (bs:List Bool):(bf bs.length).any (λi=>bs.getD i false)=bs.any id:=by
 rw[fj,mn,mn];constructor
 ·rintro ⟨i,hi,h⟩
  have hi:=bp.mp hi;exact⟨bs[i],dj hi,by simpa[nt,hi]using h⟩
 ·rintro ⟨b,hb,h⟩
  obtain⟨i,hi,rfl⟩:=ur.mp hb;exact⟨i,bp.mpr hi,by simpa[nt,hi]using h⟩
theorem TB {bs:List Bool}{its:List af}(rv:Vals (bs.map V.bl) its) {i:Nat}{v:af}(e:its.toArray[i]?=some v):v=.bool (bs.getD i false):=by
 have hl:=rv.length;rw[bo]at hl;have e':its[i]?=some v:=by simpa using e
 have hi:i<its.length:=(az.mp e').1;have hb:i<bs.length:=by omega
 obtain⟨u,e2,r⟩:=rv.get (i:=i) (x:=V.bl bs[i]) (by simp[hb]);rw[e']at e2;cases e2;have hg:bs.getD i false=bs[i]:=by simp[nt,hb]
 rw[hg];exact r
theorem G8 {bs:List Bool}{its:List af}{A:cg}(rv:Vals (bs.map V.bl) its):TruthOf X.prog X.w A (λi v=>its.toArray[i]?=some v) (λi=>bs.getD i false):=by intro i v s Q E e q;rw[TB rv e];exact jz q
theorem G9 {o:Obj}{h':cp}{tk:Nat}(I:Inv X pins σ H s) (k:∀b u,b∉[s.heap.objs.size]->(s.heap.push o).get? b=some u->h'.get? b=some u):Inv X pins σ H { s with heap:=h',toks:=tk }:=by have I1:Inv X pins σ H { s with heap:=s.heap.push o }:=I.kept (t':=s.toks) λb u e=>aj _ e;obtain⟨f0,f1,f2,f3,f4,f5⟩:=I.fpOk (ak s.heap.objs.size) I.fresh;exact I1.turned (t':=tk) (λb u hb e=>k b u (by simpa using hb) e) f0 f1 f3 f4 f5
theorem TF (hc:X.calm=true):CallR X (.builtin "all") (λxs H Q=>∃(p:ai) (bs:List Bool),xs=[.ref p]/\H p=some (.lst (bs.map V.bl))/\Q (.bl (bs.all id)) H):=by
 intro pins s σ H xs us Q I rv ⟨p,bs,e,hp,q⟩;subst e;obtain⟨u,rfl,ru⟩:=iF rv;cases ru;obtain⟨its,rits,pl,hz⟩:=I.list (SqL.of hp);have hn:its.toArray.size=bs.length:=by have:=rits.length;simp at this ⊢;omega
 have ne:p≠s.heap.objs.size:=bc (I.hok.lt hp);refine call_all_walk (tj pl.isList ⟨_,_,_,_,_,_,λi=>bs.getD i false,rfl,Cr (A:=X.A.in1) (show X.A.in1.handled=none from I.ok.hd hc) _ p ne its.toArray,⟨⟨_,ax _ rfl,rfl,rfl⟩,pl.isList.push _⟩,G8 rits,λh' tk k=>?_⟩);rw[hn,S8];exact⟨.bl _,H,(G9 (tk:=tk) I k:Inv X pins σ H { s with heap:=h',toks:=tk }),rfl,q⟩
theorem TH (hc:X.calm=true):CallR X (.builtin "any") (λxs H Q=>∃(p:ai) (bs:List Bool),xs=[.ref p]/\H p=some (.lst (bs.map V.bl))/\Q (.bl (bs.any id)) H):=by
 intro pins s σ H xs us Q I rv ⟨p,bs,e,hp,q⟩;subst e;obtain⟨u,rfl,ru⟩:=iF rv;cases ru;obtain⟨its,rits,pl,hz⟩:=I.list (SqL.of hp);have hn:its.toArray.size=bs.length:=by have:=rits.length;simp at this ⊢;omega
 have ne:p≠s.heap.objs.size:=bc (I.hok.lt hp);refine call_any_walk (tj pl.isList ⟨_,_,_,_,_,_,λi=>bs.getD i false,rfl,Cr (A:=X.A.in1) (show X.A.in1.handled=none from I.ok.hd hc) _ p ne its.toArray,⟨⟨_,ax _ rfl,rfl,rfl⟩,pl.isList.push _⟩,G8 rits,λh' tk k=>?_⟩);rw[hn,S9];exact⟨.bl _,H,(G9 (tk:=tk) I k:Inv X pins σ H { s with heap:=h',toks:=tk }),rfl,q⟩
end
section
variable{X:Cx}{G:Cfg}{E:XK}{e:bu}{ml:M (List Dv)}{x:Str}{p pos:Pos}{bid T:String}
def mL (f:List Dv->Hs->Rs Dv) (ml:M (List Dv)):M Dv:=λρ h=>(ml ρ h).bind f
def HB (G:Cfg) (r:List V->Hp->VK->Prop) (f:List Dv->Hs->Rs Dv):Prop:=∀(E:XK) (μ:Nat->ai) (h:Hs) (H:Hp) (xs:List Dv) (a:ai) (vs:List V) (Q:VK),Sim G μ h H->H a=some (.lst vs)->RelDL G μ h.length H xs vs->Out G E μ h.length H (f xs h) (RelD G) Q->r [.ref a] H Q
theorem TJ {r:List V->Hp->VK->Prop}{f:List Dv->Hs->Rs Dv}(hd:HB G r f) {σ:St}{H:Hp}{Q:VK}(t:gL G E (mL f ml) σ H Q):tV r (E8 (uS G E ml) E7) σ H Q:=by obtain⟨μ,ρ,h,rs,s,o⟩:=t;refine⟨μ,ρ,h,rs,s,(o.bind (R1:=RL G)).mono λv H1 ⟨μ1,xs,h1,x1,s1,⟨a,vs,ev,ea,_,r1⟩,o1⟩=>?_⟩;subst ev;exact hd E μ1 h1 H1 xs a vs Q s1 ea r1 o1
theorem HC {r:List V->Hp->VK->Prop}{f:List Dv->Hs->Rs Dv}(hc:CallR X (.builtin bid) r) (hd:HB G r f) (hg:Gl X x) (hm:X.mg x=none) (hv:dz x=some (.builtin bid)) (ha:pI X G E e ml) (hn:x ≠ "__name__" := by decide) (hdb:(x==("__debug__" : Str))=false:=by decide)
  (he:aw [e] X.env=[(false,eval e X.env)]:=by rfl):aK X G E (.Call (.Name x p) [e] [] pos) (mL f ml):=λhK=>
 PE.imp (oX hc hg hm hv (gW (ha hK) jA he) hn hdb he rfl) λ_ _ _ t=>TJ hd t
theorem TL:dz "all" = some (.builtin "all"):=by decide +kernel
theorem TM:dz "any" = some (.builtin "any"):=by decide +kernel
def fR (xs:List Dv) (h:Hs):Rs Dv:=match bU mI xs with
 |some bs=>.ok (.bl (bs.all id)) h
 |none=>.bad
def rF (xs:List Dv) (h:Hs):Rs Dv:=match bU mI xs with
 |some bs=>.ok (.bl (bs.any id)) h
 |none=>.bad
theorem nV (hc:X.calm=true) (hg:Gl X "all") (hm:X.mg "all" = none) (ha:pI X G E e ml) (he:aw [e] X.env=[(false,eval e X.env)]:=by rfl):aK X G E (.Call (.Name "all" p) [e] [] pos) (mL fR ml):=
 HC (TF hc) (λE μ h H xs a vs Q s ea r o=>by
  unfold fR at o
  cases q:bU mI xs with
  |none=>rw[q]at o;exact o.elim
  |some bs=>rw[q]at o;exact⟨a,bs,rfl,by rw[ea,AV r q],o.val s rfl⟩) hg hm TL ha (by decide) (by decide) he
theorem TN (hc:X.calm=true) (hg:Gl X "any") (hm:X.mg "any" = none) (ha:pI X G E e ml) (he:aw [e] X.env=[(false,eval e X.env)]:=by rfl):aK X G E (.Call (.Name "any" p) [e] [] pos) (mL rF ml):=
 HC (TH hc) (λE μ h H xs a vs Q s ea r o=>by
  unfold rF at o
  cases q:bU mI xs with
  |none=>rw[q]at o;exact o.elim
  |some bs=>rw[q]at o;exact⟨a,bs,rfl,by rw[ea,AV r q],o.val s rfl⟩) hg hm TM ha (by decide) (by decide) he
end
section
variable{X:Cx}{G:Cfg}{E:XK}{o e i:bu}{mo me mi:M Dv}{ml:M (List Dv)}{pos apos cpos:Pos}
theorem TQ {H:Hp}{a:ai}{vs:List V}(e:H a=some (.lst vs)):tW X.K "list" (.ref a) H:=.inl ⟨rfl,vs,SqL.of e⟩
def kM (o d:Dv) (h:Hs):Rs Dv:=match o with
 | .ref j=>match getL h j with
  |some xs=>if xs.length<1000000 then .ok .non (h.set j (.lst (xs++[d])))else .bad
  |none=>.bad
 |_=>.bad
def iM (o:Dv) (h:Hs):Bool:=match o with
 | .ref j=>(getL h j).isSome
 |_=>false
def fT (mo me:M Dv):M Dv:=λρ h=>(mo ρ h).bind λx h1=>if iM x h1=true then(me ρ h1).bind λd h2=>kM x d h2 else .bad
theorem HD {μ:Nat->ai}{h:Hs}{H:Hp}{x:Dv}{v:V}(s:Sim G μ h H) (r:RelD G μ h.length H x v) (e:iM x h=true):tW X.K "list" v H:=by
 cases x with
 |ref j=>obtain⟨xs,q⟩:=yj.mp (show(getL h j).isSome=true from e);obtain⟨vs,ea,_⟩:=s.ob j _ (eG q);obtain⟨_,rfl⟩:=r;exact TQ ea
 |_=>cases e
theorem pL {y:Str}{np:Pos}(ho:aK X G E (.Name y np) mo) (he:aK X G E e me) (hs:aw [e] X.env=[(false,eval e X.env)]:=by rfl) (hl:(apos.endLine==cpos.line)=true:=by rfl):aK X G E (.Call (.Attribute (.Name y np) "append" apos) [e] [] cpos) (fT mo me):=λhK=>
 PE.imp (FU zd PySem.F.slot_list_append PySem.F.type_list_append Q0 (ho hK) (gW (he hK) jA hs) rfl (by rw[hs];rfl) hl hs rfl) λσ H Q ⟨μ,ρ,h,rs,s,oo⟩=>eO rs s oo λμ1 x h1 vx H1 x1 rs1 s1 r1 o1=>by
  split at o1
  ·rename_i hl;refine⟨HD s1 r1 hl,eO rs1 s1 o1 λμ2 d h2 vd H2 x2 rs2 s2 r2 o2=>?_⟩
   cases x with
   |ref j=>
    dsimp only[kM]at o2
    cases q:getL h2 j with
    |none=>rw[q]at o2;exact o2.elim
    |some xs=>
     rw[q]at o2;dsimp only at o2
     split at o2
     ·rename_i hz;obtain⟨vs,ea,ra⟩:=s2.ob j _ (eG q);obtain⟨_,rfl⟩:=RelD.mono x2 _ _ r1;obtain⟨x3,s3⟩:=s2.write (eG q) (ra.append (RelDL.cons r2 RelDL.nil));exact⟨_,vs,vd,rfl,rfl,ea,by rw[ra.length];exact au hz (by decide),o2 μ2 _ _ x3 s3 rfl⟩
     ·exact o2.elim
   |_=>exact o2.elim
  ·exact o1.elim
end
section
variable{X:Cx}{G:Cfg}{E:XK}{e i:bu}{mo me mi:M Dv}{ml:M (List Dv)}{pos apos cpos np:Pos}{y:Str}
def uX (o i d:Dv) (h:Hs):Option Hs:=match o,i with
 | .ref j,.int k=>match getL h j with
  |some xs=>match ixN xs.length k with
   |some n=>some (h.set j (.lst (xs.set n d)))
   |none=>none
  |none=>none
 |_,_=>none
def rG (mo mi me:M Dv):MS:=λρ h=>(me ρ h).thenS λd h1=>(mo ρ h1).thenS λo h2=>(mi ρ h2).thenS λi h3=>match uX o i d h3 with
 |some h4=>.nx ρ h4
 |none=>.bad
theorem HE {o:bu}{spos:Pos}(ho:aK X G E o mo) (hi:aK X G E i mi) (he:aK X G E e me)
  (ha:∀v,assign (.Subscript o i spos) X.env v=(do
   let ov <-holding [v] (eval o X.env)
   let iv <-holding [v,ov] (eval i X.env)
   standAt spos
   holding [v,ov,iv] (setItem ov iv v)
   release [v,ov,iv] []):=by intro _;rfl)
  (hs:swapsWithSole [.Subscript o i spos] e pos.line X.env=pure false:=by rfl) (hw:swappedStores [.Subscript o i spos] e X.env=pure none:=by rfl)
  (h1:(assignEach [.Subscript o i spos] X.env).map (·.2)=[assign (.Subscript o i spos) X.env]:=by rfl):iJ X G E (.Assign [.Subscript o i spos] e pos) (rG mo mi me):=λhK=>
 PS.imp (EY (he hK) (OH (ho hK) (hi hK) QQ ha) hs hw h1) λD σ H ⟨μ,ρ,h,rs,s,oo⟩=>mG rs s oo λμ1 d h1 v H1 x1 rs1 s1 r1 o1=>mG rs1 s1 o1 λμ2 ob h2 vo H2 x2 rs2 s2 r2 o2=>mG rs2 s2 o2 λμ3 ix h3 vi H3 x3 rs3 s3 r3 o3=>by
  cases ob with
  |ref j=>
   cases ix with
   |int k=>
    dsimp only[uX]at o3
    cases q:getL h3 j with
    |none=>rw[q]at o3;exact o3.elim
    |some xs=>
     rw[q]at o3;dsimp only at o3
     cases q2:ixN xs.length k with
     |none=>rw[q2]at o3;exact o3.elim
     |some n=>rw[q2]at o3;obtain⟨vs,ea,ra⟩:=s3.ob j _ (eG q);obtain⟨_,rfl⟩:=RelD.mono x3 _ _ r2;rw[RelD]at r3;subst r3;obtain⟨x4,s4⟩:=s3.write (eG q) (RelDL.set (RelD.mono (x2.trans x3) _ _ r1) n ra);exact⟨_,vs,k,n,rfl,rfl,ea,by rw[ra.length];exact q2,o3 μ3 _ σ x4 s4 (rs3.mono x4)⟩
   |_=>exact o3.elim
  |_=>cases ix <;> exact o3.elim
end
section
variable{prog:bg}{w:cn}{A:cg}{E:af->ag->Prop}{s:ag}
theorem TR {it t:ai}{i:Nat}{items:Array af}{x:af}{Q:af->ag->Prop}(hit:s.heap.IsTupleIter it t i) (ht:s.heap.IsTuple t items) (hx:items[i]?=some x)
  (k:∀h',h'.IsTupleIter it t (i+1)->ig it s.heap h'->Q x { s with heap:=h' }):wpAny (model prog w) A (cq (.ref it)) Q E s:=by
 obtain⟨o,ho,hc,hd⟩:=id hit;obtain⟨ol,hol,hcl,nl,hdl⟩:=id ht;refine aa (da (name:=ik "__next__") hit.typeIs F.slot_tuple_iterator_next (ed F.slot_tuple_iterator_next hit.typeIs F.entry_tuple_iterator_next ?_ (F.args_tuple_iterator_next_1 _)));have q0:∀{Q':af->ag->Prop}{E':af->ag->Prop}{B:cg},Q' (.ref t) s->wpAny (model prog w) B (field (.ref it) 0) Q' E' s:=λq=>dg ho hd (x:=.ref t) rfl q;have q1:∀{Q':af->ag->Prop}{E':af->ag->Prop}{B:cg},Q' (.int i 0) s->wpAny (model prog w) B (field (.ref it) 1) Q' E' s:=λq=>dg ho hd (x:=.int i 0) rfl q;refine aa (ah (aa (q0 ?_)));dsimp only;rw[if_neg (by simp)];refine aa (q1 (aa (gr hol hdl ?_)));rw[show((i:Int)).toNat=i from fe i];dsimp only;rw[hx];refine aa (Bu ho hd (by simp) (ah ⟨x,rfl,ah (k _ ⟨_,ow _ ho (Ce (vt hd _)), ?_, ?_⟩ (ou ..))⟩))
 ·rw[Obj.cls_mapFields];exact hc
 ·rw[vt hd];simp[rawInt]
end
section
variable{prog:bg}{w:cn}{A:cg}{E:af->ag->Prop}{s:ag}
theorem TU {α:Type}{Q:α->ag->Prop}(hh:A.handled=none) (k:∀h' e,(∀b o,s.heap.get? b=some o->h'.get? b=some o)->(∃o,h'.get? e=some o/\o.cls=.type "StopIteration")->E (.ref e) { s with heap:=h' }):
  wpAny (model prog w) A (qz:Sem α) Q E s:=by
 have e0:firstArgMember (.type "StopIteration") []=pure jq:=by show(pure (if _ then jq else jq):Sem af)=_;rw[ite_self]
 unfold qz newExc newTuple;refine aa (aa (dm (aa (Au e0 (dm (wpAny_raiseNew_none hh (k _ _ (λb o q=>aj _ (aj _ q)) ⟨_,ax _ rfl,rfl⟩)) (by size_fits)))) (by size_fits)))
theorem TV {it t:ai}{i:Nat}{items:Array af}{Q:af->ag->Prop}(hh:A.handled=none) (hit:s.heap.IsTupleIter it t i) (ht:s.heap.IsTuple t items) (hx:items[i]?=none)
  (k:∀h' e,Cf it s.heap h'->(∃o,h'.get? e=some o/\o.cls=.type "StopIteration")->E (.ref e) { s with heap:=h' }):wpAny (model prog w) A (cq (.ref it)) Q E s:=by
 obtain⟨o,ho,hc,hd⟩:=id hit;obtain⟨ol,hol,hcl,nl,hdl⟩:=id ht;refine aa (da (name:=ik "__next__") hit.typeIs F.slot_tuple_iterator_next (ed F.slot_tuple_iterator_next hit.typeIs F.entry_tuple_iterator_next ?_ (F.args_tuple_iterator_next_1 _)));have q0:∀{Q':af->ag->Prop}{E':af->ag->Prop}{B:cg},Q' (.ref t) s->wpAny (model prog w) B (field (.ref it) 0) Q' E' s:=λq=>dg ho hd (x:=.ref t) rfl q;have q1:∀{Q':af->ag->Prop}{E':af->ag->Prop}{B:cg},Q' (.int i 0) s->wpAny (model prog w) B (field (.ref it) 1) Q' E' s:=λq=>dg ho hd (x:=.int i 0) rfl q;refine aa (ah (aa (q0 ?_)));dsimp only;rw[if_neg (by simp)];refine aa (q1 (aa (gr hol hdl ?_)));rw[show((i:Int)).toNat=i from fe i];dsimp only;rw[hx];refine aa (rn (aa (Bu ho hd (by simp) (TU (show A.in1.handled=none from hh) λh' e kp st=>k h' e (λb u hb q=>kp b u ?_) st))));rw[ji _ _ (cm hb)];exact q
end
structure Draws (prog:bg) (w:cn) (it src:ai) (xs:List af) (st:Nat->cp->Prop):Prop where
 keep:∀i h h',st i h->(∀b o,b=it∨b=src->h.get? b=some o->h'.get? b=some o)->st i h'
 there:∀i h,st i h->∃o vs,h.get? it=some o/\o.data=.fields vs
 item:∀(A:cg) (i:Nat) (x:af) (s:ag) (Q:af->ag->Prop) (E:af->ag->Prop),xs[i]?=some x->st i s.heap->
  (∀h',st (i+1) h'->ig it s.heap h'->Q x { s with heap:=h' })->wpAny (model prog w) A (cq (.ref it)) Q E s
 done:∀(A:cg) (i:Nat) (s:ag) (Q:af->ag->Prop) (E:af->ag->Prop),A.handled=none->xs[i]?=none->st i s.heap->
  (∀h' e,Cf it s.heap h'->(∃o,h'.get? e=some o/\o.cls=.type "StopIteration")->E (.ref e) { s with heap:=h' })->wpAny (model prog w) A (cq (.ref it)) Q E s
structure Four (z TI TO i j u v:ai):Prop where
 a:z≠TO
 b:z≠i
 c:z≠j
 d:TO≠i
 e:TO≠j
 f:i≠j
 g:TI≠z
 h:TI≠TO
 k:TI≠i
 l:TI≠j
 u1:u≠z
 u2:u≠TO
 u3:u≠i
 u4:u≠j
 v1:v≠z
 v2:v≠TO
 v3:v≠i
 v4:v≠j
theorem eR {b x y c:ai}(h:b=x∨b=y) (p:x≠c) (q:y≠c):b≠c:=by
 rcases h with h|h
 ·rw[h];exact p
 ·rw[h];exact q
def uY (z TO i j:ai) (h h':cp):Prop:=∀b o,b≠z->b≠TO->b≠i->b≠j->h.get? b=some o->h'.get? b=some o
section
variable{prog:bg}{w:cn}{A:cg}{E:af->ag->Prop}{s:ag}{z TI TO i j u v:ai}{xs ys:List af}{st su:Nat->cp->Prop}
theorem HF {n:Nat}{x y a b:af}{Q:af->ag->Prop}(F4:Four z TI TO i j u v) (P:Draws prog w i u xs st) (R:Draws prog w j v ys su) (hz:uy s.heap z TI TO .none) (hTI:ju s.heap TI (.ref i) (.ref j)) (hTO:ju s.heap TO a b)
  (p:st n s.heap) (r:su n s.heap) (hx:xs[n]?=some x) (hy:ys[n]?=some y)
  (k:∀h' T,s.heap.objs.size<=T->uy h' z TI TO (rawInt T)->ju h' TI (.ref i) (.ref j)->ju h' TO x y->st (n+1) h'->su (n+1) h'->ju h' T x y->uY z TO i j s.heap h'->Q (.ref T) { s with heap:=h' }):
  wpAny (model prog w) A (km.«zip.__next__» ⟨[.ref z],[]⟩) (λfin s'=>∃v,fin=.done (.ret v)/\Q v s') E s:=by
 refine aa (ah (aa (dg hz rfl (x:=.bool false) rfl (aa (dg hz rfl (x:=.ref TI) rfl (aa (gr hTI rfl ?_)))))));have fr:∀{Q':Bool->ag->Prop}{E':af->ag->Prop},Q' true s->wpAny (model prog w) A (kn (.ref z)) Q' E' s:=λq=>aa (dg hz rfl (x:=.none) rfl (ah q));refine aa (fr ?_);rw[if_pos rfl];refine aa (rn (aa (dg hz rfl (x:=.ref TO) rfl (aa (ja hz (by simp) λg1 z1 b1=>?_)))));have z1':uy g1 z TI TO .ellipsis:=z1;refine aa ?_;show wpAny _ _ (forIn [(dh i,0),(dh j,1)] _ _) _ _ _;rw[jg];refine aa (aa (ua ?_));show wpAny _ _ (cq (.ref i) >>= _) _ _ _;refine aa (P.item A n x _ _ _ hx (P.keep n _ _ p λb o hb q=>b1.extBut _ _ (eR hb (cm F4.b) F4.u1) q) λg2 p2 b2=>ah ?_);have t2:ju g2 TO a b:=b2.extBut _ _ F4.d (b1.extBut _ _ (cm F4.a) hTO);refine aa (gr t2 rfl (aa (vv t2 λg3 t3 b3=>aa (Bb (ah ?_)))));have t3':ju g3 TO x b:=t3;dsimp only;rw[jg];refine aa (aa (ua ?_));show wpAny _ _ (cq (.ref j) >>= _) _ _ _;have r3:su n g3:=R.keep n _ _ r λb o hb q=>b3.extBut _ _ (eR hb (cm F4.e) F4.v2) (b2.extBut _ _ (eR hb (cm F4.f) F4.v3) (b1.extBut _ _ (eR hb (cm F4.c) F4.v1) q));refine aa (R.item A n y _ _ _ hy r3 λg4 r4 b4=>ah ?_);have t4:ju g4 TO x b:=b4.extBut _ _ F4.e t3';refine aa (gr t4 rfl (aa (vv t4 λg5 t5 b5=>aa (Bb (ah ?_)))));have t5':ju g5 TO x y:=t5;dsimp only;rw[List.forIn_nil];refine ah ?_;refine aa (gr t5' rfl (aa (Bv ?_)));have z5:uy g5 z TI TO .ellipsis:=b5.extBut _ _ F4.a (b4.extBut _ _ F4.c (b3.extBut _ _ F4.a (b2.extBut _ _ F4.b z1')));have sz:g5.objs.size=s.heap.objs.size:=by rw[b5.1,b4.1,b3.1,b2.1,b1.1]
 have all5:uY z TO i j s.heap g5:=λc o c1 c2 c3 c4 q=>b5.extBut _ _ c2 (b4.extBut _ _ c4 (b3.extBut _ _ c2 (b2.extBut _ _ c3 (b1.extBut _ _ c1 q))));have p5:st (n+1) g5:=P.keep _ _ _ p2 λb o hb q=>b5.extBut _ _ (eR hb (cm F4.d) F4.u2) (b4.extBut _ _ (eR hb F4.f F4.u4) (b3.extBut _ _ (eR hb (cm F4.d) F4.u2) q));have r5:su (n+1) g5:=R.keep _ _ _ r4 λb o hb q=>b5.extBut _ _ (eR hb (cm F4.e) F4.v2) q;generalize hob:({ cls:=.type "tuple",dict:=none,data:=.seq [x,y].toArray }:Obj)=ob;have zp:uy (g5.push ob) z TI TO .ellipsis:=aj _ z5;refine aa (aa (ja zp (by simp) λg7 z7 b7=>?_));have z7':uy g7 z TI TO (rawInt g5.objs.size):=z7;refine ja z7' (by simp) λg8 z8 b8=>ah ⟨_,rfl, ?_⟩;have up:∀c o,c≠z->g5.get? c=some o->g8.get? c=some o:=λc o c1 q=>b8.extBut _ _ c1 (b7.extBut _ _ c1 (aj _ q));have lz:z<g5.objs.size:=ao z5;have T8:ju g8 g5.objs.size x y:=b8.extBut _ _ (jl lz) (b7.extBut _ _ (jl lz) (by rw[<-hob];exact ax _ rfl));refine k g8 g5.objs.size (qe sz.symm) z8 (up _ _ F4.g (all5 _ _ F4.g F4.h F4.k F4.l hTI)) (up _ _ (cm F4.a) t5') (P.keep _ _ _ p5 λb o hb q=>up _ _ (eR hb (cm F4.b) F4.u1) q) (R.keep _ _ _ r5 λb o hb q=>up _ _ (eR hb (cm F4.c) F4.v1) q) T8 λc o c1 c2 c3 c4 q=>up _ _ c1 (all5 c o c1 c2 c3 c4 q)
end
section
variable{prog:bg}{w:cn}{A:cg}{E:af->ag->Prop}{s:ag}{z TI TO i j u v:ai}{xs ys:List af}{st su:Nat->cp->Prop}
theorem HG {n:Nat}{a b:af}{Q:PySem.Fin->ag->Prop}(hh:A.handled=none) (F4:Four z TI TO i j u v) (P:Draws prog w i u xs st) (R:Draws prog w j v ys su) (hz:uy s.heap z TI TO .none) (hTI:ju s.heap TI (.ref i) (.ref j)) (hTO:ju s.heap TO a b)
  (p:st n s.heap) (r:su n s.heap) (hend:xs[n]?=none∨ys[n]?=none)
  (k:∀h' e,uY z TO i j s.heap h'->(∃o,h'.get? e=some o/\o.cls=.type "StopIteration")->E (.ref e) { s with heap:=h' }):
  wpAny (model prog w) A (km.«zip.__next__» ⟨[.ref z],[]⟩) Q E s:=by
 refine aa (ah (aa (dg hz rfl (x:=.bool false) rfl (aa (dg hz rfl (x:=.ref TI) rfl (aa (gr hTI rfl ?_)))))));have fr:∀{Q':Bool->ag->Prop}{E':af->ag->Prop},Q' true s->wpAny (model prog w) A (kn (.ref z)) Q' E' s:=λq=>aa (dg hz rfl (x:=.none) rfl (ah q));refine aa (fr ?_);rw[if_pos rfl];refine aa (rn (aa (dg hz rfl (x:=.ref TO) rfl (aa (ja hz (by simp) λg1 z1 b1=>?_)))));have z1':uy g1 z TI TO .ellipsis:=z1;have p1:st n g1:=P.keep n _ _ p λb o hb q=>b1.extBut _ _ (eR hb (cm F4.b) F4.u1) q;have fin:∀(g:cp) (e:ai),uy g z TI TO .ellipsis->uY z TO i j s.heap g->(∃o,g.get? e=some o/\o.cls=.type "StopIteration")->
   wpAny (model prog w) A (setField (.ref z) 0 .none) (λ_ s'=>E (.ref e) s') E { s with heap:=g }:=λg e zz bt ⟨o,he,hc⟩=>
  ja zz (by simp) λg' _ b'=>k g' e (λc u c1 c2 c3 c4 q=>b'.extBut _ _ c1 (bt c u c1 c2 c3 c4 q)) ⟨o,b'.extBut _ _ (λq=>by subst q;rw[zz]at he;cases he;simp at hc) he,hc⟩
 refine aa ?_;show wpAny _ _ (forIn [(dh i,0),(dh j,1)] _ _) _ _ _;rw[jg];refine aa (aa (ua ?_));show wpAny _ _ (cq (.ref i) >>= _) _ _ _
 cases hx:xs[n]? with
 |none=>exact aa (P.done A n _ _ _ hh hx p1 λg2 e b2 he=>fin g2 e (b2 _ _ F4.b z1') (λc u c1 _ c3 _ q=>b2 _ _ c3 (b1.extBut _ _ c1 q)) he)
 |some x=>
  have hy:ys[n]?=none:=by
   rcases hend with q|q
   ·rw[hx]at q;cases q
   ·exact q
  refine aa (P.item A n x _ _ _ hx p1 λg2 p2 b2=>ah ?_);have t2:ju g2 TO a b:=b2.extBut _ _ F4.d (b1.extBut _ _ (cm F4.a) hTO);refine aa (gr t2 rfl (aa (vv t2 λg3 t3 b3=>aa (Bb (ah ?_)))));dsimp only;rw[jg];refine aa (aa (ua ?_));show wpAny _ _ (cq (.ref j) >>= _) _ _ _;have r3:su n g3:=R.keep n _ _ r λb o hb q=>b3.extBut _ _ (eR hb (cm F4.e) F4.v2) (b2.extBut _ _ (eR hb (cm F4.f) F4.v3) (b1.extBut _ _ (eR hb (cm F4.c) F4.v1) q));exact aa (R.done A n _ _ _ hh hy r3 λg4 e b4 he=>fin g4 e (b4 _ _ F4.c (b3.extBut _ _ F4.a (b2.extBut _ _ F4.b z1'))) (λc u c1 c2 c3 c4 q=>b4 _ _ c4 (b3.extBut _ _ c2 (b2.extBut _ _ c3 (b1.extBut _ _ c1 q)))) he)
theorem jF {it t:ai}{items:Array af}(hne:t≠it):Draws prog w it t items.toList (λi h=>h.IsTupleIter it t i/\h.IsTuple t items) where
 keep:=λi h h' ⟨⟨o,e,r⟩,⟨o2,e2,r2⟩⟩ k=>⟨⟨o,k _ _ (.inl rfl) e,r⟩,⟨o2,k _ _ (.inr rfl) e2,r2⟩⟩
 there:=λi h ⟨⟨o,e,_,d⟩,_⟩=>⟨o,_,e,d⟩
 item:=λA i x s Q E hx ⟨a,b⟩ k=>TR a b (by simpa using hx) λh' a' sb=>k h' ⟨a',b.extBut sb.extBut hne⟩ sb
 done:=λA i s Q E hh hx ⟨a,b⟩ k=>TV hh a b (by simpa using hx) k
end
def AW (K:aq) (t u:ai):It:=
 ⟨λi H=>∃vs ws v w,SqT K H t vs/\SqT K H u ws/\vs[i]?=some v/\ws[i]?=some w,
  λi H x H'=>∃p v w,x=.ref p/\H p=none/\H'=upd H p (.tup [v,w])/\(∀vs,SqT K H t vs->vs[i]?=some v)/\∀ws,SqT K H u ws->ws[i]?=some w,
  λi H=>∃vs ws,SqT K H t vs/\SqT K H u ws/\(vs.length<=i∨ws.length<=i)⟩
structure ZipAt (z TI TO i j t u:ai) (n:Nat) (h:cp):Prop where
 zp:uy h z TI TO .none
 ti:ju h TI (.ref i) (.ref j)
 to:∃a b,ju h TO a b
 i1:h.IsTupleIter i t n
 i2:h.IsTupleIter j u n
section
variable{X:Cx}{pins:List (ai×Obj)}{σ:St}{H:Hp}{s:ag}
theorem Inv.turns {h':cp}{ch:List ai}{T:ai}{vs:List V}{its:List af}(I:Inv X pins σ H s) (hch:∀b∈ch,cL X pins H b) (k:∀b o,b∉ch->s.heap.get? b=some o->h'.get? b=some o) (there:∀b∈ch,∃o,h'.get? b=some o)
  (hT:s.heap.objs.size<=T) (hv:Vals vs its) (hl:vs.length<=ck) (tp:IsTupX h' T its.toArray):Inv X pins σ (upd H T (.tup vs)) { s with heap:=h' }:=by
 have nT:H T=none:=I.hok.fresh hT;have nch:∀b o,H b=some o->b∉ch:=λb o q z=>by rw[(hch b z).1]at q;cases q
 have un:Un (dH X.stack) ch H (upd H T (.tup vs)) s.heap h':=
  ⟨λb o q _ _ hb=>k b o hb q,λb o q _ _ hb=>⟨o.slots,k b o hb q⟩,λb o q n _=>by rw[bO (bc (au (ao q) hT))];exact n,
   λb o q hb=>⟨o,k b o hb q⟩,λb xs q=>cG nT b _ q,λb o u q=>cG nT b _ q,λb ps q=>⟨#[],by rw[cG nT b _ q];simp⟩⟩
 have ok:HOk X.prog X.w (upd H T (.tup vs)) h':=λb o q=>by
  by_cases hb:b=T
  ·subst hb;rw[cK]at q;cases q;exact⟨hl,its,hv,tp⟩
  ·rw[bO hb]at q;refine(I.hok b o q).stay (λc v hc z=>k c v ?_ z) (λc z=>cG nT c _ z) λc xs z=>cG nT c _ z
   rcases hc with rfl|hc
   ·exact nch c o q
   ·exact nch c _ hc
 exact I.call (g':=s.gens) (d':=s.drawn) (t':=s.toks) un ok I.bare λb hb=>let ⟨_,f1,_,f3,f4,f5⟩:=hch b hb;⟨f3,f1,f4,f5⟩
theorem Inv.turns0 {h':cp}{ch:List ai}(I:Inv X pins σ H s) (hch:∀b∈ch,cL X pins H b) (k:∀b o,b∉ch->s.heap.get? b=some o->h'.get? b=some o):Inv X pins σ H { s with heap:=h' }:=by
 have nch:∀b o,H b=some o->b∉ch:=λb o q z=>by rw[(hch b z).1]at q;cases q
 refine I.call (g':=s.gens) (d':=s.drawn) (t':=s.toks) (ch:=ch) ⟨λb o q _ _ hb=>k b o hb q,λb o q _ _ hb=>⟨o.slots,k b o hb q⟩,λ_ _ _ n _=>n,λb o q hb=>⟨o,k b o hb q⟩,λ_ _ q=>q,λ_ _ _ q=>q,λb ps q=>⟨#[],by rw[q];simp⟩⟩ (λb o q=>?_) I.bare λb hb=>let ⟨_,f1,_,f3,f4,f5⟩:=hch b hb;⟨f3,f1,f4,f5⟩;refine(I.hok b o q).stay (λc v hc z=>k c v ?_ z) (λ_ z=>z) λ_ _ z=>z
 rcases hc with rfl|hc
 ·exact nch c o q
 ·exact nch c _ hc
end
theorem TX {P:bg}{w:cn}{K:aq}{elts:List bu}{kk:Nat}{tp:Pos}{z TI TO i j t u:ai}(F4:Four z TI TO i j t u) (hti:t≠i) (huj:u≠j):
  Turn P w K (.Tuple elts kk tp) (AW K t u) [z,TI,TO,i,j] z (ZipAt z TI TO i j t u) where
 mem:=by simp
 obj:=λn h st b hb=>by
  obtain⟨zp,ti,⟨a,b',to⟩,⟨o1,e1,_,d1⟩,⟨o2,e2,_,d2⟩⟩:=st;simp at hb
  rcases hb with rfl|rfl|rfl|rfl|rfl
  ·exact⟨_,zp,λv q=>by cases q⟩
  ·exact⟨_,ti,λv q=>by cases q⟩
  ·exact⟨_,to,λv q=>by cases q⟩
  ·exact⟨_,e1,λv q=>by rw[d1]at q;cases q⟩
  ·exact⟨_,e2,λv q=>by rw[d2]at q;cases q⟩
 keep:=λn h h' st k=>by obtain⟨zp,ti,⟨a,b',to⟩,⟨o1,e1,r1⟩,⟨o2,e2,r2⟩⟩:=st;exact⟨k _ (by simp) _ zp,k _ (by simp) _ ti,⟨a,b',k _ (by simp) _ to⟩,⟨o1,k _ (by simp) _ e1,r1⟩,⟨o2,k _ (by simp) _ e2,r2⟩⟩
 item:=by
  intro X hP hw hK hc n pins s σ H E I hf st hg;subst hP hw hK;obtain⟨vs,ws,v,w',hq,hr,hv,hw'⟩:=hg;obtain⟨its,rv,p1,z1⟩:=I.tuple hq;obtain⟨jts,rw',p2,z2⟩:=I.tuple hr;obtain⟨x,hx,rx⟩:=rv.get hv;obtain⟨y,hy,ry⟩:=rw'.get hw';obtain⟨zp,ti,⟨a,b,to⟩,i1,i2⟩:=st;have hT:s.TypeIs (.ref z) "zip" := ⟨_,zp,rfl⟩;unfold pyNext;refine aa (md (da (name:=ik "__next__") hT F.slot_zip_next (ed F.slot_zip_next hT F.entry_zip_next
   (HF F4 (jF (items:=its.toArray) hti) (jF (items:=jts.toArray) huj) zp ti to ⟨i1,p1⟩ ⟨i2,p2⟩ (by simpa using hx) (by simpa using hy) λh' T hnew a1 a2 a3 a4 a5 a6 bt=>ah ⟨_,rfl, ?_⟩) (F.args_zip_next_1 _))))
  refine wpAny_letOwnedTupleGo_zip a1 λh2 z2' sb=>?_;have kp:∀b o,b∉[z,TI,TO,i,j]->s.heap.get? b=some o->h2.get? b=some o:=λb o hb q=>by simp at hb;obtain⟨n1,n2,n3,n4,n5⟩:=hb;exact sb.extBut _ _ n1 (bt b o n1 n3 n4 n5 q)
  have Tz:T≠z:=jl (au (ao zp) hnew);have T2:ju h2 T x y:=sb.extBut _ _ Tz a6;have th:∀b∈[z,TI,TO,i,j],∃o,h2.get? b=some o:=λb hb=>by
   obtain⟨⟨o1,e1,_⟩,_⟩:=a4;obtain⟨⟨o2,e2,_⟩,_⟩:=a5;simp at hb
   rcases hb with rfl|rfl|rfl|rfl|rfl
   ·exact⟨_,z2'⟩
   ·exact⟨_,sb.extBut _ _ F4.g a2⟩
   ·exact⟨_,sb.extBut _ _ (cm F4.a) a3⟩
   ·exact⟨_,sb.extBut _ _ (cm F4.b) e1⟩
   ·exact⟨_,sb.extBut _ _ (cm F4.c) e2⟩
  have I2:=Inv.turns (T:=T) (vs:=[v,w']) (its:=[x,y]) I hf kp th hnew (.cons rx (.cons ry .nil)) (by show 2<=ck;decide) ⟨_,T2,rfl,rfl,_,rfl⟩;have nT:H T=none:=I.hok.fresh hnew;refine⟨.ref T,_,I2,rfl,⟨T,v,w',rfl,nT,rfl,λvs' h'=>by rw[I.tuple_inj h' hq];exact hv,λws' h'=>by rw[I.tuple_inj h' hr];exact hw'⟩, ?_,λb hb=>?_⟩
  ·exact⟨z2',sb.extBut _ _ F4.g a2,⟨_,_,sb.extBut _ _ (cm F4.a) a3⟩,a4.1.extBut sb.extBut (cm F4.b),a5.1.extBut sb.extBut (cm F4.c)⟩
  ·obtain⟨o,q,_⟩:∃o,s.heap.get? b=some o/\True:=by
    obtain⟨o1,e1,_⟩:=i1;obtain⟨o2,e2,_⟩:=i2;simp at hb
    rcases hb with rfl|rfl|rfl|rfl|rfl
    ·exact⟨_,zp,trivial⟩
    ·exact⟨_,ti,trivial⟩
    ·exact⟨_,to,trivial⟩
    ·exact⟨_,e1,trivial⟩
    ·exact⟨_,e2,trivial⟩
   rw[bO (bc (au (ao q) hnew))];exact(hf b hb).1
 done:=by
  intro X hP hw hK hc n pins s σ H E I hf st hg;subst hP hw hK;obtain⟨vs,ws,hq,hr,hend⟩:=hg;obtain⟨its,rv,p1,z1⟩:=I.tuple hq;obtain⟨jts,rw',p2,z2⟩:=I.tuple hr;have l1:=rv.length;have l2:=rw'.length;obtain⟨zp,ti,⟨a,b,to⟩,i1,i2⟩:=st;have hT:s.TypeIs (.ref z) "zip" := ⟨_,zp,rfl⟩;unfold pyNext;refine aa (md (da (name:=ik "__next__") hT F.slot_zip_next (ed F.slot_zip_next hT F.entry_zip_next
   (HG (show X.A.in1.handled=none from I.ok.hd hc) F4 (jF (items:=its.toArray) hti) (jF (items:=jts.toArray) huj) zp ti to ⟨i1,p1⟩ ⟨i2,p2⟩ (by
    rcases hend with q|q
    ·exact .inl (by simp;omega)
    ·exact .inr (by simp;omega)) λh' e bt ⟨o,he,hcl⟩=>aa (uj (T := "StopIteration") (b:=true) ⟨o,he,hcl⟩ Bw (ah ⟨rfl, ?_⟩))) (F.args_zip_next_1 _))))
  refine Inv.turns0 I hf λb o hb q=>?_;simp at hb;exact bt b o hb.1 hb.2.2.1 hb.2.2.2.1 hb.2.2.2.2 q
 self:=λ_ _ _ _ _ st h=>Al st.zp h
def HH (t u:ai) (h:cp) (z:ai) (h':cp):Prop:=∃TI TO i j,ZipAt z TI TO i j t u 0 h'/\Four z TI TO i j t u/\(∀b∈[z,TI,TO,i,j],h.objs.size<=b)/\∀b o,h.get? b=some o->h'.get? b=some o
theorem rH {h h':cp}{o:Obj}(e:h'=h.push o) (nf:o.isFreed=false):h'.get? h.objs.size=some o:=by rw[e];exact ax _ nf
theorem TY (n t u:Nat) (lt:t<n) (lu:u<n):Four (n+4) (n+2) (n+3) n (n+1) t u:=by
 have ne:∀{a b:Nat},(a<b∨b<a)->a≠b:=λh=>by omega
 exact⟨ne (by omega),ne (by omega),ne (by omega),ne (by omega),ne (by omega),ne (by omega),ne (by omega),ne (by omega),ne (by omega),ne (by omega),ne (by omega),ne (by omega),ne (by omega),ne (by omega),ne (by omega),ne (by omega),ne (by omega),ne (by omega)⟩
theorem TZ {t u:ai}{hp h1 h2 h3 h4 h5:cp}{n:Nat}(hn:n=hp.objs.size) (lt:t<n) (lu:u<n)
  (e1:h1=hp.push { cls:=.type "tuple_iterator",data:=.fields #[.ref t,.int 0 0] }) (e2:h2=h1.push { cls:=.type "tuple_iterator",data:=.fields #[.ref u,.int 0 0] }) (e3:h3=h2.push { cls:=.type "tuple",data:=.seq #[.ref n,.ref (n+1)] })
  (e4:h4=h3.push { cls:=.type "tuple",data:=.seq #[.none,.none] }) (e5:h5=h4.push { cls:=.type "zip",data:=.fields #[.none,.bool false,.bool false,.ref (n+2),.ref (n+3)] }):HH t u hp (n+4) h5:=by
 have z1:h1.objs.size=n+1:=by rw[e1,gh,hn]
 have z2:h2.objs.size=n+2:=by rw[e2,gh,z1]
 have z3:h3.objs.size=n+3:=by rw[e3,gh,z2]
 have z4:h4.objs.size=n+4:=by rw[e4,gh,z3]
 have up:∀(h:cp) (o:Obj) (b:ai) (q:Obj),h.get? b=some q->(h.push o).get? b=some q:=λh o b q e=>aj _ e;have g1:=rH e1 rfl;have g2:=rH e2 rfl;have g3:=rH e3 rfl;have g4:=rH e4 rfl;have g5:=rH e5 rfl;rw[<-hn]at g1;rw[z1]at g2;rw[z2]at g3;rw[z3]at g4;rw[z4]at g5;have u2:∀b q,h2.get? b=some q->h5.get? b=some q:=λb q e=>by rw[e5,e4,e3];exact up _ _ _ _ (up _ _ _ _ (up _ _ _ _ e))
 have u1:∀b q,h1.get? b=some q->h5.get? b=some q:=λb q e=>u2 b q (by rw[e2];exact up _ _ _ _ e);have u3:∀b q,h3.get? b=some q->h5.get? b=some q:=λb q e=>by rw[e5,e4];exact up _ _ _ _ (up _ _ _ _ e)
 have u4:∀b q,h4.get? b=some q->h5.get? b=some q:=λb q e=>by rw[e5];exact up _ _ _ _ e
 refine⟨n+2,n+3,n,n+1,⟨g5,u3 _ _ g3,⟨_,_,u4 _ _ g4⟩,⟨_,u1 _ _ g1,rfl,rfl⟩,⟨_,u2 _ _ g2,rfl,rfl⟩⟩, ?_, ?_,λb q e=>u1 b q (by rw[e1];exact up _ _ _ _ e)⟩
 ·exact TY n t u lt lu
 ·intro b hb;rw[<-hn];simp at hb
  rcases hb with rfl|rfl|rfl|rfl|rfl
  ·exact sk _ _
  ·exact sk _ _
  ·exact sk _ _
  ·exact ak _
  ·exact sk _ _
theorem HI {t u:ai}(xs ys:Array af):Meets (km.«zip.__new__» ⟨[.type "zip",.ref t,.ref u],[]⟩) (λ_ R s=>s.heap.IsTuple t xs/\s.heap.IsTuple u ys/\∀h' z,HH t u s.heap z h'->R (.ok (.ret (.ref z))) { s with heap:=h' }):=
 .of_wp λprog w A R s h=>by
  obtain⟨ht,hu,k⟩:=h;obtain⟨hp,g,d,tk,os⟩:=s;have sub:=sub_zip;have ht':(⟨hp,g,d,tk,os⟩:ag).heap.IsTuple t xs:=ht;have hu':(⟨hp.push { cls:=.type "tuple_iterator",data:=.fields #[.ref t,.int 0 0] },g,d,tk,os⟩:ag).heap.IsTuple u ys:=hu.push _
  wp_walk using oq ht',oq hu'
  have lt:t<hp.objs.size:=by obtain⟨o,e,_⟩:=ht;exact ao e
  have lu:u<hp.objs.size:=by obtain⟨o,e,_⟩:=hu;exact ao e
  simp only[gh];refine⟨_,rfl,k _ _ (TZ rfl lt lu rfl rfl rfl rfl ?_)⟩;simp only[gh];rfl
section
variable{X:Cx}{G:Cfg}{E:XK}{a b:bu}{elts:List bu}{kk:Nat}{tp p pos:Pos}{ta:TA}{ms:M (List Dv)}
def T1 (K:aq) (ta:TA):TI:=λσ H R=>ta σ H λvs H1=>∃t u xs ys,vs=[.ref t,.ref u]/\SqT K H1 t xs/\SqT K H1 u ys/\R (AW K t u) H1
theorem HJ:dz "zip" = some (.type "zip"):=by decide +kernel
theorem T3 (hg:Gl X "zip") (hm:X.mg "zip" = none) (ha:PA X [a,b] ta) (hs:aw [a,b] X.env=[(false,eval a X.env),(false,eval b X.env)]:=by rfl) (hs2:aw [b] X.env=[(false,eval b X.env)]:=by rfl):
  PI X (.Tuple elts kk tp) (.Call (.Name "zip" p) [a,b] [] pos) (T1 X.K ta):=by
 intro pins s σ H R I h;refine Call_ (lX I hg hm HJ (ic (aX (ha pos pins s σ H _ I h) λus s1 ⟨vs,H1,I1,r1,q1⟩=>?_) (by rw[hs,hs2]) (by rw[hs2];rfl)));obtain⟨t,u,xs,ys,e,hq,hr,q⟩:=q1;subst e;obtain⟨u1,u2,rfl,e1,e2⟩:=oW r1;cases e1;cases e2;obtain⟨its,rv,p1,_⟩:=I1.tuple hq;obtain⟨jts,rw',p2,_⟩:=I1.tuple hr;refine callType_new F.called_zip (by decide) (F.typeCall_zip_2 _ _) (F.newCall_zip_2 _ _) (λobj=>F.args_object_init_3 obj _ _) F.entry_zip_new (HI its.toArray jts.toArray) ⟨p1,p2,λh' z nz=>?_⟩;obtain⟨TI,TO,i,j,za,f4,fresh,kp⟩:=nz;refine⟨⟨_,za.zp,rfl⟩, ?_⟩;have I2:Inv X pins σ H1 { s1 with heap:=h' }:=I1.kept (t':=s1.toks) kp;refine Al za.zp ⟨z,[z,TI,TO,i,j],_,_,H1,rfl,I2,TX f4 f4.u3 f4.v4,za,λb hb=>I1.fpOk (fresh b hb) (I1.hok.fresh (fresh b hb)),q⟩
def pM (xs ys:List Dv):Src:=dI ((xs.zip ys).map λq=>.tup [q.1,q.2])
def nW:List Dv->Hs->Rs Src
 | [.tup xs,.tup ys],h=>.ok (pM xs ys) h
 |_,_=>.bad
theorem ItOk.zip {μ:Nat->ai}{n:Nat}{H:Hp}{t u:ai}{vs ws:List V}{xs ys:List Dv}{K:aq}(e:H t=some (.tup vs)) (e':H u=some (.tup ws)) (r:RelDL G μ n H xs vs) (r':RelDL G μ n H ys ws):ItOk G μ n H (pM xs ys) (AW K t u):=by
 intro k μ2 h2 H2 x2 s2;have f:=x2.im t (.tup vs) trivial e;have f':=x2.im u (.tup ws) trivial e';have g:=RelDL.mono x2 _ _ r;have g':=RelDL.mono x2 _ _ r';have hl:(pM xs ys).n=min xs.length ys.length:=by simp[pM,dI]
 constructor
 ·intro hk d hd;have hd':((xs.zip ys).map λq=>Dv.tup [q.1,q.2])[k]?=some d:=hd;rw[di]at hd'
  cases q:(xs.zip ys)[k]? with
  |none=>rw[q]at hd';cases hd'
  |some xy=>
   rw[q]at hd';cases hd';obtain⟨qx,qy⟩:=mr.mp q;obtain⟨v,ev,rv⟩:=g.get qx;obtain⟨w',ew,rw'⟩:=g'.get qy;refine⟨⟨vs,ws,v,w',SqT.of f,SqT.of f',ev,ew⟩,λx H' hy=>?_⟩;obtain⟨pp,v1,w1,rfl,np,rfl,a1,a2⟩:=hy;have b1:=a1 vs (SqT.of f);have b2:=a2 ws (SqT.of f');rw[ev]at b1;rw[ew]at b2
   cases b1;cases b2
   have sm:Same H2 (upd H2 pp (.tup [v,w'])):=cG np;exact⟨sm,pp,_,rfl,cK,RelDL.cons (RelD.mono (Ext.same sm) _ _ rv) (RelDL.cons (RelD.mono (Ext.same sm) _ _ rw') RelDL.nil)⟩
 ·intro hk _;refine⟨vs,ws,SqT.of f,SqT.of f', ?_⟩;rw[g.length,g'.length,hk,hl];omega
theorem HK (hg:Gl X "zip") (hm:X.mg "zip" = none) (ha:dZ X G E [a,b] ms) (hs:aw [a,b] X.env=[(false,eval a X.env),(false,eval b X.env)]:=by rfl) (hs2:aw [b] X.env=[(false,eval b X.env)]:=by rfl):
  kK X G E (.Tuple elts kk tp) (.Call (.Name "zip" p) [a,b] [] pos) (aS nW ms):=λhK=>
 PI.imp (T3 hg hm (ha hK) hs hs2) λσ H R ⟨μ,ρ,h,rs,s,o⟩=>iH rs s o λμ1 ds h1 vs H1 x1 rs1 s1 r1 o1=>by
  unfold nW at o1
  split at o1
  ·rename_i xs ys;obtain⟨v,v',rfl,rv,rv'⟩:=uO r1;obtain⟨t,us,rfl,e,r⟩:=rv;obtain⟨u,ws,rfl,e',r'⟩:=rv';exact⟨t,u,us,ws,rfl,SqT.of e,SqT.of e',o1.val s1 (ItOk.zip e e' r r')⟩
  ·exact o1.elim
end
section
variable{prog:bg}{w:cn}{A:cg}{E:af->ag->Prop}{s:ag}{K:Frag}{e C N:ai}{o:Obj}
theorem T4 {Q:Bool->ag->Prop}(X:K.In s.heap) (he:s.heap.get? e=some o) (hc:o.cls=.ref C) (hn:subIn K (.ref N) (.type "BaseException")=some true) (ht:subIn K (.type "type") (.type "tuple")=some false) (hk:kitCls K (.ref N) (.ref N)=some true) {b:Bool}(hs:subIn K (.ref C) (.ref N)=some b) (q:Q b s):
  wpAny (model prog w) A (excMatches (.ref e) (.ref N)) Q E s:=by
 have L1:=(kit_cls (M:=model prog w) X hk).1;have L2:=(kit_cls (M:=model prog w) X hk).2.1;have L3:=looks_subIn (M:=model prog w) X hn;have L4:=looks_subIn (M:=model prog w) X hs;have L5:=looks_subIn (M:=model prog w) X ht;obtain⟨hp,g,d,tk,os⟩:=s;unfold excMatches
 repeat (any_goals (first|assumption|(with_reducible refine wpAny_loadPart_at he ?_;rw[hc])|with_reducible refine L1.at ?_|with_reducible refine L2.at ?_|with_reducible refine L3.at ?_|with_reducible refine L4.at ?_|with_reducible refine L5.at ?_|wp_step))
 cases b
 all_goals (repeat (any_goals (first|assumption|wp_step)))
end
def iN (P:bg) (w:cn) (K:aq) (mg:Str->Option af) (base:cp) (N:List Str) (qual:Str) (scope:iu) (f:ai) (cd:af) (cl:List (Str×ai)) (A:cg) (outer:List Env) (s:ag) (H:Hp) (E:XK):Cx where
 prog:=P
 w:=w
 K:=K
 mg:=mg
 base:=base
 A:=A.deeper (nu qual scope s.heap.objs.size f cd cl)
 N:=N
 s₀:=s
 H₀:=H
 env:=nu qual scope s.heap.objs.size f cd cl
 outer:=outer
 stack:=nu qual scope s.heap.objs.size f cd cl::outer
 ex:=[]
 calm:=true
 fn:=λ_=>false
 pn:=[]
 xe:=λe s'=>wpAny (model P w) (A.deeper (nu qual scope s.heap.objs.size f cd cl)) (leaving (nu qual scope s.heap.objs.size f cd cl) e) (λ_ s''=>bL P w base outer H s E e s'') (λe' s''=>bL P w base outer H s E e' s'') s'
structure LamScope (N:List Str) (sc:iu):Prop where
 kind:sc.kind=.function
 co:sc.isCoroutine=false
 gen:sc.isGenerator=false
 nocell:∀x∈sc.names,x.2≠.cell
 fr:∀x∈N,sc.names.lookup x=some .free
 all:∀x∈sc.names,x.2=.free->x.1∈N
structure LamAt (G:Cfg) (base:cp) (H:Hp) (μ:Nat->ai) (n:Nat) (N:List Str) (params:lx) (body:bu) (scope:iu) (f c':ai) (cl:List (Str×ai)) (ds:List Dv):Prop where
 ob:∃pm ctv,H f=some (.frz (ki "<lambda>" G.lq params body scope cl pm c' ctv) (.own 0))
 cd:∃oc,H c'=some (.frz oc (.own 0))/\uD G.lq oc
 inj:∀x y c,cl.lookup x=some c->cl.lookup y=some c->x=y
 len:ds.length=N.length
 at_:∀(i:Nat) (x:Str),N[i]?=some x->∃c,cl.lookup x=some c
 cell:∀(x:Str) (c:ai),cl.lookup x=some c->∃o u,base.get? c=some o/\o.data=.cell u
 val:∀(i:Nat) (x:Str) (c:ai) (d:Dv),N[i]?=some x->ds[i]?=some d->cl.lookup x=some c->∃o u v,base.get? c=some o/\o.data=.cell (some u)/\RelV v u/\RelD G μ n H d v
section
variable{P:bg}{w:cn}{K:aq}{mg:Str->Option af}{base:cp}{N:List Str}{qual:Str}{scope:iu}{f:ai}{cdv:af}{cl:List (Str×ai)}{A:cg}{outer:List Env}{s0:ag}{H0:Hp}{E0:XK}{G:Cfg}{E:XK}{k:Nat}
theorem T5 (hr:Room k (A.deeper (nu qual scope s0.heap.objs.size f cdv cl))) (hK:K=G.K) (hE:∀u H',E u none H'->E0 u none H') (hF:AR E):
  Good (iN P w K mg base N qual scope f cdv cl A outer s0 H0 E0) G E k where
 calm:=rfl
 room:=hr
 K:=hK
 own:=Bj
 pas:=by intro pins σ H s u s' I ⟨e,C,H',eu,os,bare,un,hok,fl,he⟩;subst eu;have I':=I.call' os un hok bare (λb z=>absurd z (by simp));refine aa (AQ (P:=P) (w:=w) (H:=H') (base:=base) I'.ok.frames I'.stack rfl hok I'.stkFree fl λh'' H'' un2 hok2 fl2 sx=>?_);have I2:=I'.call (h':=h'') (g':=s'.gens) (d':=s'.drawn) (t':=s'.toks) un2 hok2 I'.bare (λb z=>absurd z (by simp));obtain⟨T,a0,h1,_⟩:=id fl;obtain⟨T2,a2,h3,_⟩:=id fl2;have xe1:dP C e T a0 s'.heap:=(show ObjOk P w H' s'.heap e _ from hok e _ h1).1;have:E (.ref e) none H'':=hF e H' H'' sx ⟨C,T,a0,T2,a2,h1,⟨_,xe1⟩,h3⟩ he;exact⟨e,C,H'',rfl,I2.os,I2.bare,I2.base,hok2,fl2,hE _ _ this⟩
 rais:=by intro pins σ H s h' e C args I mx he;refine aa (G1 (P:=P) (w:=w) (H:=H) (base:=base) I.ok.frames I.stack rfl I.hok I.stkFree I.bk mx λh'' H'' un2 hok2 fl2 sm=>?_);have I2:=I.call (h':=h'') (g':=s.gens) (d':=s.drawn) (t':=s.toks) un2 hok2 I.bare (λb z=>absurd z (by simp));obtain⟨T2,a2,h3,_⟩:=id fl2;exact⟨e,C,H'',rfl,I2.os,I2.bare,I2.base,hok2,fl2,hE _ _ (he H'' sm ⟨T2,a2,h3⟩)⟩
end
def HL {α:Type}:Rs α->Sr
 | .ex c h=>.ex c h
 |_=>.bad
section
variable{P:bg}{w:cn}{K:aq}{mg:Str->Option af}{base:cp}{N:List Str}{params:lx}{body:bu}{scope:iu}{f c':ai}{cl:List (Str×ai)}{A:cg}{outer:List Env}{s:ag}{H:Hp}{E:XK}{G:Cfg}{k:Nat}{μ:Nat->ai}{h:Hs}{ds:List Dv}
theorem T6 {h1:cp}{tk:Nat}{σ:St}{E₀:XK}(S:LamScope N scope) (hd:A.handled=none) (e0:Env0 P w K mg base A outer s H) (L:LamAt G base H μ h.length N params body scope f c' cl ds)
  (hall:∀x c,cl.lookup x=some c->x∈N)
  (hns:h1.Ns s.heap.objs.size λ_=>none) (hk1:∀b o,s.heap.get? b=some o->h1.get? b=some o)
  (hσ:σ.length=N.length) (hv:∀(i:Nat) (x:Str) (v:V),N[i]?=some x->σ[i]?=some (some v)->∃c o u,cl.lookup x=some c/\base.get? c=some o/\o.data=.cell (some u)/\RelV v u):
  Inv (iN P w K mg base N G.lq scope f (.ref c') cl A outer s H E₀) [] σ H { s with heap:=h1,toks:=tk }:=by
 have noA:∀b:ai,b∉(iN P w K mg base N G.lq scope f (.ref c') cl A outer s H E₀).ex:=λb z=>absurd (show b∈([]:List ai) from z) (by simp);have kfree:∀x,scope.names.lookup x=some .free->x∈N:=λx e=>S.all _ (fv e) rfl;refine⟨⟨e0.mod,S.kind,rfl,rfl,ak _,L.inj,λx hx=>?_,λx c z=>(nomatch z),λ_=>hd,Bh e0.frames,.inr ⟨rfl,rfl⟩,λb z=>absurd z (noA b),e0.bs,e0.bsz,λb _ _=>noA b,λb z=>absurd z (noA b),e0.funs,e0.frf⟩,
  rfl,e0.bare,Un.kept hk1,⟨_,hns,λi x v h1' h2 h3=>?_⟩,λx c e=>?_,e0.hok.fresh (ak _),λx c e=>?_,λp hp=>absurd (show p∈([]:List (ai×Obj)) from hp) (by simp),e0.hok.kept hk1,hσ⟩
 ·have hx:scope.names.lookup x=some .cell∨scope.names.lookup x=some .free:=hx
  rcases hx with hx|hx
  ·exact absurd rfl (S.nocell _ (fv hx))
  ·obtain⟨i,hi⟩:=List.getElem?_of_mem (kfree x hx);exact L.at_ i x hi
 ·obtain⟨c,o,u,e1,e2,e3,r⟩:=hv i x v h1' h2;refine⟨u,r,.inr ⟨.inr (S.fr x (bx h1')),c,e1,o,hk1 _ _ (e0.bs _ _ e2).1,e3⟩⟩
 ·obtain⟨o,u,e2,e3⟩:=L.cell x c e;exact⟨u,o,hk1 _ _ (e0.bs _ _ e2).1,e3⟩
 ·obtain⟨o,u,e2,e3⟩:=L.cell x c e;exact(e0.bs _ _ e2).2
theorem T7 {me:M Dv}{Q:VK}(S:LamScope N scope) (hK:K=G.K) (hb:∀(cl:List (Str×ai)) (pm cdv ct:af),bindArgs (pz "<lambda>" G.lq params body scope cl pm cdv ct) ⟨[],[]⟩=pure [])
  (hbody:∀(f:ai) (cdv:af) (cl:List (Str×ai)) (A:cg) (outer:List Env) (s:ag) (H:Hp) (E₀ E:XK),Good (iN P w K mg base N G.lq scope f cdv cl A outer s H E₀) G E k->aK (iN P w K mg base N G.lq scope f cdv cl A outer s H E₀) G E body me)
  (hr:Room (k+1) A) (e0:Env0 P w K mg base A outer s H) (L:LamAt G base H μ h.length N params body scope f c' cl ds) (hall:∀x c,cl.lookup x=some c->x∈N) (sm:Sim G μ h H) (o:Out G E μ h.length H (me (ds.map some) h) (RelD G) Q):
  codeAny (model P w) A (.call (.ref f) ⟨[],[]⟩) (CR (bL P w base) outer P w H s Q E) s:=by
 obtain⟨pm,ctv,ho⟩:=L.ob;obtain⟨oc,hc,vs,t,hcd,hq⟩:=L.cd;have lim:s.heap.NoLimit:=e0.mod.nolimit.keeps λb o e=>(e0.bs b o e).1;have gc:s.heap.get? c'=some oc:=(e0.hok c' _ hc).1;refine PySem.W.kla_callFunE hr.depth (e0.hok f _ ho).1 rfl S.co S.gen rfl ⟨c',oc,vs,t,rfl,gc,hcd,hq⟩ ?_;rw[hb];refine ah (wpAny_newFunctionEnv S.nocell (λx hx=>absurd hx (by simp)) (λh₁ hns hsb=>⟨lim.fresh _ hsb, ?_⟩) S.kind);show codeAny _ _ (.expr body (nu G.lq scope s.heap.objs.size f (.ref c') cl)) _ _;have hk₁:∀b o,s.heap.get? b=some o->h₁.get? b=some o:=λb o e=>hsb.extBut b o (bc (ao e)) (aj _ e);have hvs:∀(i:Nat),i<N.length->∃v:V,∀d,ds[i]?=some d->RelD G μ h.length H d v/\∀x,N[i]?=some x->∃c o u,cl.lookup x=some c/\base.get? c=some o/\o.data=.cell (some u)/\RelV v u:=λi hi=>by
  obtain⟨x,hx⟩:∃x,N[i]?=some x:=⟨_,ar hi⟩
  obtain⟨d,hd⟩:∃d,ds[i]?=some d:=⟨_,ar (by rw[L.len];exact hi)⟩
  obtain⟨c,ec⟩:=L.at_ i x hx;obtain⟨oo,u,v,e1,e2,r1,r2⟩:=L.val i x c d hx hd ec;refine⟨v,λd' hd'=>?_⟩;rw[hd]at hd';cases hd';refine⟨r2,λx' hx'=>?_⟩;rw[hx]at hx';cases hx';exact⟨c,oo,u,ec,e1,e2,r1⟩
 have hch:∃vs:List V,vs.length=N.length/\∀(i:Nat) (v:V),vs[i]?=some v->∀d,ds[i]?=some d->RelD G μ h.length H d v/\∀x,N[i]?=some x->∃c o u,cl.lookup x=some c/\base.get? c=some o/\o.data=.cell (some u)/\RelV v u:=by
  have:∀m,m<=N.length->∃vs:List V,vs.length=m/\∀(i:Nat) (v:V),vs[i]?=some v->∀d,ds[i]?=some d->RelD G μ h.length H d v/\∀x,N[i]?=some x->∃c o u,cl.lookup x=some c/\base.get? c=some o/\o.data=.cell (some u)/\RelV v u:=by
   intro m
   induction m with
   |zero=>exact λ_=>⟨[],rfl,λi v e=>by simp at e⟩
   |succ m ih=>
    intro hm;obtain⟨vs,hl,hv⟩:=ih (by omega);obtain⟨v,hv'⟩:=hvs m (by omega);refine⟨vs++[v],by simp[hl],λi v' e d hd=>?_⟩
    by_cases hi:i<vs.length
    ·rw[dy hi]at e;exact hv i v' e d hd
    ·rw[gg (by omega)]at e;have:i=m:=by have:=(az.mp e).1;simp at this;omega
     subst this;simp[hl]at e;subst e;exact hv' d hd
  exact this _ (ak _)
 obtain⟨vs',hl,hv⟩:=hch;have I:Inv (iN P w K mg base N G.lq scope f (.ref c') cl A outer s H E) [] (vs'.map some) H { s with heap:=h₁,toks:=s.toks+([]:List (Str×af)).length }:=by
  refine T6 S hr.hd e0 L hall hns hk₁ (by simp[hl]) λi x v h1 h2=>?_;have h3:vs'[i]?=some v:=by
   rw[di]at h2
   cases q:vs'[i]? with
   |none=>rw[q]at h2;cases h2
   |some a=>rw[q]at h2;cases h2;rfl
  obtain⟨d,hd⟩:∃d,ds[i]?=some d:=⟨_,ar (by rw[L.len];exact(az.mp h1).1)⟩
  exact(hv i v h3 d hd).2 x h1
 have rs:RelS G μ h.length H (ds.map some) (vs'.map some):=⟨by simp[hl,L.len],λi d e=>by
  have h3:ds[i]?=some d:=by
   rw[di]at e
   cases q:ds[i]? with
   |none=>rw[q]at e;cases e
   |some a=>rw[q]at e;cases e;rfl
  have hi:i<vs'.length:=by rw[hl,<-L.len];exact(az.mp h3).1
  exact⟨vs'[i],by rw[di,ar hi];rfl,(hv i _ (ar hi) d h3).1⟩⟩
 have gd:Good (iN P w K mg base N G.lq scope f (.ref c') cl A outer s H E) G (EB G μ h.length H (HL (me (ds.map some) h))) k:=T5 (hr.deeper _) hK (λu H' ⟨c,h',μ',er,x,s',fl⟩=>by
  cases q:me (ds.map some) h with
  |ok d hh=>rw[q]at er;cases er
  |bad=>rw[q]at er;cases er
  |ex c1 h1=>rw[q]at er o;cases er;exact o μ' H' u x s' fl) AU
 refine PySem.W.kla_codeExpr (ka (hbody f (.ref c') cl A outer s H E _ gd hK [] _ (vs'.map some) H Q I ⟨μ,ds.map some,h,rs,sm, ?_⟩) (λu s' ⟨v,H',J,rv,q⟩=>⟨v,H',J.os,J.bare,J.base,J.hok,rv,q⟩) λe s' hs=>hs)
 cases q:me (ds.map some) h with
 |ok d hh=>rw[q]at o;exact o
 |bad=>rw[q]at o;exact o
 |ex c1 h1=>exact λμ' H' u x' s' fl=>⟨c1,h1,μ',rfl,x',s',fl⟩
end
section
variable{X:Cx}{pins:List (ai×Obj)}{σ:St}{H:Hp}{s:ag}
theorem T9 {i:Nat}{x:Str}{h':cp}{tk:Nat}{m:Str->Option af}{v:Option af}(I:Inv X pins σ H s) (hN:X.N.Nodup) (hi:X.N[i]?=some x) (hn:s.heap.Ns X.env.locals m)
  (hl:∀(i:Nat) (x:Str) (v:V),X.N[i]?=some x->σ[i]?=some (some v)->oS X.env.scope x->∃u,RelV v u/\EO X.env s.heap m x u)
  (hs:ig X.env.locals s.heap h') (hn':h'.Ns X.env.locals (λy=>if y=x then v else m y)):Inv X pins (σ.set i none) H { s with heap:=h',toks:=tk }:=by
 have cne:=I.cne;have hok:HOk X.prog X.w H h':=λb ob e=>by
  refine(I.hok b ob e).stay (λc w' hc q=>(hs.2 c ?_).trans q) (λ_ q=>q) λ_ _ q=>q
  rintro rfl
  have hfree:=I.free
  rcases hc with hc|hc
  ·rw[<-hc]at e;rw[hfree]at e;cases e
  ·rw[hfree]at hc;cases hc
 refine⟨I.ok,I.os,I.bare,⟨λb o e n hb hx=>?_,λb o e n hb hx=>?_,I.base.free,λb o e hx=>?_,I.base.tups,I.base.frzs,I.base.tbls⟩,⟨_,hn',λj y v' e1 e2 e3=>?_⟩,λy c e=>?_,I.free,I.freeC,λp hp=>?_,hok,by simpa using I.len⟩
 ·exact(hs.2 b (bc (au (ao e) I.ok.above))).trans (I.base.keep b o e n hb hx)
 ·obtain⟨sl,e1⟩:=I.base.slot b o e n hb hx;exact⟨sl,(hs.2 b (bc (au (ao e) I.ok.above))).trans e1⟩
 ·obtain⟨o',e1⟩:=I.base.there b o e hx;exact⟨o',(hs.2 b (bc (au (ao e) I.ok.above))).trans e1⟩
 ·by_cases hj:j=i
  ·subst hj;have hiσ:j<σ.length:=by rw[I.len];exact(az.mp hi).1
   rw[dk hiσ]at e2;cases e2
  ·rw[fq (cm hj)]at e2;obtain⟨u',r',q⟩:=hl j y v' e1 e2 e3;refine⟨u',r', ?_⟩
   rcases q with⟨k,e⟩|⟨k,c,e,z⟩
   ·refine .inl ⟨k, ?_⟩;have:y≠x:=λe=>hj (yY hN e1 (e▸hi));show(if y=x then v else m y)=some u';rw[if_neg this];exact e
   ·exact .inr ⟨k,c,e,z.sameBut hs (cne y c e)⟩
 ·obtain⟨w',z⟩:=I.cell y c e;exact⟨w',z.sameBut hs (cne y c e)⟩
 ·obtain⟨e,n,ne,nf,d⟩:=I.pin p hp;exact⟨(hs.2 p.1 ne).trans e,n,ne,nf,d⟩
def pN (X:Cx) (e:af):Cx:={ X with A:=X.A.mark (some e),calm:=false,xe:=λ_ _=>False }
theorem HM (e:af) (I:Inv X pins σ H s):Inv (pN X e) pins σ H s:=
 have ok:=I.ok
 ⟨⟨ok.mod,ok.kind,ok.glob,ok.blt,ok.above,ok.inj,ok.has,ok.cab,λz=>(nomatch z),ok.frames,ok.stk,ok.exf,ok.bs,ok.bsz,ok.noex,ok.exfs,ok.funs,ok.frf⟩,I.os,I.bare,I.base,I.loc,I.cell,I.free,I.freeC,I.pin,I.hok,I.len⟩
theorem UA {e:af}(ok:X.Ok) (I:Inv (pN X e) pins σ H s):Inv X pins σ H s:=⟨ok,I.os,I.bare,I.base,I.loc,I.cell,I.free,I.freeC,I.pin,I.hok,I.len⟩
end
section
variable{X:Cx}{G:Cfg}{E:XK}{k:Nat}{N:List Str}{params:lx}{body:bu}{scope:iu}{me:M Dv}{ncl:Nat}{NE:ai}
theorem UB {x xn en nm:Str}{p cpos epos np xp ep apos hpos tpos:Pos}{pins:List (ai×Obj)}{σ:St}{H:Hp}{s:ag}{D:Ends}{f c':ai}{cl:List (Str×ai)}{μ:Nat->ai}{h:Hs}{ds:List Dv}
  (hK:X.K=G.K) (hst:X.stack=X.env::X.outer) (hfr:X.env.frame=some X.env.locals) (hnd:X.N.Nodup) (h0:X.N[0]?=some x) (h1:X.N[1]?=some xn) (h2:X.N[2]?=some en) (hfn:∀y,X.fn y=true)
  (l0:X.env.scope.names.lookup x=some .local) (l1:X.env.scope.names.lookup xn=some .local) (l2:X.env.scope.names.lookup en=some .local)
  (d0:(x==("__debug__" : Str))=false) (c0:(x==("__classdict__" : Str))=false) (d2:(en==("__debug__" : Str))=false) (c2:(en==("__classdict__" : Str))=false) (dn:(nm==("__debug__" : Str))=false)
  (hsw:swapsWith (.Call (.Name x p) [] [] cpos) none epos.line X.env=pure false) (hsw2:swapsWith (.Name en ep) (some (.Name xn xp)) apos.line X.env=pure false)
  (hg:Gl X nm) (hm:X.mg nm=some (.ref NE)) (hx1:jv X.K (.ref NE) (.type "BaseException")=some true) (hx2:jv X.K (.type "type") (.type "tuple")=some false) (hx3:xl X.K (.ref NE) (.ref NE)=some true)
  (hsub:∀c,c<ncl->jv X.K (.ref (G.cl c)) (.ref NE)=some true)
  (S:LamScope N scope) (hb:∀(cl:List (Str×ai)) (pm cdv ct:af),bindArgs (pz "<lambda>" G.lq params body scope cl pm cdv ct) ⟨[],[]⟩=pure [])
  (hbody:∀(f:ai) (cdv:af) (cl:List (Str×ai)) (A:cg) (outer:List Env) (s:ag) (H:Hp) (E₀ E:XK),Good (iN X.prog X.w X.K X.mg X.base N G.lq scope f cdv cl A outer s H E₀) G E k->aK (iN X.prog X.w X.K X.mg X.base N G.lq scope f cdv cl A outer s H E₀) G E body me)
  (hr:Room (k+1) X.A) (I:Inv X pins σ H s) (hσ:σ[0]?=some (some (.ref f))) (L:LamAt G X.base H μ h.length N params body scope f c' cl ds) (hall:∀x c,cl.lookup x=some c->x∈N) (sm:Sim G μ h H)
  (hD:match me (ds.map some) h with
   | .ok _ h1=>∀μ' H',Ext μ h.length H μ' h1.length H'->Sim G μ' h1 H'->D.nx σ H'
   | .ex c h1=>c<ncl/\∀μ' H' a,Ext μ h.length H μ' h1.length H'->Sim G μ' h1 H'->RelD G μ' h1.length H' (.exc c) (.ref a)->D.nx (((σ.set 2 (some (.ref a))).set 1 (some (.ref a))).set 2 none) H'
   | .bad=>False):
  wpAny (model X.prog X.w) X.A (exec (.Try [.Expr (.Call (.Name x p) [] [] cpos) epos] [.ExceptHandler (some (.Name nm np)) (some en) [.Assign [.Name xn xp] (.Name en ep) apos] hpos] [] [] tpos) X.env) (SP X pins D) X.xe s:=by
 have hcls:(X.env.scope.kind==.class||(X.env.scope.kind==.module&&X.env.locals != X.env.globals))=false:=by rw[I.ok.kind];rfl
 refine wpAny_Try_except ?_;obtain⟨pm,ctv,ho⟩:=L.ob;refine pw (wpAny_Expr_any (lg (aX (ka (zA (X:=X.nox) (pos:=p) h0 (.inl l0) d0 c0 pins s σ H (λv H'=>v=.ref f/\H'=H) (I.wish _) ⟨_,hσ,rfl,rfl⟩) (λ_ _ q=>q) λ_ _ z=>gw z) λu s1 ⟨v,H',I',r,e1,e2⟩=>?_)) I.quiet hsw);subst e1;subst e2;cases r;have I1:Inv X pins σ H' s1:=I'.unwish;refine PySem.W.callWith_F0 ⟨_,_,_,_,(I1.hok f _ ho).1⟩ ?_;refine Bq (ni (T7 (E:=EB G μ h.length H' (HL (me (ds.map some) h))) (Q:=λ_ H2=>∃d hh μ',me (ds.map some) h=.ok d hh/\Ext μ h.length H' μ' hh.length H2/\Sim G μ' hh H2) S hK hb hbody hr I1.env0 L hall sm ?_) λr s' hq=>?_)
 ·cases q:me (ds.map some) h with
  |ok d hh=>exact λμ' H' v x' s' _=>⟨d,hh,μ',rfl,x',s'⟩
  |bad=>rw[q]at hD;exact hD.elim
  |ex c1 h1=>exact λμ' H' u x' s' fl=>⟨c1,h1,μ',rfl,x',s',fl⟩
 cases r with
 |ok fl=>
  cases fl with
  |ret u=>obtain⟨v,H2,I2,r2,d,hh,μ',e1,x1,s1⟩:=I1.after hq;refine og (og ?_);rw[e1]at hD;exact⟨σ,H2,I2,hD μ' H2 x1 s1⟩
  |next=>exact gw hq
  |brk=>exact gw hq
  |cont=>exact gw hq
 |error ev=>
  obtain⟨e,C,H2,rfl,os,bare,un,hok,fl,c,hh,μ',er,x1,sm1,e',φ,eu,g1,g2⟩:=hq;cases eu
  cases qm:me (ds.map some) h with
  |ok d h3=>rw[qm]at er;cases er
  |bad=>rw[qm]at er;cases er
  |ex c3 h3=>
  rw[qm]at er hD;cases er;obtain⟨hc,hD⟩:=hD;have I2:Inv X pins σ H2 s':=I1.call' os un hok bare (λb z=>absurd z (by simp));refine AQ (P:=X.prog) (w:=X.w) (H:=H2) (base:=X.base) (env:=X.env) (outer:=X.outer) (by rw[<-hst];exact I2.ok.frames) (by rw[<-hst];exact I2.stack) hfr hok (by rw[<-hst];exact I2.stkFree) fl λh4 H4 un4 hok4 fl4 sx4=>?_;have I4:Inv X pins σ H4 { s' with heap:=h4 }:=I2.call (h':=h4) (g':=s'.gens) (d':=s'.drawn) (t':=s'.toks) (by rw[hst];exact un4) hok4 I2.bare (λb z=>absurd z (by simp));obtain⟨sm4,x4⟩:=sm1.sameX sx4 ⟨_,g1⟩;obtain⟨T,a0,w1,w2,w3,w4⟩:=id fl4;obtain⟨T0,b0,v1,_,_,_⟩:=id fl;have hC:C=.ref (G.cl c):=by have xo:dP C e T0 b0 s'.heap:=(show ObjOk X.prog X.w H2 s'.heap e _ from hok e _ v1).1;rw[v1]at g1;cases g1;obtain⟨oo,q1,q2⟩:=g2 _ xo;obtain⟨o2,vs2,q3,q4,_⟩:=xo;rw[q3]at q1;cases q1;rw[<-q4,q2]
  subst hC;have xo4:dP (.ref (G.cl c)) e T a0 h4:=(show ObjOk X.prog X.w H4 h4 e _ from hok4 e _ w1).1;obtain⟨oe,vs,y1,y2,y3,y4,y5,y6⟩:=id xo4;refine wpAny_handleBy_cons (codeAny_handlers_test (ka (qK (X:=pN X (.ref e)) (E:=λ_ _=>False) (Q:=λu s5=>u=.ref NE/\Inv X pins σ H4 s5/\s5.heap=h4) (HM _ I4) hg hm ⟨rfl,I4,rfl⟩ dn) (λcv s5 hs5=>?_) λ_ _ z=>gw z)) (by intro z;cases z);obtain⟨rfl,I5,e5⟩:=hs5;refine T4 (K:=X.K) I5.kIn (by rw[e5];exact y1) y2 hx1 hx2 hx3 (hsub c hc) ?_;obtain⟨oT,ts,z1,z2,z3⟩:dY T h4:=(show ObjOk X.prog X.w H4 h4 T _ from hok4 T _ w2).1;have l3:3<ts.size:=(du.mp z3).1;refine codeAny_handlers_suite_as (GW (e:=e) (T:=T) (by rw[e5];exact y1) y3 y5 (by rw[e5];exact z1) z2 l3 λh6 sb6 tb6=>?_);rw[e5]at sb6;have ge6:h6.get? e=some oe:=sb6.extBut _ _ (cm w4) y1;have I6:Inv X pins σ (upd H4 T (.ext (dY T))) { s5 with heap:=h6 }:=I5.write (x:=T) (e:=T) (o:=.ext (dY T)) (h':=h6) (t':=s5.toks) (by rw[w2];trivial) (.inl rfl) (λb u hb q=>by rw[e5]at q;exact sb6.extBut _ _ hb q) (let ⟨oo,_,q,_⟩:=tb6;⟨oo,q⟩) (uU tb6);have se:Same H4 (upd H4 T (.ext (dY T))):=λb o q=>by
   by_cases hb:b=T
   ·subst hb;rw[w2]at q;cases q;exact cK
   ·rw[bO hb];exact q
  have w1':(upd H4 T (.ext (dY T))) e=some (.ext (dP (.ref (G.cl c)) e T a0)):=se _ _ w1;have I7:Inv X pins σ (upd (upd H4 T (.ext (dY T))) e (.frz oe (.own 0))) { s5 with heap:=h6 }:=I6.write (x:=e) (e:=e) (o:=.frz oe (.own 0)) (h':=h6) (t':=s5.toks) (by rw[w1'];trivial) (.inl rfl) (λb u hb q=>q) ⟨_,ge6⟩ ⟨ge6,oe,ge6⟩;have sx7:rE e (upd H4 T (.ext (dY T))) (upd (upd H4 T (.ext (dY T))) e (.frz oe (.own 0))):=λb o hb q=>by rw[bO hb];exact q
  obtain⟨sm7,x7⟩:=(sm4.same se).sameX sx7 ⟨_,w1'⟩;have xx:Ext μ h.length H' μ' hh.length (upd (upd H4 T (.ext (dY T))) e (.frz oe (.own 0))):=x1.trans ((x4 _).trans ((Ext.same se).trans (x7 _)));generalize hH7:upd (upd H4 T (.ext (dY T))) e (.frz oe (.own 0))=H7 at *;have rl:RelD G μ' hh.length H7 (.exc c) (.ref e):=by rw[RelD,<-hH7];exact⟨e,oe,.own 0,rfl,cK,y2,y6,vs,y3⟩
  refine yZ (v:=.ref e) I7 hnd h2 (.inl l2) rfl (λs8 I8=>?_) (.inr l2);have I8':Inv (pN X (.ref e)) pins (σ.set 2 (some (.ref e))) H7 s8:=HM _ I8;have hlen:2<σ.length:=by rw[I.len];exact(az.mp h2).1
  refine ka (EW (zD (X:=pN X (.ref e)) (i:=1) (pos:=apos) (pos':=xp) hnd h1 (.inl l1) (zA (X:=pN X (.ref e)) (pos:=ep) h2 (.inl l2) d2 c2) hsw2 (.inr l1)) pins s8 (σ.set 2 (some (.ref e))) H7 { nx:=λσ' H'=>σ'=(σ.set 2 (some (.ref e))).set 1 (some (.ref e))/\H'=H7,rt:=λ_ _=>False } I8' ⟨.ref e,dk hlen,rfl,rfl⟩) (λfl9 s9 hs9=>?_) λ_ _ z=>gw z
  cases fl9 with
  |ret u=>obtain⟨_,_,_,_,_,z⟩:=hs9;exact z.elim
  |brk=>obtain⟨_,_,_,z⟩:=hs9;exact z.elim
  |cont=>obtain⟨_,_,_,z⟩:=hs9;exact z.elim
  |next=>obtain⟨σ9,H9,I9,e9,f9⟩:=hs9;subst e9;subst f9;have I9':Inv X pins _ H9 s9:=UA I8.ok I9;obtain⟨m,hn,hl⟩:=id I9'.loc;refine wpAny_nameGoes_keeps l2 hn hcls λh10 v10 hn10 hs10=>?_;exact⟨_,H9,T9 I9' hnd h2 hn hl hs10 hn10,hD μ' H9 e xx sm7 rl⟩
end
def rJ:Sr->Rs Dv
 | .rt d h=>.ok d h
 | .nx _ h=>.ok .non h
 |_=>.bad
def mJ (n:Nat) (d:Dv):Ev:=none::some d::yi (n - 2) none
def rK (n ncl:Nat) (mb:MS):Rs Dv->Rs Dv
 | .ok _ h1=>rJ (mb (mJ n .non) h1)
 | .ex c h1=>if c<ncl then rJ (mb (mJ n (.exc c)) h1)else .bad
 | .bad=>.bad
def uZ (G:Cfg) (base:cp) (Nl:List Str) (params:lx) (body:bu) (scope:iu) (me:M Dv) (n ncl:Nat) (mb:MS):Sp:=λvs H Q E=>∃f c' cl ds μ h,vs=[.ref f]/\LamAt G base H μ h.length Nl params body scope f c' cl ds/\(∀x c,cl.lookup x=some c->x∈Nl)/\Sim G μ h H/\Out G E μ h.length H (rK n ncl mb (me (ds.map some) h)) (RelD G) Q
theorem HN {G:Cfg}{E:XK}{μ μ1:Nat->ai}{n n1:Nat}{H H1:Hp}{r:Sr}{Q:VK}(o:Out G E μ n H (rJ r) (RelD G) Q) (x:Ext μ n H μ1 n1 H1):SOut G (λ_ _ _=>False) μ1 n1 H1 r { nx:=λ_ H'=>Q .non H',rt:=Q }:=by
 cases r with
 |nx ρ h'=>exact λμ' H' σ' y s _=>o μ' H' .non (x.trans y) s rfl
 |rt d h'=>exact λμ' H' v y s r=>o μ' H' v (x.trans y) s r
 |bk ρ h'=>exact o.elim
 |ct ρ h'=>exact o.elim
 |ex c h'=>exact o.elim
 |bad=>exact o
theorem HP {G:Cfg}{μ:Nat->ai}{n:Nat}{H:Hp}{m:Nat}{d:Dv}{v:V}{σ:St}(hl:σ.length=m) (hm:2<=m) (h1:σ[1]?=some (some v)) (r:RelD G μ n H d v):RelS G μ n H (mJ m d) σ:=by
 refine⟨by simp[mJ,hl];omega,λi d' e=>?_⟩;unfold mJ at e
 match i,e with
 |0,e=>simp at e
 |1,e=>simp at e;subst e;exact⟨v,h1,r⟩
 |i+2,e=>
  simp only[sd,rp]at e
  split at e <;> cases e
section
variable{P:bg}{w:cn}{K:aq}{mg:Str->Option af}{base:cp}{f:ai}{G:Cfg}{k:Nat}{Nm Nl:List Str}{params:lx}{body:bu}{scope:iu}{me:M Dv}{ncl:Nat}{NE:ai}{mb:MS}
theorem UC {x xn en nm q qual:Str}{st:gv}{fd:bq}{p cpos epos np xp ep apos hpos tpos zpos zp npos:Pos}{j:Nat}{rest:List gv}(Fn:Fun K q qual st f fd) (S:FnScope Nm [x] (aV st)) (hK:K=G.K)
  (hdef:jP st=.Assign [.Name xn zp] (.Constant .none j npos) zpos::.Try [.Expr (.Call (.Name x p) [] [] cpos) epos] [.ExceptHandler (some (.Name nm np)) (some en) [.Assign [.Name xn xp] (.Name en ep) apos] hpos] [] [] tpos::rest)
  (h0:Nm[0]?=some x) (h1:Nm[1]?=some xn) (h2:Nm[2]?=some en)
  (l0:(aV st).names.lookup x=some .local) (l1:(aV st).names.lookup xn=some .local) (l2:(aV st).names.lookup en=some .local)
  (d0:(x==("__debug__" : Str))=false) (c0:(x==("__classdict__" : Str))=false) (d2:(en==("__debug__" : Str))=false) (c2:(en==("__classdict__" : Str))=false) (dn:(nm==("__debug__" : Str))=false)
  (hsw:∀L cd,swapsWith (.Call (.Name x p) [] [] cpos) none epos.line (envOfC qual (aV st) L f cd)=pure false) (hsw2:∀L cd,swapsWith (.Name en ep) (some (.Name xn xp)) apos.line (envOfC qual (aV st) L f cd)=pure false)
  (hsw3:∀L cd,swapsWith (.Constant .none j npos) (some (.Name xn zp)) zpos.line (envOfC qual (aV st) L f cd)=pure false)
  (hg:(aV st).names.lookup nm=some .globalImplicit) (hm:mg nm=some (.ref NE)) (hx1:jv K (.ref NE) (.type "BaseException")=some true) (hx2:jv K (.type "type") (.type "tuple")=some false) (hx3:xl K (.ref NE) (.ref NE)=some true)
  (hsub:∀c,c<ncl->jv K (.ref (G.cl c)) (.ref NE)=some true)
  (LS:LamScope Nl scope) (hb:∀(cl:List (Str×ai)) (pm cdv ct:af),bindArgs (pz "<lambda>" G.lq params body scope cl pm cdv ct) ⟨[],[]⟩=pure [])
  (hbody:∀(f:ai) (cdv:af) (cl:List (Str×ai)) (A:cg) (outer:List Env) (s:ag) (H:Hp) (E₀ E:XK),Good (iN P w K mg base Nl G.lq scope f cdv cl A outer s H E₀) G E k->aK (iN P w K mg base Nl G.lq scope f cdv cl A outer s H E₀) G E body me)
  (hrest:∀(cdv:af) (A:cg) (outer:List Env) (s:ag) (H:Hp) (E₀ E:XK),Good (fU (bL P w base) P w K mg base Nm qual (aV st) f cdv A outer s H E₀) G E (k+1)->iK (fU (bL P w base) P w K mg base Nm qual (aV st) f cdv A outer s H E₀) G E rest mb):
  FnOk P w K mg base (bL P w base) (k+2) f fd [x] (uZ G base Nl params body scope me Nm.length ncl mb):=by
 obtain⟨oc,od,kV,doc,pm,an,cdv,ct,osl,rfl,lk,hcd⟩:=Fn.ex;have hNl:2<Nm.length:=(az.mp h2).1;refine zM lk hcd S (λvs H Q E ⟨f,c',cl,ds,μ,h,e,_⟩=>by rw[e];rfl) λA outer s H vs Q E hr hsp=>?_;obtain⟨fl,c',cl,ds,μ,h,rfl,L,hall,sm,o⟩:=hsp;refine⟨λD σ H1=>σ=start Nm [.ref fl]/\H1=H/\D={ nx:=λ_ H'=>Q .non H',rt:=Q }, ?_,rfl,rfl,rfl⟩;intro pins s1 σ H1 D I ⟨eσ,eH,eD⟩;subst eH;have hσl:σ.length=Nm.length:=I.len;have hσ0:σ[0]?=some (some (.ref fl)):=by rw[eσ];rfl
 rw[hdef];have gd:Good (fU (bL P w base) P w K mg base Nm qual (aV st) f cdv A outer s H1 E) G (λ_ _ _=>False) (k+1):=AS hr hK (λ_ _ z=>z.elim) (λ_ _ _ _ _ z=>z);have hset:(σ.set 1 (some .non))[0]?=some (some (.ref fl)):=by rw[fq (by decide)];exact hσ0
 refine pw (aX (zD (X:=fU (bL P w base) P w K mg base Nm qual (aV st) f cdv A outer s H1 E) (i:=1) (pos:=zpos) (pos':=zp) S.nd h1 (.inl l1) (ES (j:=j) (pos:=npos)) (hsw3 _ _) (.inl rfl) pins s1 σ H1 { nx:=λσ' H'=>σ'=σ.set 1 (some .non)/\H'=H1,rt:=λ_ _=>False } I ⟨rfl,rfl⟩) λfl2 s2 q2=>?_)
 cases fl2 with
 |ret u=>obtain⟨_,_,_,_,_,z⟩:=q2;exact z.elim
 |brk=>obtain⟨_,_,_,z⟩:=q2;exact z.elim
 |cont=>obtain⟨_,_,_,z⟩:=q2;exact z.elim
 |next=>
  obtain⟨σ2,H2,I2,e2,f2⟩:=q2;subst e2;subst f2;refine pw (aX (UB (X:=fU (bL P w base) P w K mg base Nm qual (aV st) f cdv A outer s H2 E) (G:=G) (N:=Nl) (me:=me) (ncl:=ncl) (NE:=NE) (k:=k) (D:={ nx:=uQ G (λ_ _ _=>False) mb D,rt:=λ_ _=>False })
   hK rfl rfl S.nd h0 h1 h2 (λ_=>rfl) l0 l1 l2 d0 c0 d2 c2 dn (hsw _ _) (hsw2 _ _) hg hm hx1 hx2 hx3 hsub LS hb hbody hr I2 hset L hall sm ?_) λfl3 s3 q3=>?_)
  ·cases qm:me (ds.map some) h with
   |bad=>rw[qm]at o;exact o
   |ok d hh=>rw[qm]at o;intro μ' H' x' s';refine⟨μ',mJ Nm.length .non,hh,HP (v:=.non) (by rw[kv];exact hσl) (by omega) (dk (by omega)) rfl,s', ?_⟩;rw[eD];exact HN o x'
   |ex c hh=>
    rw[qm]at o;unfold rK at o;dsimp only at o
    split at o
    ·rename_i hc;refine⟨hc,λμ' H' a x' s' r'=>?_⟩;refine⟨μ',mJ Nm.length (.exc c),hh,HP (v:=.ref a) (by simp only[kv];exact hσl) (by omega) ?_ r',s', ?_⟩
     ·rw[fq (by decide),dk (by simp only[kv];omega)]
     ·rw[eD];exact HN o x'
    ·exact o.elim
  ·cases fl3 with
   |ret u=>obtain⟨_,_,_,_,_,z⟩:=q3;exact z.elim
   |brk=>obtain⟨_,_,_,z⟩:=q3;exact z.elim
   |cont=>obtain⟨_,_,_,z⟩:=q3;exact z.elim
   |next=>obtain⟨σ3,H3,I3,q3⟩:=q3;exact hrest cdv A outer s H2 E _ gd hK pins s3 σ3 H3 D I3 q3
end
theorem UD:∀(l:List af) (a b:Int) (t u:Tok) (c:af),wg l->wg (l++[.int a t,.int b u,c]):=by
 intro l a b t u c h
 fun_induction wg l with
 |case1=>trivial
 |case2 x t y u z rest ih=>exact ih h
 |case3 l h1 h2=>exact h.elim
theorem UE {pos:Pos}{cv c:af}{a b:Int}{t u:Tok}:∀(l:List af),wg l->codeAmong pos (l++[.int a t,.int b u,c])=some cv->codeAmong pos l=some cv∨cv=c:=by
 intro l h
 fun_induction wg l with
 |case1=>
  intro e;simp only[List.nil_append,codeAmong]at e
  split at e
  ·cases e;exact .inr rfl
  ·cases e
 |case2 x t y u z rest ih=>
  intro e;simp only[List.cons_append,codeAmong]at e ⊢
  split at e
  ·rename_i hc;rw[if_pos hc];exact .inl e
  ·rename_i hc;rw[if_neg hc];exact ih h e
 |case3 l h1 h2=>exact h.elim
def lJ (mg:Str->Option af) (base:cp):Prop:=∃bm ob,mg "__builtins__" = some (.ref bm)/\bm≠builtinsNs/\base.get? bm=some ob/\ob.cls=.type "module"/\ob.dict=some builtinsNs/\ob.data=.plain
def HQ (H H':Hp):Prop:=∀a o,(∀ps,o≠.tbl ps)->H a=some o->H' a=some o
section
variable{X:Cx}{G:Cfg}{params:lx}{body:bu}{scope:iu}{lpos:Pos}{c P:ai}
theorem UG (hdef:defaultsOf params X.env=([],[])) (hq:X.env.qual ++ "<lambda>" = G.lq) (hP:G.tab=some P) (hcode:X.env.code=.ref c) (hC:lj X.base c P) (hB:lJ X.mg X.base)
  (hfree:∀x,(x,cf)∈scope.names->X.env.kindOf x=some .cell∨X.env.kindOf x=some .free):
  PE X (.Lambda params body scope lpos) (λσ H Q=>TabOk G H/\∀f c' pm ctv oc H1,HQ H H1->TabOk G H1->H1 f=some (.frz (ki "<lambda>" G.lq params body scope (cV X.env scope.names []) pm c' ctv) (.own 0))->H1 c'=some (.frz oc (.own 0))->uD G.lq oc->Q (.ref f) H1):=by
 intro pins s σ H Q I ⟨hT,h⟩;obtain⟨ps,t1,t2,t3⟩:=hT P hP;have gP:s.heap.get? P=some (ub ps):=I.hok P _ t1;have hcl:closureFor scope X.env=pure (cV X.env scope.names []):=zU λx hx=>I.ok.has x (hfree x hx);have hgs:s.heap.Ns ff X.mg:=I.mod.glob.keeps I.bk;obtain⟨bm,ob,b1,b2,b3,b4,b5,b6⟩:=hB;have b3':=I.bk _ _ b3;have hgP:ff≠P:=λq=>by obtain⟨o,es,ep,e,hd,_⟩:=hgs;rw[q,gP]at e;cases e;cases hd
 have hbP:bm≠P:=λq=>by rw[q,gP]at b3';cases b3';cases b4
 have hbG:bm≠ff:=λq=>by obtain⟨o,es,ep,e,hd,_⟩:=hgs;rw[<-q,b3']at e;cases e;rw[hd]at b6;cases b6
 have hba:s.heap.BuiltinsAt X.mg P:=⟨bm,ob,b1,b2,hbG,hbP,b3',b4,b5,b6⟩
 refine PySem.W.kla_eval hdef ?_;rw[hq]
 cases hc:codeAmong lpos ps.toList with
 |some cv=>obtain⟨c',oc,ec,h2,h3⟩:=t3 lpos cv hc;subst ec;refine PySem.W.kla_makeFunctionHit (mg:=X.mg) hcl I.ok.glob hgs hcode (hC.keeps I.bk) gP t2 hc hba λctv h' tk hk hsz=>?_;have hn:H h'.objs.size=none:=I.hok.fresh hsz;have kk:∀b u,s.heap.get? b=some u->(h'.push { cls:=.type "function",data:=.func (pz "<lambda>" G.lq params body scope (cV X.env scope.names []) ((X.mg "__name__").getD .none) (.ref c') ctv) }).get? b=some u:=λb u q=>aj _ (hk b u q);have gf:=ax h' (o:=ki "<lambda>" G.lq params body scope (cV X.env scope.names []) ((X.mg "__name__").getD .none) c' ctv) rfl;have I1:=I.laid (a:=h'.objs.size) (o:=.frz (ki "<lambda>" G.lq params body scope (cV X.env scope.names []) ((X.mg "__name__").getD .none) c' ctv) (.own 0)) (t':=tk) kk hsz ⟨gf,_,gf⟩;have sm:Same H (upd H h'.objs.size (.frz (ki "<lambda>" G.lq params body scope (cV X.env scope.names []) ((X.mg "__name__").getD .none) c' ctv) (.own 0))):=cG hn;exact⟨.ref h'.objs.size,_,I1,rfl,h _ c' _ ctv oc _ (λa o _ q=>sm a o q) (hT.keep λa o _ _ q=>sm a o q) cK (sm _ _ h2) h3⟩
 |none=>
  refine PySem.W.kla_makeFunction (mg:=X.mg) hcl I.ok.glob hgs hcode (hC.keeps I.bk) gP t2 hc hgP hba λc' ctv h' tk hx hge hlt hrec htb=>?_;obtain⟨c₂,oc,vs,t,e2,hoc,hd,hv⟩:=hrec;cases e2;generalize hfo:ki "<lambda>" G.lq params body scope (cV X.env scope.names []) ((X.mg "__name__").getD .none) c' ctv=fo;have nfo:fo.isFreed=false:=by rw[<-hfo];rfl
  have gf:(h'.push fo).get? h'.objs.size=some fo:=ax h' nfo;have goc:(h'.push fo).get? c'=some oc:=aj _ hoc;have gP':=aj fo htb;generalize hps:ps++#[rawInt lpos.line,rawInt lpos.col,.ref c']=ps' at gP';have lP:P<s.heap.objs.size:=ao gP;have kk:∀b u,b≠P->s.heap.get? b=some u->(h'.push fo).get? b=some u:=λb u hb q=>aj _ (hx b u hb q);have lt0:∀b u,s.heap.get? b=some u->b<s.heap.objs.size:=λb u q=>ao q;have nPc:P≠c':=bc (au lP hge);have nPf:P≠h'.objs.size:=bc (au lP (dq hge (gq hlt)));have ncf:c'≠h'.objs.size:=bc hlt;have lH:∀b o,H b=some o->b<s.heap.objs.size:=λb o q=>I.hok.lt q;have H1e:∀b,b≠P->b<s.heap.objs.size->upd (upd (upd H P (.tbl ps')) c' (.frz oc (.own 0))) h'.objs.size (.frz fo (.own 0)) b=H b:=λb h1 h2=>by rw[bO (bc (au h2 (dq hge (gq hlt)))),bO (bc (au h2 hge)),bO h1]
  have eP:upd (upd (upd H P (.tbl ps')) c' (.frz oc (.own 0))) h'.objs.size (.frz fo (.own 0)) P=some (.tbl ps'):=by rw[bO nPf,bO nPc,cK]
  have ec:upd (upd (upd H P (.tbl ps')) c' (.frz oc (.own 0))) h'.objs.size (.frz fo (.own 0)) c'=some (.frz oc (.own 0)):=by rw[bO ncf,cK]
  have ef:upd (upd (upd H P (.tbl ps')) c' (.frz oc (.own 0))) h'.objs.size (.frz fo (.own 0)) h'.objs.size=some (.frz fo (.own 0)):=cK;have cases1:∀b o,upd (upd (upd H P (.tbl ps')) c' (.frz oc (.own 0))) h'.objs.size (.frz fo (.own 0)) b=some o->(b=h'.objs.size/\o=.frz fo (.own 0))∨(b=c'/\o=.frz oc (.own 0))∨(b=P/\o=.tbl ps')∨(b≠P/\H b=some o):=λb o q=>by
   by_cases q1:b=h'.objs.size
   ·subst q1;rw[cK]at q;cases q;exact .inl ⟨rfl,rfl⟩
   rw[bO q1]at q
   by_cases q2:b=c'
   ·subst q2;rw[cK]at q;cases q;exact .inr (.inl ⟨rfl,rfl⟩)
   rw[bO q2]at q
   by_cases q3:b=P
   ·subst q3;rw[cK]at q;cases q;exact .inr (.inr (.inl ⟨rfl,rfl⟩))
   rw[bO q3]at q;exact .inr (.inr (.inr ⟨q3,q⟩))
  generalize upd (upd (upd H P (.tbl ps')) c' (.frz oc (.own 0))) h'.objs.size (.frz fo (.own 0))=H1 at *;have keepO:∀b o,(∀ps,o≠.tbl ps)->H b=some o->H1 b=some o:=λb o hn q=>by rw[H1e b (λz=>by subst z;rw[t1]at q;cases q;exact hn _ rfl) (lH b o q)];exact q
  have un:Un X.fs [] H H1 s.heap (h'.push fo):=by
   have nP:∀b,H b=none->b≠P:=λb n z=>by subst z;rw[t1]at n;cases n
   refine⟨λb o q n _ _=>kk b o (nP b n) q,λb o q n _ _=>⟨o.slots,kk b o (nP b n) q⟩,λb o q n _=>by rw[H1e b (nP b n) (lt0 b o q)];exact n,λb o q _=>?_,λb xs q=>keepO b _ (λ_ z=>by cases z) q,λb o u q=>keepO b _ (λ_ z=>by cases z) q,λb qs q=>?_⟩
   ·by_cases hb:b=P
    ·subst hb;exact⟨_,gP'⟩
    ·exact⟨_,kk b o hb q⟩
   ·by_cases hb:b=P
    ·subst hb;rw[t1]at q;cases q;exact⟨#[rawInt lpos.line,rawInt lpos.col,.ref c'],by rw[eP,hps]⟩
    ·exact⟨#[],by rw[H1e b hb (lH b _ q),q];simp⟩
  have hok1:HOk X.prog X.w H1 (h'.push fo):=λb o q=>by
   rcases cases1 b o q with⟨rfl,rfl⟩|⟨rfl,rfl⟩|⟨rfl,rfl⟩|⟨hb,q⟩
   ·exact⟨gf,_,gf⟩
   ·exact⟨goc,_,goc⟩
   ·exact gP'
   ·refine(I.hok b o q).stay (λb2 u hb2 z=>kk b2 u ?_ z) (λb2 z=>keepO b2 _ (λ_ z=>by cases z) z) λb2 xs z=>keepO b2 _ (λ_ z=>by cases z) z
    rcases hb2 with rfl|hb2
    ·exact hb
    ·rintro rfl;rw[t1]at hb2;cases hb2
  have I1:Inv X pins σ H1 { s with heap:=h'.push fo,toks:=tk }:=I.un un hok1;refine⟨.ref h'.objs.size,H1,I1,rfl,h h'.objs.size c' ((X.mg "__name__").getD .none) ctv oc H1 keepO ?_ (by rw[hfo];exact ef) ec ⟨vs,t,hd,hv⟩⟩;intro P' eP';rw[hP]at eP';cases eP';have hl:ps'.toList=ps.toList++[rawInt lpos.line,rawInt lpos.col,.ref c']:=by rw[<-hps];simp
  refine⟨ps',eP,by rw[hl];exact UD _ _ _ _ _ _ t2,λpos cv q=>?_⟩;rw[hl]at q
  rcases UE _ t2 q with q|q
  ·obtain⟨a,oa,z1,z2,z3⟩:=t3 pos cv q;exact⟨a,oa,z1,keepO a _ (λ_ z=>by cases z) z2,z3⟩
  ·exact⟨c',oc,q,ec,vs,t,hd,hv⟩
end
def nX:List Nat->Ev->Option (List Dv)
 | [],_=>some []
 |i::r,ρ=>match ρ[i]? with
  |some (some d)=>(match nX r ρ with
   |some ds=>some (d::ds)
   |none=>none)
  |_=>none
theorem HR {ρ:Ev}:∀{caps:List Nat}{ds:List Dv},nX caps ρ=some ds->ds.length=caps.length/\∀(i:Nat) (d:Dv),ds[i]?=some d->∃j,caps[i]?=some j/\ρ[j]?=some (some d)
 | [],ds,e=>by unfold nX at e;cases e;exact⟨rfl,λi d e=>by simp at e⟩
 |j::r,ds,e=>by
  unfold nX at e
  split at e
  ·rename_i d0 h0
   split at e
   ·rename_i ds0 h1;cases e;obtain⟨l,k⟩:=HR h1;refine⟨by simp[l],λi d q=>?_⟩
    cases i with
    |zero=>simp at q;subst q;exact⟨j,rfl,h0⟩
    |succ i=>exact k i d (by simpa using q)
   ·cases e
  ·cases e
def iO (caps:List Nat) (n ncl:Nat) (mb:MS) (me:M Dv):M Dv:=λρ h=>match nX caps ρ with
 |some ds=>rK n ncl mb (me (ds.map some) h)
 |none=>.bad
def iP (base h:cp) (cs:List ai):cp:=PySem.W.hideAll h ((bf h.objs.size).filter λb=>!((base.get? b).isSome||cs.contains b))
theorem AX {base h:cp}{cs:List ai}{b:ai}{o:Obj}(e:h.get? b=some o) (hb:(∃u,base.get? b=some u)∨b∈cs):(iP base h cs).get? b=some o:=
 Bg _ e λz=>by
  have:=(nh.mp z).2
  rcases hb with⟨u,hb⟩|hb
  ·simp[hb]at this
  ·simp[hb]at this
theorem HS {base h:cp}{cs:List ai}{b:ai}{o:Obj}(e:(iP base h cs).get? b=some o):h.get? b=some o/\((∃u,base.get? b=some u)∨b∈cs):=by
 have e1:=Bo _ e;refine⟨e1, ?_⟩
 by_cases hb:(∃u,base.get? b=some u)∨b∈cs
 ·exact hb
 ·exfalso
  have hm:b∈(bf h.objs.size).filter λb=>!((base.get? b).isSome||cs.contains b):=by
   refine nh.mpr ⟨bp.mpr (ao e1), ?_⟩
   cases q:base.get? b with
   |some u=>exact absurd (.inl ⟨u,q⟩) hb
   |none=>have:b∉cs:=λz=>hb (.inr z);simp[this]
  have:=Bd (h:=h) _ hm;unfold iP at e;rw[this]at e;cases e
theorem Out.ext {α β:Type}{G:Cfg}{E:XK}{μ μ1:Nat->ai}{n n1:Nat}{H H1:Hp}{r:Rs α}{R:(Nat->ai)->Nat->Hp->α->β->Prop}{Q:β->Hp->Prop}(o:Out G E μ n H r R Q) (x:Ext μ n H μ1 n1 H1):Out G E μ1 n1 H1 r R Q:=by
 cases r with
 |bad=>exact o
 |ex c h'=>exact λμ' H' u y=>o μ' H' u (x.trans y)
 |ok d h'=>exact λμ' H' u y=>o μ' H' u (x.trans y)
theorem HU {env:Env}{scope:iu}{x:Str}{c:ai}(hf:∀x,(x,cf)∈scope.names->∃c,env.cells.lookup x=some c) (e:(cV env scope.names []).lookup x=some c):(x,cf)∈scope.names/\env.cells.lookup x=some c:=by
 rcases tY _ _ e with q|⟨q1,q2⟩
 ·cases q
 ·obtain⟨c',h'⟩:=hf x q1;rw[h']at q2;subst q2;exact⟨q1,h'⟩
section
variable{X:Cx}{G:Cfg}{E:XK}{k:Nat}{q x:Str}{p pos lpos:Pos}{params:lx}{body:bu}{scope:iu}{c P fr:ai}{fdr:bq}{Nl:List Str}{me:M Dv}{n ncl j:Nat}{mb:MS}{caps:List Nat}
theorem UH (g:Good X G E k) (hj:j<=k) (hfn:∀y,X.fn y=true)
  (F:∀base,X.K.In base->base.Ns ff X.mg->FnOk X.prog X.w X.K X.mg base (bL X.prog X.w base) j fr fdr [x] (uZ G base Nl params body scope me n ncl mb))
  (hg:Gl X q) (hm:X.mg q=some (.ref fr)) (hk:nr X.K (.ref fr)=true) (hb:Binds X.K fdr [x] [])
  (hdef:defaultsOf params X.env=([],[])) (hq:X.env.qual ++ "<lambda>" = G.lq) (hP:G.tab=some P) (hcode:X.env.code=.ref c) (hC:lj X.base c P) (hB:lJ X.mg X.base)
  (LS:LamScope Nl scope) (hkind:∀y∈Nl,X.env.scope.names.lookup y=some .cell) (hcl:caps.length=Nl.length) (hcap:∀(i j:Nat) (y:Str),caps[i]?=some j->Nl[i]?=some y->X.N[j]?=some y)
  (hdb:(q==("__debug__" : Str))=false) (he:aw [.Lambda params body scope lpos] X.env=[(false,eval (.Lambda params body scope lpos) X.env)]:=by rfl):
  aK X G E (.Call (.Name q p) [.Lambda params body scope lpos] [] pos) (iO caps n ncl mb me):=by
 intro hK pins s σ H Q I ⟨μ,ρ,h,rs,sm,o⟩;unfold iO at o
 cases hcd:nX caps ρ with
 |none=>rw[hcd]at o;exact o.elim
 |some ds=>
 rw[hcd]at o;obtain⟨hdl,hdg⟩:=HR hcd;have hfree:∀y,(y,cf)∈scope.names->X.env.kindOf y=some .cell∨X.env.kindOf y=some .free:=λy hy=>.inl (hkind y (LS.all _ hy rfl));have hfc:∀y,(y,cf)∈scope.names->∃c,X.env.cells.lookup y=some c:=λy hy=>I.ok.has y (hfree y hy);refine lg (qK I hg hm ?_ hdb);refine Br (h₀:=X.base) I.ok.mod.kin hk (aX (gW (UG (G:=G) (lpos:=lpos) (body:=body) hdef hq hP hcode hC hB hfree) jA he pos pins s σ H
  (λvs H1=>∃f c' pm ctv oc,vs=[.ref f]/\HQ H H1/\TabOk G H1/\H1 f=some (.frz (ki "<lambda>" G.lq params body scope (cV X.env scope.names []) pm c' ctv) (.own 0))/\H1 c'=some (.frz oc (.own 0))/\uD G.lq oc) I
  ⟨sm.tab,λf c' pm ctv oc H1 st tb e1 e2 e3=>⟨f,c',pm,ctv,oc,rfl,st,tb,e1,e2,e3⟩⟩) λus s1 ⟨vs,H1,I1,r,f,c',pm,ctv,oc,ev,st,tb,e1,e2,e3⟩=>⟨I1.kIn, ?_⟩) he rfl
 subst ev;generalize hcs:cV X.env scope.names []=cl at *;have kb:∀b u,X.base.get? b=some u->(iP X.base s1.heap (cl.map (·.2))).get? b=some u:=λb u e=>AX (I1.bk _ _ e) (.inl ⟨u,e⟩);have clc:∀y cc,(y,cc)∈cl->cl.lookup y=some cc->X.env.cells.lookup y=some cc:=λy cc _ e=>(HU hfc (by rw[hcs];exact e)).2;have memc:∀b,b∈cl.map (·.2)->∃y,X.env.cells.lookup y=some b:=λb hb=>by
  obtain⟨⟨y,cc⟩,hm1,rfl⟩:=df.mp hb;have:∀(l:List (Str×kq)) (acc:List (Str×ai)),(∀y cc,(y,cc)∈acc->X.env.cells.lookup y=some cc)->(∀y,(y,cf)∈l->∃c,X.env.cells.lookup y=some c)->∀y cc,(y,cc)∈cV X.env l acc->X.env.cells.lookup y=some cc:=by
   intro l
   induction l with
   |nil=>exact λacc h1 _=>h1
   |cons a l ih=>
    obtain⟨y0,k0⟩:=a;intro acc h1 h2;rw[cV];refine ih _ (λy cc hm2=>?_) λy hy=>h2 y (ay _ hy)
    cases hk0:k0==cf with
    |true=>
     rw[hk0,if_pos rfl]at hm2
     rcases ba.mp hm2 with z|z
     ·cases z;have ek:k0=.free:=by cases k0 <;> first|rfl|cases hk0
      subst ek;obtain⟨c3,h3⟩:=h2 y0 (bh ..);rw[h3];rfl
     ·exact h1 _ _ z
    |false=>rw[hk0,if_neg (by simp)]at hm2;exact h1 _ _ hm2
  exact⟨y,this scope.names [] (λ_ _ z=>by cases z) hfc y cc (by rw[hcs];exact hm1)⟩
 have M0:=I1.ok.mod;have nsk:∀{a:ai}{m:Str->Option af},X.base.Ns a m->(iP X.base s1.heap (cl.map (·.2))).Ns a m:=λhn=>hn.keeps kb;have hM:Mod X.K X.mg (iP X.base s1.heap (cl.map (·.2))):=⟨M0.kin.keeps kb,nsk M0.glob,(let ⟨mb,a,b⟩:=M0.blt;⟨mb,nsk a,b⟩),M0.nolimit.keeps kb⟩
 have hbs:∀b u,(iP X.base s1.heap (cl.map (·.2))).get? b=some u->s1.heap.get? b=some u/\H1 b=none:=λb u e=>by
  obtain⟨g1,g2⟩:=HS e;refine⟨g1, ?_⟩
  rcases g2 with⟨u',g2⟩|g2
  ·exact(I1.bs _ _ g2).2
  ·obtain⟨y,hy⟩:=memc b g2;exact I1.freeC y b hy
 have nbf:∀b∈dH X.stack,(iP X.base s1.heap (cl.map (·.2))).get? b=none:=λb hb=>by
  cases qq:(iP X.base s1.heap (cl.map (·.2))).get? b with
  |none=>rfl
  |some u=>
   exfalso
   obtain⟨g1,g2⟩:=HS qq
   rcases g2 with⟨u',g2⟩|g2
   ·have:=(I1.stack.mem hb).1;rw[this]at g2;cases g2
   ·obtain⟨y,hy⟩:=memc b g2
    rcases ba.mp (I1.stkSub b hb)with z|z
    ·exact I1.cne y b hy z
    ·obtain⟨v0,ob,ho1,hd1⟩:=I1.cell y b hy;have fm:∀z∈X.fs,z<X.s₀.heap.objs.size:=λz hz=>by obtain⟨_,o2,h2,_⟩:=I1.ok.funs.mem hz;exact ao h2
     exact absurd (au (fm b z) (I1.ok.cab y b (hfn y) hy)) (gp _)
 have hfun:s1.heap.FunFrames (iP X.base s1.heap (cl.map (·.2))) X.stack:=by
  have all:∀(l:List Env),(∀b∈dH l,b∈dH X.stack)->s1.heap.FunFrames X.base l->s1.heap.FunFrames (iP X.base s1.heap (cl.map (·.2))) l:=by
   intro l
   induction l with
   |nil=>intro _ _;trivial
   |cons env r ih=>
    intro hs hl;obtain⟨hk',⟨L,o',hf',hn',ho',hd'⟩,hr'⟩:=hl;have hL:L∈dH (env::r):=by unfold dH;rw[cb,hf'];exact bh
    exact⟨hk',⟨L,o',hf',nbf L (hs L hL),ho',hd'⟩,ih (λb hb=>hs b (by unfold dH;rw[cb,hf'];exact ay _ hb)) hr'⟩
  exact all X.stack (λ_ hb=>hb) I1.stack
 have e0:Env0 X.prog X.w X.K X.mg (iP X.base s1.heap (cl.map (·.2))) X.A X.stack s1 H1:=⟨I1.ok.frames,hM,hbs,qe (Bc _ _),hfun,I1.stkFree,I1.hok,I1.bare⟩
 have xt:Ext μ h.length H μ h.length H1:=⟨ak _,λ_ _=>rfl,λa u im z=>st a u (λps w=>by subst w;exact im) z⟩
 have sm1:Sim G μ h H1:=⟨sm.inj,λi ob z=>by
  have r0:=sm.ob i ob z
  cases ob with
  |lst xs=>obtain⟨vs,z1,z2⟩:=r0;exact⟨vs,st _ _ (λ_ w=>by cases w) z1,RelDL.mono xt _ _ z2⟩,tb⟩
 have look:∀y cc,cl.lookup y=some cc->(y,cf)∈scope.names/\X.env.cells.lookup y=some cc:=λy cc e=>HU hfc (by rw[hcs];exact e);have memL:∀y cc,cl.lookup y=some cc->cc∈cl.map (·.2):=λy cc e=>df.mpr ⟨(y,cc),fv e,rfl⟩;have L:LamAt G (iP X.base s1.heap (cl.map (·.2))) H1 μ h.length Nl params body scope f c' cl ds:=by
  refine⟨⟨pm,ctv,e1⟩,⟨oc,e2,e3⟩,λy z cc a b=>I1.ok.inj y z cc (look y cc a).2 (look z cc b).2,hdl.trans hcl,λi y hy=>?_,λy cc e=>?_,λi y cc d hy hd e=>?_⟩
  ·have hf1:=LS.fr y (bx hy);have:=qN (env:=X.env) (x:=y) scope.names [] (.inl (fv hf1));rw[hcs]at this;exact⟨_,this⟩
  ·obtain⟨v0,ob,ho1,hd1⟩:=I1.cell y cc (look y cc e).2;exact⟨ob,v0,AX ho1 (.inr (memL y cc e)),hd1⟩
  ·obtain⟨jj,hjj,hρ⟩:=hdg i d hd;obtain⟨v,hv,rd⟩:=rs.at_ jj d hρ;have hNj:=hcap i jj y hjj hy;have hyk:=hkind y (bx hy);obtain⟨m,hn,hl⟩:=I1.loc;obtain⟨u,ru,lk⟩:=hl jj y v hNj hv (.inr (.inl hyk))
   rcases lk with⟨kl,_⟩|⟨_,c4,ec4,ob,ho1,hd1⟩
   ·have kl':X.env.scope.names.lookup y=some .local:=kl;rw[hyk]at kl';cases kl'
   ·rw[(look y cc e).2]at ec4;cases ec4;exact⟨ob,u,v,AX ho1 (.inr (memL y cc e)),hd1,ru,RelD.mono xt _ _ rd⟩
 have hall:∀y cc,cl.lookup y=some cc->y∈Nl:=λy cc e=>LS.all _ (look y cc e).1 rfl;have hlen:(us++([]:List af)).length=[x].length:=by rw[kr,<-r.length];rfl
 have hbt:=hb s1 us I1.kIn hlen;rw[kr]at hbt;refine Bq (ni ((F _ hM.kin hM.glob).run X.A X.stack s1 H1 ⟨us,[]⟩ us [.ref f] Q E (g.room.mono hj) e0 hbt r ⟨f,c',cl,ds,μ,h,rfl,L,hall,sm1,o.ext xt⟩) λrr s' hq'=>?_)
 cases rr with
 |ok fl=>
  cases fl with
  |ret u=>exact I1.after hq'
  |next=>exact gw hq'
  |brk=>exact gw hq'
  |cont=>exact gw hq'
 |error ev=>
  obtain⟨e,C,H',eu,os,bare,un,hok,fl,hE⟩:=hq';refine g.pas pins σ H1 s1 ev s' I1 ⟨e,C,H',eu,os,bare,un,hok, ?_,hE⟩;obtain⟨T,a0,w1,w2,w3,w4⟩:=fl;refine⟨T,a0,w1,w2, ?_,w4⟩
  cases qq:X.base.get? e with
  |none=>rfl
  |some u=>have:=kb e u qq;rw[w3]at this;cases this
end
section
variable{X:Cx}{G:Cfg}
open Classical in
noncomputable def eK (H:Hp) (tx:Dt) (u:af):Bool:=decide (∃v t,RelV v u/\Den jB H t v/\bM t tx=true)
open Classical in
theorem HV {H:Hp}{tx t:Dt}{u:af}{v:V}(r:RelV v u) (d:Den jB H t v):eK H tx u=bM t tx:=by
 unfold eK
 cases q:bM t tx with
 |true=>exact decide_eq_true ⟨v,t,r,d,q⟩
 |false=>refine decide_eq_false λ⟨v',t',r',d',q'⟩=>?_;have e:=r'.inj r;subst e;rw[Den.inj t' t v' d' d,q]at q';cases q'
theorem rL {H:Hp}{tx:Dt}:∀{ts:List Dt}{vs:List V}{us:List af},DenL jB H ts vs->Vals vs us->us.any (eK H tx)=ts.any λt=>bM t tx
 | [],_,_,d,r=>by rw[DenL]at d;subst d;cases r;rfl
 |t::ts,_,_,d,r=>by
  rw[DenL]at d;obtain⟨v,rr,rfl,d1,d2⟩:=d
  cases r with
  |cons r1 r2=>rw[List.any_cons,List.any_cons,HV r1 d1,rL d2 r2]
def vA (K:aq) (neg:Bool):R2:=λx y H Q=>∃a vs ts tx,y=.ref a/\(SqL K H a vs∨SqT K H a vs)/\DenL jB H ts vs/\Den jB H tx x/\(∀t∈ts,eZ t<=cB/\nod t=true)/\nod tx=true/\Q (.bl (if neg then !(ts.any λt=>bM t tx)else ts.any λt=>bM t tx)) H
theorem vB {pins:List (ai×Obj)}{σ:St}{H:Hp}{s:ag}{x:V}{v:af}{vs:List V}{its:List af}{ts:List Dt}{tx:Dt}(hu:X.A.units+64<cLine) (I:Inv X pins σ H s) (rx:RelV x v) (r:Vals vs its) (d:DenL jB H ts vs) (dx:Den jB H tx x)
  (ht:∀t∈ts,eZ t<=cB/\nod t=true) (nx:nod tx=true):∀y,y∈its.toArray->vh X.A.in1 s y v (eK H tx y):=λy hy=>by
 have hy':y∈its:=by simpa using hy
 obtain⟨j,hj,e⟩:=ur.mp hy';have hl:=r.length;obtain⟨u,eu,ru⟩:=r.get (i:=j) (x:=vs[j]'(by omega)) (ar (by omega));have:u=y:=by rw[ar hj,e]at eu;cases eu;rfl
 subst this;obtain⟨t,et,dt⟩:=d.get (i:=j) (ar (by omega:j<vs.length));obtain⟨h1,h2⟩:=ht t (bx et);rw[HV ru dt];exact(AB I.hok cB X.A.in1 t tx _ x _ v h1 (by show X.A.units+1+cB+1<cLine;unfold cB;omega) h2 nx dt dx ru rx).2
theorem HW (hu:X.A.units+64<cLine):OpR X (compareOp .In) (vA X.K false):=by
 intro pins s σ H x y v u Q I r1 r2 ⟨a,vs,ts,tx,e,hs,d,dx,ht,nx,q⟩;subst e;cases r2
 rcases hs with hs|hs
 ·obtain⟨its,r,pl,hz⟩:=I.list hs;refine SeqAt.in_listAt (eK H tx) pl.isList (vB hu I r1 r d dx ht nx) ?_;exact⟨.bl _,H,I,by rw[show its.toArray.any (eK H tx)=its.any (eK H tx)by simp,rL d r];rfl,q⟩
 ·obtain⟨its,r,pl,hz⟩:=I.tuple hs;refine SeqAt.in_tupleAt (eK H tx) pl (vB hu I r1 r d dx ht nx) ?_;exact⟨.bl _,H,I,by rw[show its.toArray.any (eK H tx)=its.any (eK H tx)by simp,rL d r];rfl,q⟩
theorem HX (hu:X.A.units+64<cLine):OpR X (compareOp .NotIn) (vA X.K true):=by
 intro pins s σ H x y v u Q I r1 r2 ⟨a,vs,ts,tx,e,hs,d,dx,ht,nx,q⟩;subst e;cases r2
 rcases hs with hs|hs
 ·obtain⟨its,r,pl,hz⟩:=I.list hs;refine SeqAt.notIn_listAt (eK H tx) pl.isList (vB hu I r1 r d dx ht nx) ?_;exact⟨.bl _,H,I,by rw[show its.toArray.any (eK H tx)=its.any (eK H tx)by simp,rL d r];rfl,q⟩
 ·obtain⟨its,r,pl,hz⟩:=I.tuple hs;refine SeqAt.notIn_tupleAt (eK H tx) pl (vB hu I r1 r d dx ht nx) ?_;exact⟨.bl _,H,I,by rw[show its.toArray.any (eK H tx)=its.any (eK H tx)by simp,rL d r];rfl,q⟩
def kN (scr:List Int) (neg:Bool) (x c:Dv) (h:Hs):Rs Dv:=match eB scr c h with
 |some ys=>match bU (bV cB h) ys,bV cB h x with
  |some ts,some tx=>.ok (.bl (if neg then !(ts.any λt=>bM t tx)else ts.any λt=>bM t tx)) h
  |_,_=>.bad
 |none=>.bad
theorem HY {μ:Nat->ai}{h:Hs}{H:Hp}(s:Sim G μ h H):∀{xs:List Dv}{vs:List V}{ts:List Dt},RelDL G μ h.length H xs vs->bU (bV cB h) xs=some ts->DenL jB H ts vs/\∀t∈ts,eZ t<=cB/\nod t=true
 | [],_,_,r,e=>by cases e;rw[RelDL]at r;subst r;exact⟨DenL.nil,λt ht=>by simp at ht⟩
 |x::xs,_,_,r,e=>by
  rw[RelDL]at r;obtain⟨v,rr,rfl,r1,r2⟩:=r;unfold bU at e
  cases q:bV cB h x with
  |none=>rw[q]at e;cases e
  |some y=>
   rw[q]at e;dsimp only at e
   cases q2:bU (bV cB h) xs with
   |none=>rw[q2]at e;cases e
   |some ys=>
    rw[q2]at e;cases e;obtain⟨a1,a2,a3⟩:=pC s _ x v y r1 q;obtain⟨b1,b2⟩:=HY s r2 q2;refine⟨DenL.cons a1 b1,λt ht=>?_⟩
    rcases ba.mp ht with rfl|ht
    ·exact⟨a2,a3⟩
    ·exact b2 t ht
theorem UI (neg:Bool):fO G (vA G.K neg) (kN G.scr neg):=by
 intro E μ h H x y vx vy Q s rx ry o;unfold kN at o
 cases q:eB G.scr y h with
 |none=>rw[q]at o;exact o.elim
 |some ys=>
  rw[q]at o;dsimp only at o
  split at o
  ·rename_i ts tx e1 e2;obtain⟨a,vs,rfl,hs,r⟩:=AJ s ry q;obtain⟨b1,b2⟩:=HY s r e1;obtain⟨c1,c2,c3⟩:=pC s _ x vx tx rx e2;exact⟨a,vs,ts,tx,rfl,hs,b1,c1,b2,c3,o.val s rfl⟩
  ·exact o.elim
end
section
variable{X:Cx}{G:Cfg}
end
def iB (c:M Bool) (body:MS):Nat->MS
 |0=>λ_ _=>.bad
 |f+1=>λρ h=>(c ρ h).thenS λb h1=>if b=true then(match body ρ h1 with
  | .nx ρ2 h2=>iB c body f ρ2 h2
  | .ct ρ2 h2=>iB c body f ρ2 h2
  | .bk ρ2 h2=>.nx ρ2 h2
  |r=>r)else .nx ρ h1
section
variable{X:Cx}{G:Cfg}{E:XK}{c:bu}{body:List gv}{mc:M Bool}{mb:MS}{pos:Pos}
theorem HZ (n:Nat) (hp:zi (model X.prog X.w) X.A X.env X.xe) (hc:fV X G E c mc) (hb:iK X G E body mb):iJ X G E (.While c body [] pos) (iB mc mb n):=λhK=>PS.imp (OJ hp (hc hK) (hb hK)) λD σ H ⟨μ,ρ,h,rs,s,o⟩=>by
 refine⟨λm σ H=>∃μ ρ h,RelS G μ h.length H ρ σ/\Sim G μ h H/\SOut G E μ h.length H (iB mc mb m ρ h) D,⟨n,μ,ρ,h,rs,s,o⟩, ?_⟩
 rintro m σ1 H1 ⟨μ1,ρ1,h1,rs1,s1,o1⟩
 cases m with
 |zero=>exact o1.elim
 |succ m=>
  refine GR rs1 s1 o1 λμ2 b h2 H2 x2 rs2 s2 o2=>?_
  cases b with
  |false=>rw[if_neg (by decide)]at o2 ⊢;exact o2 μ2 H2 σ1 Ext.refl s2 rs2
  |true=>
   rw[if_pos rfl]at o2 ⊢;refine⟨λσ' H'=>∃μ ρ h,RelS G μ h.length H' ρ σ'/\Sim G μ h H'/\SOut G E μ h.length H' (iB mc mb m ρ h) D,λσ' H' z=>⟨m,kd m,z⟩,μ2,ρ1,h2,rs2,s2, ?_⟩
   cases q:mb ρ1 h2 with
   |nx ρ3 h3=>rw[q]at o2;exact λμ4 H4 σ4 x4 s4 mY=>⟨μ4,ρ3,h3,mY,s4,SOut.ext o2 x4⟩
   |ct ρ3 h3=>rw[q]at o2;exact λμ4 H4 σ4 x4 s4 mY=>⟨μ4,ρ3,h3,mY,s4,SOut.ext o2 x4⟩
   |bk ρ3 h3=>rw[q]at o2;exact o2
   |rt d h3=>rw[q]at o2;exact o2
   |ex d h3=>rw[q]at o2;exact o2
   |bad=>rw[q]at o2;exact o2.elim
end
section
variable{X:Cx}{G:Cfg}{E:XK}{e o:bu}{mo me:M Dv}{pos apos cpos np p2:Pos}{y:Str}
def vC (x i:Dv) (h:Hs):Rs Dv:=match x,i with
 | .ref j,.int n=>match getL h j with
  |some xs=>match ixN xs.length n with
   |some k=>match xs[k]? with
    |some d=>if xs.length<=1000000 then .ok d (h.set j (.lst (xs.eraseIdx k)))else .bad
    |none=>.bad
   |none=>.bad
  |none=>.bad
 |_,_=>.bad
theorem IA {μ:Nat->ai}{n:Nat}{H:Hp}:∀{ds:List Dv}{vs:List V}(k:Nat),RelDL G μ n H ds vs->RelDL G μ n H (ds.eraseIdx k) (vs.eraseIdx k)
 | [],_,_,h=>by rw[RelDL]at h;subst h;exact RelDL.nil
 |d::ds,_,0,h=>by rw[RelDL]at h;obtain⟨v,r,rfl,h1,h2⟩:=h;exact h2
 |d::ds,_,k+1,h=>by rw[RelDL]at h;obtain⟨v,r,rfl,h1,h2⟩:=h;exact RelDL.cons h1 (IA k h2)
def rM (mo me:M Dv):M Dv:=λρ h=>(mo ρ h).bind λx h1=>if iM x h1=true then(me ρ h1).bind λd h2=>vC x d h2 else .bad
theorem UJ (ho:aK X G E (.Name y np) mo) (he:aK X G E e me) (hs:aw [e] X.env=[(false,eval e X.env)]:=by rfl) (hl:(apos.endLine==cpos.line)=true:=by rfl):aK X G E (.Call (.Attribute (.Name y np) "pop" apos) [e] [] cpos) (rM mo me):=λhK=>
 PE.imp (FU zd PySem.F.slot_list_pop PySem.F.type_list_pop Q3 (ho hK) (gW (he hK) jA hs) rfl (by rw[hs];rfl) hl hs rfl) λσ H Q ⟨μ,ρ,h,rs,s,oo⟩=>eO rs s oo λμ1 x h1 vx H1 x1 rs1 s1 r1 o1=>by
  split at o1
  ·rename_i hl;refine⟨HD s1 r1 hl,eO rs1 s1 o1 λμ2 d h2 vd H2 x2 rs2 s2 r2 o2=>?_⟩
   cases x with
   |ref j=>
    cases d with
    |int n=>
     dsimp only[vC]at o2
     cases q:getL h2 j with
     |none=>rw[q]at o2;exact o2.elim
     |some xs=>
      rw[q]at o2;dsimp only at o2
      cases q2:ixN xs.length n with
      |none=>rw[q2]at o2;exact o2.elim
      |some k=>
       rw[q2]at o2;dsimp only at o2
       cases q3:xs[k]? with
       |none=>rw[q3]at o2;exact o2.elim
       |some d'=>
        rw[q3]at o2;dsimp only at o2
        split at o2
        ·rename_i hz;obtain⟨vs,ea,ra⟩:=s2.ob j _ (eG q);obtain⟨_,rfl⟩:=RelD.mono x2 _ _ r1;rw[RelD]at r2;subst r2;obtain⟨v,ev,rv⟩:=ra.get q3;obtain⟨i1,i2,i3,i4⟩:=zN q2;obtain⟨x3,s3⟩:=s2.write (eG q) (IA k ra);exact⟨_,vs,n,k,v,rfl,rfl,ea,by omega,by omega,by rw[ra.length];exact i1,ev,o2 μ2 _ _ x3 s3 (RelD.mono x3 _ _ rv)⟩
        ·exact o2.elim
    |_=>exact o2.elim
   |_=>exact o2.elim
  ·exact o1.elim
def gH (xs:List Dv) (lo hi:Option Int):List Dv:=(xs.drop (HT.sIx xs.length 0 lo)).take (HT.sIx xs.length xs.length hi - HT.sIx xs.length 0 lo)
theorem IB {μ:Nat->ai}{n:Nat}{H:Hp}{xs:List Dv}{vs:List V}(r:RelDL G μ n H xs vs) (lo hi:Option Int):RelDL G μ n H (gH xs lo hi) (lZ vs lo hi):=by unfold gH lZ;rw[r.length];exact(r.drop _).take _
abbrev MO:=Ev->Hs->Rs (Option Int)
def UK (G:Cfg) (E:XK) (m:MO):TO:=λσ H Q=>∃μ ρ h,RelS G μ h.length H ρ σ/\Sim G μ h H/\Out G E μ h.length H (m ρ h) (λ_ _ _ a b=>b=a) Q
def rN (X:Cx) (G:Cfg) (E:XK) (pe:Option bu) (m:MO):Prop:=X.K=G.K->PO X pe (UK G E m)
theorem PO.imp {pe:Option bu}{t t':TO}(h:PO X pe t) (i:∀σ H Q,t' σ H Q->t σ H Q):PO X pe t':=λpins s σ H Q I q=>h pins s σ H Q I (i σ H Q q)
def dM:MO:=λ_ h=>.ok none h
def lK:Dv->Hs->Rs (Option Int)
 | .int i,h=>.ok (some i) h
 |_,_=>.bad
def cY (m:M Dv):MO:=λρ h=>(m ρ h).bind lK
theorem jG:rN X G E none dM:=λ_=>PO.imp QF λσ H Q ⟨μ,ρ,h,rs,s,oo⟩=>oo.val s rfl
theorem iQ (he:aK X G E e me):rN X G E (some e) (cY me):=λhK=>PO.imp (QG (he hK)) λσ H Q ⟨μ,ρ,h,rs,s,oo⟩=>eO rs s oo λμ1 d h1 v H1 x1 rs1 s1 r1 o1=>by
 cases d with
 |int i=>exact⟨i,r1,o1.val s1 rfl⟩
 |_=>exact o1.elim
end
section
variable{X:Cx}{G:Cfg}{E:XK}{pos:Pos}
theorem IC:aK X G E (.Dict [] [] pos) (mC .edc):=λ_ pins s σ H Q I ⟨μ,ρ,h,rs,sm,o⟩=>by have hb:sysModules<s.heap.objs.size:=Nat.lt_trans (by decide) (I.mod.glob.keeps I.bk).lt;have hn:=I.hok.fresh (ak s.heap.objs.size);refine wpAny_Dict_empty ⟨.ref s.heap.objs.size,_,I.laid (a:=s.heap.objs.size) (o:=.dK []) (t':=s.toks) (λ_ _ q=>aj _ q) (ak _) ⟨jc _,beq_eq_false_iff_ne.mpr (cm (bc hb)),[],.nil,Heap.DictOf.new s.heap⟩,rfl, ?_⟩;exact o μ _ _ (Ext.same (cG hn)) (sm.same (cG hn)) ⟨_,rfl,cK⟩
theorem UL {x:Str}{i:Int}{t:Tok}(hg:Gl X x) (hm:X.mg x=some (.int i t)) (hd:(x==("__debug__" : Str))=false:=by decide):aK X G E (.Name x pos) (mC (.int i)):=λ_=>PE.imp (ET (v:=.int i) hg hm ⟨t,rfl⟩ hd) λσ H Q ⟨μ,ρ,h,rs,s,o⟩=>o.val s (show RelD G μ _ H (.int i) (.int i) from rfl)
def gZ:Dv->Hs->Rs Dv
 | .int i,h=>.ok (.int (-i)) h
 |_,_=>.bad
theorem UM:mD G (rU λi=>.int (-i)) gZ:=by
 intro E μ h H x vx Q s r o
 cases x with
 |int i=>rw[RelD]at r;subst r;exact⟨i,rfl,o.val s rfl⟩
 |_=>exact o.elim
end
section
variable{X:Cx}{G:Cfg}{E:XK}{tg a b c:bu}{p pos:Pos}{ms:M (List Dv)}
end
structure Lawful (lp:bg) (w:cn) (K:aq) (mg:Str->Option af) (base:cp) (k:Nat) (fa:ai) (fd:bq) (x:Str) (P a:ai) (ns:List Int):Prop where
 ex:∃(G:Cfg) (lawF:List Dv->Hs->Rs Dv) (hh:Hs),G.K=K/\G.scr=ns/\G.sa=a/\G.tab=some P/\lawF [.scr] []=.ok (.bl true) hh/\FnOk lp w K mg base (bL lp w base) k fa fd [x] (cF G lawF)
theorem UN {lp:bg}{w:cn}{K:aq}{mg mb:Str->Option af}{k:Nat}{fa a c P:ai}{fd:bq}{x:Str}{s₁:ag}{vs:List af}{ns:List Int}
  (KX:K.In s₁.heap) (hns:s₁.heap.Ns ff mg) (hb:s₁.heap.Ns builtinsNs mb) (hbb:∀x:Str,x ≠ "__name__"->mb x=dz x) (hlim:s₁.heap.NoLimit) (hg:s₁.gens=#[])
  (ha:s₁.heap.get? a=some { cls:=.type "list",data:=.seq vs.toArray }) (hi:oh vs ns) (hl:ns.length<=ck) (hr:Room k callerA)
  (hC:lj s₁.heap c P) (hP:s₁.heap.get? P=some (ub #[])) (hB:lJ mg s₁.heap) (hnt:PySem.W.noTabs K=true)
  (F:∀base:cp,K.In base->base.Ns ff mg->lj base c P->lJ mg base->Lawful lp w K mg base k fa fd x P a ns) (hbind:∀(s:ag) (u:af),BindsTo s fd ⟨[u],[]⟩ [(x,u)]):
  codeAny (model lp w) callerA (.call (.ref fa) ⟨[.ref a],[]⟩) (λr s'=>r=.ok (.ret (.bool true))/\OldK s₁.heap s'.heap/\s'.os=s₁.os/\sv s'.gens) s₁:=by
 have rv:=FY hi;have lenV:=hi.length;have KP:K.lookup P=none:=by
  cases q:K.lookup P with
  |none=>rfl
  |some o=>have e:=KX P o q;rw[hP]at e;cases e;have:=gk.mp hnt (P,ub #[]) (PySem.W.mem_of_lookupK q);exact absurd (show false=true from this) jr
 have aP:a≠P:=λz=>by rw[z,hP]at ha;cases ha
 have core:∀H:Hp,H P=some (.tbl #[])->FzL K H a (ns.map V.int)->HOk lp w H s₁.heap->(∀b,H b≠none->b=a∨b=P)->(H a≠none->K.lookup a=none)->(∀u,H a=some u->∃o xs,u=.frz o (.lst xs))->
   codeAny (model lp w) callerA (.call (.ref fa) ⟨[.ref a],[]⟩) (λr s'=>r=.ok (.ret (.bool true))/\OldK s₁.heap s'.heap/\s'.os=s₁.os/\sv s'.gens) s₁:=by
  intro H hHP hS hok hA hK hF;have base_of:∀{b:ai}{o:Obj},s₁.heap.get? b=some o->H b=none->(jO s₁.heap H).get? b=some o:=λe n=>NF e n;have none_of:∀{b:ai},b≠a->b≠P->H b=none:=λ{b} h1 h2=>by
   cases q:H b with
   |none=>rfl
   |some u=>exact((hA b (by rw[q];simp)).elim h1 h2).elim
  have noD:∀{b:ai}{o:Obj}{es:Array DictEntry}{ep:Nat},s₁.heap.get? b=some o->o.data=.dict es ep->H b=none:=λ{b o es ep} e d=>none_of (λz=>by
    subst z;rw[ha]at e;cases e;have d':Data.seq vs.toArray _=Data.dict es ep:=d
    cases d') (λz=>by
    subst z;rw[hP]at e;cases e;have d':Data.fields _=Data.dict es ep:=d
    cases d')
  have nsK:∀{b:ai}{m:Str->Option af},s₁.heap.Ns b m->(jO s₁.heap H).Ns b m:=λ{b m} ⟨o,es,ep,e,d,r⟩=>⟨o,es,ep,base_of e (noD e d),d,r⟩
  have hKb:K.In (jO s₁.heap H):=λb o e=>base_of (KX b o e) (by
   cases q:H b with
   |none=>rfl
   |some u=>
    rcases hA b (by rw[q];simp)with z|z
    ·subst z;rw[hK (by rw[q];simp)]at e;cases e
    ·subst z;rw[KP]at e;cases e)
  have hM:Mod K mg (jO s₁.heap H):=⟨hKb,nsK hns,⟨mb,nsK hb,hbb⟩,let ⟨mc,h1,h2⟩:=hlim;⟨mc,nsK h1,h2⟩⟩
  have hCb:lj (jO s₁.heap H) c P:=by obtain⟨o,vs',file,tf,flags,tg,inF,text,tt,e1,r1,r⟩:=hC;refine⟨o,vs',file,tf,flags,tg,inF,text,tt,base_of e1 (none_of (λz=>?_) r.2.2.2.2.2.2.2),r1,r⟩;subst z;rw[ha]at e1;cases e1;exact absurd r1 (by intro w;injection w with w;exact absurd w (by decide))
  have hBb:lJ mg (jO s₁.heap H):=by
   obtain⟨bm,ob,b1,b2,b3,b4,b5,b6⟩:=hB;refine⟨bm,ob,b1,b2,base_of b3 (none_of (λz=>?_) (λz=>?_)),b4,b5,b6⟩
   ·subst z;rw[ha]at b3;cases b3;exact absurd b4 (by intro w;injection w with w;exact absurd w (by decide))
   ·subst z;rw[hP]at b3;cases b3;cases b4
  have e0:Env0 lp w K mg (jO s₁.heap H) callerA [] s₁ H:=⟨rfl,hM,λb o e=>NG e,qe (ND _ _),trivial,λb hb=>absurd (show b∈([]:List ai) from hb) (by simp),hok,.of_eq hg⟩
  obtain⟨G,lawF,hh,g1,g2,g3,g4,hlaw,Fn⟩:=(F _ hKb (nsK hns) hCb hBb).ex;have rd:RelDL G (λ_=>0) 0 H [.scr] [.ref a]:=by refine RelDL.cons ?_ RelDL.nil;rw[RelD,g1,g2,g3];exact⟨rfl,hS⟩
  have sm:Sim G (λ_=>0) [] H:=⟨λi j h1=>absurd h1 (by simp),λi o q=>by simp at q,λP' e=>by
   rw[g4]at e;cases e;exact⟨#[],hHP,trivial,λpos cv q=>by
    have q':(none:Option af)=some cv:=q
    cases q'⟩⟩
  refine ni (Fn.run callerA [] s₁ H ⟨[.ref a],[]⟩ [.ref a] [.ref a] (λv _=>v=.bl true) (λ_ _ _=>False) hr e0 (hbind s₁ (.ref a)) (.cons rfl .nil) ⟨λ_=>0,[],[.scr],rd,sm, ?_⟩) λr s' h=>?_
  ·rw[hlaw];exact λμ' H' v _ _ r=>r
  cases r with
  |error e=>obtain⟨_,_,_,_,_,_,_,_,_,z⟩:=h;exact z.elim
  |ok fl=>
   cases fl with
   |next=>exact gw h
   |brk=>exact gw h
   |cont=>exact gw h
   |ret u=>
    obtain⟨v,H',os,bare,un,hok',r',q⟩:=h;have q':v=.bl true:=q;subst q';obtain rfl:u=Ci true:=r';have kept:∀b o,b≠P->s₁.heap.get? b=some o->s'.heap.get? b=some o:=λb o hbP e=>by
     cases q:H b with
     |none=>exact un.keep b o e q (by intro z;exact absurd (show b∈([]:List ai) from z) (by simp)) (by simp)
     |some u=>
      rcases hA b (by rw[q];simp)with z|z
      ·subst z;obtain⟨ob,xs,rfl⟩:=hF u q;have z2:=un.frzs b ob _ q;obtain⟨e1,_⟩:=hok b _ q;obtain⟨e2,_⟩:=hok' b _ z2;rw[e]at e1;cases e1;exact e2
      ·exact absurd z hbP
    obtain⟨more,hm⟩:=un.tbls P #[] hHP;have gP:s'.heap.get? P=some (ub (#[]++more)):=hok' P _ hm;refine⟨rfl,⟨λb o e=>?_,λb o e=>?_⟩,os,bare⟩
    ·by_cases hb:b=P
     ·subst hb;rw[hP]at e;cases e;exact .inr (.inl ⟨(hC.tab hP).isCodeTable,rfl,#[],more,rfl,gP⟩)
     ·exact .inl (kept b o hb e)
    ·by_cases hb:b=P
     ·subst hb;exact⟨_,gP⟩
     ·exact⟨_,kept b o hb e⟩
 cases hk:K.lookup a with
 |some o=>
  have e:=KX a o hk;rw[ha]at e;cases e;refine core (λb=>if b=P then some (.tbl #[])else none) (if_pos rfl) (.inr ⟨_,vs.toArray,_,hk,rfl,rfl,rfl,by rw[av,lenV];exact hl,by simpa using rv⟩) (λb u z=>?_) (λb z=>?_) (λz=>absurd (if_neg aP) z) (λu z=>?_)
  ·by_cases hb:b=P
   ·have z':=(if_pos hb).symm.trans z;cases z';subst hb;exact hP
   ·have z':=(if_neg hb).symm.trans z;cases z'
  ·by_cases hb:b=P
   ·exact .inr hb
   ·exact absurd (if_neg hb) z
  ·have z':=(if_neg aP).symm.trans z;cases z'
 |none=>
  have ea:(λb=>if b=a then some (HO.frz { cls:=.type "list",data:=.seq vs.toArray } (.lst (ns.map V.int)))else if b=P then some (.tbl #[])else none) a=some (.frz { cls:=.type "list",data:=.seq vs.toArray } (.lst (ns.map V.int))):=if_pos rfl;refine core (λb=>if b=a then some (.frz { cls:=.type "list",data:=.seq vs.toArray } (.lst (ns.map V.int)))else if b=P then some (.tbl #[])else none) ((if_neg (cm aP)).trans (if_pos rfl)) (.inl ⟨{ cls:=.type "list",data:=.seq vs.toArray },ea⟩) (λb u z=>?_) (λb z=>?_) (λ_=>hk) (λu z=>?_)
  ·by_cases hb:b=a
   ·have z':=(if_pos hb).symm.trans z;cases z';subst hb;exact⟨ha,by rw[bo];exact hl,vs,_,rv,ha⟩
   ·have z':=(if_neg hb).symm.trans z
    by_cases hb2:b=P
    ·have z2:=(if_pos hb2).symm.trans z';cases z2;subst hb2;exact hP
    ·have z2:=(if_neg hb2).symm.trans z';cases z2
  ·by_cases hb:b=a
   ·exact .inl hb
   ·by_cases hb2:b=P
    ·exact .inr hb2
    ·exact absurd ((if_neg hb).trans (if_neg hb2)) z
  ·have z':=ea.symm.trans z;cases z';exact⟨_,_,rfl⟩
open PySem PySem.Spec PyProof.Rows L2
theorem jH {α:Type}{P:List α->Prop}(h:∀a,P [a]):∀us:List α,us.length=1->P us
 | [a],_=>h a
theorem gB {α:Type}{P:List α->Prop}(h:∀a b,P [a,b]):∀us:List α,us.length=2->P us
 | [a,b],_=>h a b
theorem rO {α:Type}{P:List α->Prop}(h:∀a b c,P [a,b,c]):∀us:List α,us.length=3->P us
 | [a,b,c],_=>h a b c
theorem hG {P:Nat->Bool->Prop}:∀c b,List.lookup c ([]:List (Nat×Bool))=some b->P c b:=λ_ _ h=>nomatch h
theorem dN {P:Nat->Bool->Prop}{x:Nat}{y:Bool}{l:List (Nat×Bool)}(h:P x y) (hl:∀c b,l.lookup c=some b->P c b):∀c b,List.lookup c ((x,y)::l)=some b->P c b:=λc b e=>by
 rw[iw]at e
 cases q:c==x with
 |true=>rw[q]at e;exact eq_of_beq q▸(cx e)▸h
 |false=>rw[q]at e;exact hl c b e
theorem UO {P:Nat->Prop}:∀c,c<0->P c:=λc h=>absurd h (Nat.not_lt_zero c)
theorem iC {P:Nat->Prop}{n:Nat}(h0:P 0) (h:∀c,c<n->P (c+1)):∀c,c<n+1->P c
 |0,_=>h0
 |c+1,hc=>h c (Nat.lt_of_succ_lt_succ hc)
open PySem PySem.Spec PySem.Calls PyProof.Rows PySem.W L2
abbrev Ys {β:Type}(ob:Frag->β) (obE:β):cn->cp->Prop:=λ_ h=>∃K:Frag,K.In h/\noTabs K=true/\ob K=obE
theorem ys_of {β:Type}{ob:Frag->β}{obE:β}:∀(w:cn) (s:ag),ob (qJ s.heap)=obE->Ys ob obE w s.heap:=λ_ s e=>⟨qJ s.heap,tL _ _,tM _ _,e⟩
theorem ys_keeps {β:Type}{ob:Frag->β}{obE:β}:∀(w:cn) (h h':cp),Ys ob obE w h->(∀b o,h.get? b=some o->h'.get? b=some o)->Ys ob obE w h':=λ_ _ _ ⟨K,x,n,e⟩ k=>⟨K,x.keeps k,n,e⟩
theorem walkK {β:Type}{ob:Frag->β}{obE:β}{l:OpenLaw}{n k:Nat}{q:bg}{eM:List Str}{XP:(Str->Option af)->cp->Prop}{d:DefRec}{x:Str}
  (hn:l.most=some n) (hn2:n<=ck) (hdf:d.params.defaults=[]) (hr:Room k callerA) (hfind:(recsOf q).find? (λe=>e.name==d.name)=some d)
  (F:∀(K:Frag) (w:cn) (mg:Str->Option af) (fa:ai) (h:cp),ob K=obE->noTabs K=true->K.In h->h.Ns ff mg->mg d.name=some (.ref fa)->
   ∃(fd:bq) (c P:ai),(∀(s:ag) (u:af),BindsTo s fd ⟨[u],[]⟩ [(x,u)])/\tabIn K d.name=some (c,P)/\noTabs K=true /\
    ∀(base:cp) (a:ai) (ns:List Int),ns.length<=n->K.In base->base.Ns ff mg->CodeHd base c P->lJ mg base->Lawful l.prog w K mg base k fa fd x P a ns):
  WalkO q eM XP (Ys ob obE) l.row.toRowW d [] (λf vs=>PySem.call f vs):=by
 refine Att.attach_call hn hdf λw s₀ s₁ mg mb fa o pm cd doc a vs ns G Y ho hd hcd hmg hobj hints hlen hg=>?_;obtain⟨K,KX,hnt',hob⟩:=Y;obtain⟨fd,c,P,hb,ht,hnt,hF⟩:=F K w mg fa _ hob hnt' KX G.T.g hmg;obtain⟨hC,hP⟩:=tab_of G.T KX hfind ht;exact UN KX G.T.g G.T.b G.T.builtins G.T.nolimit hg hobj hints (dq hlen hn2) hr hC hP G.T.bmain hnt (λbase h1 h2 h3 h4=>hF base a ns hlen h1 h2 h3 h4) hb
theorem cS {K:Frag}{f c:ai}{st:gv}{n:Str}{ps:List Str}(h:bE K f=some (fnOf n n (oY st) (jP st) (aV st) .none .none .none .none none (.ref c) .none)) (hc:codeIn K (.ref c) n=true) (hk:keepIn K (.ref f)=true)
  (hb:∀(kV doc pm:af) (an:Option ai) (cdv ct:af) (us:List af),us.length=ps.length->bindArgs (fnOf n n (oY st) (jP st) (aV st) .none kV doc pm an cdv ct) ⟨us,[]⟩=pure (ps.zip us)):
  ∃fd:bq,Fun K n n st f fd/\Binds K fd ps []/\fd.code=.ref c/\∀us:List af,us.length=ps.length->bindArgs fd ⟨us,[]⟩=pure (ps.zip us):=by
 obtain⟨oc,od,kV,dc,pm,an,ct,sl,e⟩:=M1 h;exact⟨_,FZ e hc hk,(FZ e hc hk).binds hb,rfl,hb kV dc pm an (.ref c) ct⟩
theorem AY {env:Env}{x:Str}:∀{l:List (Str×kq)},l.lookup x=some .free->(l.map λ(n,k)=>if(k==cf&&env.scope.kind==.function&&env.kindOf n==some .cell)then(n,ey)else(n,k)).lookup x≠some .local
 | [],h=>by simp at h
 |(n,q)::r,h=>by
  rw[iw]at h;rw[dw]
  cases e:x==n with
  |true=>
   rw[e]at h;have hq:q=.free:=cx h;subst hq;dsimp only
   split
   ·rw[iw,e];simp
   ·rw[iw,e];simp
  |false=>
   rw[e]at h;dsimp only
   split
   ·rw[iw,e];exact AY h
   ·rw[iw,e];exact AY h
theorem gI {X:Cx}{sc os:iu}{oN N:List Str}{cap:List (Option Nat)}(hs:X.env.scope.names=os.names) (hN:X.N=oN) (h1:sc.kind=.function) (h2:∀p∈sc.names,p.2=.local->sc.names.lookup p.1=some .local) (h3:cap.length=N.length)
  (h4:∀p∈sc.names,p.2=.free->os.names.lookup p.1=some .cell∨os.names.lookup p.1=some .free) (h5:∀p∈sc.names,p.2=.free->(p.1,ey)∉sc.names) (h6:∀q∈cap.zip N,∀j∈q.1,oN[j]?=some q.2/\sc.names.lookup q.2=some .free):CapOk X sc N cap:=by
 refine⟨h1,h2,h3,λx hx=>?_,λx hx=>h5 _ hx rfl,λi j x e1 e2=>?_⟩
 ·have:=h4 _ hx rfl;rw[<-hs]at this;exact this
 ·have hm:(some j,x)∈cap.zip N:=bx (i:=i) (mr.mpr ⟨e1,e2⟩);obtain⟨a,b⟩:=h6 _ hm j rfl;rw[hN];refine⟨a,fv b, ?_⟩;exact AY b
def eC:Dv->Dv->Hs->Rs Dv:=gM λi j=>.int (i - j)
def jY:Dv->Dv->Hs->Rs Dv:=jC pD λi j=>.int (i*j)
def gR:Dv->Dv->Hs->Rs Dv:=jC pE λi j=>.int (i % j)
def mK:Dv->Dv->Hs->Rs Dv:=jC qX λi j=>.int (i ^ j.toNat)
def vD:Dv->Dv->Hs->Rs Dv:=gM λi j=>.bl (decide (i<j))
def jZ:Dv->Dv->Hs->Rs Dv:=gM λi j=>.bl (decide (i<=j))
def nY:Dv->Dv->Hs->Rs Dv:=gM λi j=>.bl (decide (i>j))
def vE:Dv->Dv->Hs->Rs Dv:=gM λi j=>.bl (decide (i>=j))
section
variable{X:Cx}{G:Cfg}{E:XK}{k:Nat}{a b:bu}{ma mb:M Dv}{pos:Pos}
theorem lL (ha:aK X G E a ma) (hb:aK X G E b mb):aK X G E (.BinOp a .Sub b pos) (m2 eC ma mb):=pA O3 RS ha hb
theorem pO (ha:aK X G E a ma) (hb:aK X G E b mb):aK X G E (.BinOp a .Mult b pos) (m2 jY ma mb):=pA O4 (uK RT) ha hb
theorem nZ (ha:aK X G E a ma) (hb:aK X G E b mb):aK X G E (.BinOp a .Mod b pos) (m2 gR ma mb):=pA O5 (uK RU) ha hb
theorem AZ (ha:aK X G E a ma) (hb:aK X G E b mb):aK X G E (.BinOp a .Pow b pos) (m2 mK ma mb):=pA O6 (uK RV) ha hb
theorem pP (ha:aK X G E a ma):aK X G E (.UnaryOp .USub a pos) (m1 gZ ma):=RN O8 UM ha
theorem pQ (g:Good X G E k) (ha:aK X G E a ma) (hb:aK X G E b mb):aK X G E (.Compare a [.Eq] [b] pos) (m2 dB ma mb):=qV (GD g.room.units) GG ha hb (lY _)
theorem ID (g:Good X G E k) (ha:aK X G E a ma) (hb:aK X G E b mb):aK X G E (.Compare a [.NotEq] [b] pos) (m2 cC ma mb):=qV (GF g.room.units) GH ha hb (lY _)
theorem UP (ha:aK X G E a ma) (hb:aK X G E b mb):fV X G E (.Compare a [.Gt] [b] pos) (mB (m2 nY ma mb)):=nB O9 nF ha hb (lY _)
theorem UQ (ha:aK X G E a ma) (hb:aK X G E b mb):fV X G E (.Compare a [.GtE] [b] pos) (mB (m2 vE ma mb)):=nB PB nF ha hb (lY _)
theorem A0 (g:Good X G E k) (ha:aK X G E a ma) (hb:aK X G E b mb):fV X G E (.Compare a [.Eq] [b] pos) (mB (m2 dB ma mb)):=nB (GD g.room.units) GG ha hb (lY _)
theorem kP (g:Good X G E k) (ha:aK X G E a ma) (hb:aK X G E b mb):fV X G E (.Compare a [.NotEq] [b] pos) (mB (m2 cC ma mb)):=nB (GF g.room.units) GH ha hb (lY _)
variable{c:bu}{mc:M Dv}
theorem UR (ha:aK X G E a ma) (hb:aK X G E b mb) (hc:aK X G E c mc) (hm:lastMarks [.LtE,.LtE] [b,c]=false:=by with_unfolding_all rfl):aK X G E (.Compare a [.LtE,.LtE] [b,c] pos) (jQ jZ jZ ma mb mc):=GB zK zK nF nF ha hb hc hm
theorem US (ha:aK X G E a ma) (hb:aK X G E b mb) (hc:aK X G E c mc) (hm:lastMarks [.LtE,.Lt] [b,c]=false:=by with_unfolding_all rfl):aK X G E (.Compare a [.LtE,.Lt] [b,c] pos) (jQ jZ vD ma mb mc):=GB zK zJ nF nF ha hb hc hm
end
def oA:Ty->Option Bool
 | .bl=>some true | .int=>some true | .exc _=>none|_=>some false
def kA:Ty->Option Bool
 | .bl=>some true | .exc _=>none|_=>some false
def gS:Ty->Option Bool
 | .tup=>some true | .exc _=>none|_=>some false
def vF:Ty->Option Bool
 | .lst=>some true | .exc _=>none|_=>some false
def rP:Ty->Option Bool
 | .tup=>some true | .lst=>some true | .exc _=>none|_=>some false
section
variable{K:aq}{cl:Nat->ai}
theorem UT:∀ty bb,oA ty=some bb->cu K (kL cl ty) (.type "int")=some bb:=by intro ty bb h;cases ty <;> first|(cases h;rfl)|cases h
theorem UU:∀ty bb,kA ty=some bb->cu K (kL cl ty) (.type "bool")=some bb:=by intro ty bb h;cases ty <;> first|(cases h;rfl)|cases h
theorem UW:∀ty bb,gS ty=some bb->cu K (kL cl ty) (.type "tuple")=some bb:=by intro ty bb h;cases ty <;> first|(cases h;rfl)|cases h
theorem UX:∀ty bb,vF ty=some bb->cu K (kL cl ty) (.type "list")=some bb:=by intro ty bb h;cases ty <;> first|(cases h;rfl)|cases h
theorem UY:∀ty bb,rP ty=some bb->PySem.W.kitAny K (kL cl ty) [.type "tuple",.type "list"]=some bb:=by intro ty bb h;cases ty <;> first|(cases h;rfl)|cases h
end
theorem UZ:dz "int" = some (.type "int"):=by decide +kernel
theorem VA:dz "bool" = some (.type "bool"):=by decide +kernel
theorem VB:dz "ValueError" = some (.type "ValueError"):=by decide +kernel
def dD (nn:Option Bool) (tbl:List (Nat×Bool)):Ty->Option Bool
 | .exc c=>tbl.lookup c
 | .non=>nn
 |_=>none
section
variable{X:Cx}{G:Cfg}{E:XK}{a:bu}{ma:M Dv}{p q r pos:Pos}
theorem IE (hg:Gl X "isinstance") (hm:X.mg "isinstance" = none) (hg':Gl X "int") (hm':X.mg "int" = none) (ha:aK X G E a ma) (he:aw [a,.Name "int" q] X.env=[(false,eval a X.env),(false,eval (.Name "int" q) X.env)]:=by rfl):
  aK X G E (.Call (.Name "isinstance" p) [a,.Name "int" q] [] pos) (m1 (bF oA) ma):=pK hg hm ha (nU hg' hm' UZ) (.inl ⟨_,rfl⟩) rfl UT (λc bb h=>by cases h) he
theorem vG (hg:Gl X "isinstance") (hm:X.mg "isinstance" = none) (hg':Gl X "bool") (hm':X.mg "bool" = none) (ha:aK X G E a ma) (he:aw [a,.Name "bool" q] X.env=[(false,eval a X.env),(false,eval (.Name "bool" q) X.env)]:=by rfl):
  aK X G E (.Call (.Name "isinstance" p) [a,.Name "bool" q] [] pos) (m1 (bF kA) ma):=pK hg hm ha (nU hg' hm' VA) (.inl ⟨_,rfl⟩) rfl UU (λc bb h=>by cases h) he
theorem pR (hg:Gl X "isinstance") (hm:X.mg "isinstance" = none) (hg':Gl X "tuple") (hm':X.mg "tuple" = none) (ha:aK X G E a ma) (he:aw [a,.Name "tuple" q] X.env=[(false,eval a X.env),(false,eval (.Name "tuple" q) X.env)]:=by rfl):
  aK X G E (.Call (.Name "isinstance" p) [a,.Name "tuple" q] [] pos) (m1 (bF gS) ma):=pK hg hm ha (nU hg' hm' uL) (.inl ⟨_,rfl⟩) rfl UW (λc bb h=>by cases h) he
theorem IF (hg:Gl X "isinstance") (hm:X.mg "isinstance" = none) (hg':Gl X "list") (hm':X.mg "list" = none) (ha:aK X G E a ma) (he:aw [a,.Name "list" q] X.env=[(false,eval a X.env),(false,eval (.Name "list" q) X.env)]:=by rfl):
  aK X G E (.Call (.Name "isinstance" p) [a,.Name "list" q] [] pos) (m1 (bF vF) ma):=pK hg hm ha (nU hg' hm' qY) (.inl ⟨_,rfl⟩) rfl UX (λc bb h=>by cases h) he
theorem VC:∀us',Vals [.ty "tuple",.ty "list"] us'->us'=[.type "tuple",.type "list"]:=by
 intro us' h
 cases h with
 |cons r rr=>
  cases rr with
  |cons r' rr=>
   cases rr
   cases r;cases r'
   rfl
theorem VD {kt:Nat}{p':Pos}(hg:Gl X "isinstance") (hm:X.mg "isinstance" = none) (hg':Gl X "tuple") (hm':X.mg "tuple" = none) (hg'':Gl X "list") (hm'':X.mg "list" = none) (ha:aK X G E a ma)
  (he:aw [a,.Tuple [.Name "tuple" q,.Name "list" r] kt p] X.env=[(false,eval a X.env),(false,eval (.Tuple [.Name "tuple" q,.Name "list" r] kt p) X.env)]:=by rfl):
  aK X G E (.Call (.Name "isinstance" p') [a,.Tuple [.Name "tuple" q,.Name "list" r] kt p] [] pos) (m1 (bF rP) ma):=
 S7 (cs:=[.ty "tuple",.ty "list"]) hg hm ha (gW (nU hg' hm' uL) (gW (nU hg'' hm'' qY) jA)) (by decide) VC UY (λc bb h=>by cases h) he
theorem iD {x:Str}{C:ai}{nn:Option Bool}{tbl:List (Nat×Bool)}(hg:Gl X "isinstance") (hm:X.mg "isinstance" = none) (hg':Gl X x) (hm':X.mg x=some (.ref C)) (ha:aK X G E a ma)
  (hn:∀b,nn=some b->cu G.K (.type "NoneType") (.ref C)=some b) (ht:∀c b,tbl.lookup c=some b->cu G.K (.ref (G.cl c)) (.ref C)=some b/\ExK G.K (G.cl c)) (hd:(x==("__debug__" : Str))=false:=by decide)
  (he:aw [a,.Name x q] X.env=[(false,eval a X.env),(false,eval (.Name x q) X.env)]:=by rfl) (he2:aw [.Name x q] X.env=[(false,eval (.Name x q) X.env)]:=by rfl):
  aK X G E (.Call (.Name "isinstance" p) [a,.Name x q] [] pos) (m1 (bF (dD nn tbl)) ma):=
 pK hg hm ha (ET (v:=.ref C) hg' hm' rfl hd) (.inr ⟨_,rfl⟩) rfl (λty bb h=>by
  cases ty with
  |exc c=>exact(ht c bb h).1
  |non=>exact hn bb h
  |_=>cases h) (λc bb h=>(ht c bb h).2) he he2
theorem VE {nn:Option Bool}{tbl:List (Nat×Bool)}(hg:Gl X "isinstance") (hm:X.mg "isinstance" = none) (hg':Gl X "ValueError") (hm':X.mg "ValueError" = none) (ha:aK X G E a ma)
  (hn:∀b,nn=some b->cu G.K (.type "NoneType") (.type "ValueError")=some b) (ht:∀c b,tbl.lookup c=some b->cu G.K (.ref (G.cl c)) (.type "ValueError")=some b/\ExK G.K (G.cl c))
  (he:aw [a,.Name "ValueError" q] X.env=[(false,eval a X.env),(false,eval (.Name "ValueError" q) X.env)]:=by rfl):
  aK X G E (.Call (.Name "isinstance" p) [a,.Name "ValueError" q] [] pos) (m1 (bF (dD nn tbl)) ma):=
 pK hg hm ha (nU hg' hm' VB) (.inl ⟨_,rfl⟩) rfl (λty bb h=>by
  cases ty with
  |exc c=>exact(ht c bb h).1
  |non=>exact hn bb h
  |_=>cases h) (λc bb h=>(ht c bb h).2) he
end
section
variable{P:bg}{w:cn}{K:aq}{mg:Str->Option af}{base:cp}{f:ai}{G:Cfg}{k:Nat}{N:List Str}
theorem VF {x qual:Str}{st:gv}{fd:bq}{ps:List Str}{mb:MS}(Fn:Fun K x qual st f fd) (S:FnScope N ps (aV st)) (hK:K=G.K)
  (hbody:∀(cdv:af) (A:cg) (outer:List Env) (s:ag) (H:Hp) (E₀ E:XK),fd.code=cdv->Good (fU (bL P w base) P w K mg base N qual (aV st) f cdv A outer s H E₀) G E k->iK (fU (bL P w base) P w K mg base N qual (aV st) f cdv A outer s H E₀) G E (jP st) mb):
  FnOk P w K mg base (bL P w base) (k+1) f fd ps (cF G (aU ps.length N.length mb)):=by
 obtain⟨oc,od,kV,doc,pm,an,cdv,ct,osl,rfl,lk,hcd⟩:=Fn.ex;have hlen:∀vs H Q E,cF G (aU ps.length N.length mb) vs H Q E->vs.length=ps.length:=λvs H Q E ⟨μ,h,ds,r,sm,o⟩=>by
  rw[r.length];unfold aU at o
  by_cases hd:ds.length=ps.length
  ·exact hd
  ·rw[if_neg hd]at o;exact o.elim
 refine zM lk hcd S hlen λA outer s H vs Q E hr hsp=>?_;have hl:=hlen _ _ _ _ hsp;obtain⟨μ,h,ds,r,sm,o⟩:=hsp;have o':Out G E μ h.length H (aZ (mb (bN N.length ds) h)) (RelD G) Q:=by unfold aU at o;rw[if_pos (by rw[<-r.length];exact hl)]at o;exact o
 refine⟨_,hbody cdv A outer s H E (EB G μ h.length H (mb (bN N.length ds) h)) rfl (AS hr hK (λu H' ⟨c,h',μ',er,x,s',fl⟩=>?_) AU) hK, ?_⟩
 ·rw[er]at o';exact o' μ' H' u x s' fl
 ·refine⟨μ,bN N.length ds,h,G2 r N,sm, ?_⟩
  cases q:mb (bN N.length ds) h with
  |bad=>rw[q]at o';exact o'.elim
  |bk ρ h'=>rw[q]at o';exact o'.elim
  |ct ρ h'=>rw[q]at o';exact o'.elim
  |rt d h'=>rw[q]at o';exact o'
  |nx ρ h'=>rw[q]at o';exact λμ' H' σ' x' s' rs'=>o' μ' H' .non x' s' rfl
  |ex c h'=>exact λμ' H' u x' s' fl=>⟨c,h',μ',rfl,x',s',fl⟩
theorem VG {fd:bq}{ps:List Str}:FnOk P w K mg base (bL P w base) k f fd ps (cF G (λ_ _=>.bad)):=⟨λvs H Q E ⟨_,_,_,_,_,o⟩=>o.elim,λ_ _ _ _ _ _ _ _ _ _ _ _ _ ⟨_,_,_,_,_,o⟩=>o.elim⟩
end
section
variable{X:Cx}{G:Cfg}{E:XK}{k:Nat}{q x:Str}{p pos lpos:Pos}{params:lx}{body:bu}{scope os:iu}{c P fr:ai}{fdr:bq}{Nl oN:List Str}{me:M Dv}{n ncl j:Nat}{mb:MS}{caps:List Nat}
theorem A1 (g:Good X G E k) (hj:j<=k) (hfn:∀y,X.fn y=true)
  (F:∀base,X.K.In base->base.Ns ff X.mg->FnOk X.prog X.w X.K X.mg base (bL X.prog X.w base) j fr fdr [x] (uZ G base Nl params body scope me n ncl mb))
  (hg:Gl X q) (hm:X.mg q=some (.ref fr)) (hk:nr X.K (.ref fr)=true) (hb:Binds X.K fdr [x] [])
  (hdef:defaultsOf params X.env=([],[])) (hq:X.env.qual ++ "<lambda>" = G.lq) (hP:G.tab=some P) (hcode:X.env.code=.ref c) (hC:lj X.base c P) (hB:lJ X.mg X.base)
  (LS:LamScope Nl scope) (hs:X.env.scope.names=os.names) (hN:X.N=oN) (hkind:∀y∈Nl,os.names.lookup y=some .cell) (hcl:caps.length=Nl.length) (hcap:∀z∈caps.zip Nl,oN[z.1]?=some z.2)
  (hdb:(q==("__debug__" : Str))=false:=by decide) (he:aw [.Lambda params body scope lpos] X.env=[(false,eval (.Lambda params body scope lpos) X.env)]:=by rfl):
  aK X G E (.Call (.Name q p) [.Lambda params body scope lpos] [] pos) (iO caps n ncl mb me):=
 UH g hj hfn F hg hm hk hb hdef hq hP hcode hC hB LS (λy hy=>by rw[hs];exact hkind y hy) hcl (λi j y e1 e2=>by rw[hN];exact hcap (j,y) (bx (i:=i) (mr.mpr ⟨e1,e2⟩))) hdb he
end
def dQ:Dv->Bool
 | .scr=>false
 |_=>true
def aQ (x y:Dv) (h:Hs):Rs Dv:=if dQ x=true then fH [] x y h else .bad
def bI (x:Dv) (h:Hs):Rs Dv:=if dQ x=true then fI [] x h else .bad
def jI (x:Dv) (h:Hs):Rs Dv:=if dQ x=true then pH [] x h else .bad
def cZ (neg:Bool) (x y:Dv) (h:Hs):Rs Dv:=if dQ y=true then kN [] neg x y h else .bad
theorem A2 {scr:List Int}{x:Dv}{h:Hs}(e:dQ x=true):eB [] x h=eB scr x h:=by cases x <;> first|rfl|cases e
section
variable{X:Cx}{G:Cfg}{E:XK}{k:Nat}{a b e:bu}{es:List bu}{ma mb:M Dv}{aS:M (List Dv)}{p pos:Pos}
theorem VH:fO G (zQ G.K) aQ:=by
 intro E μ h H x y vx vy Q s rx ry o;unfold aQ at o
 split at o
 ·rename_i hx;refine GI E μ h H x y vx vy Q s rx ry ?_;have e:fH G.scr x y h=fH [] x y h:=by cases x <;> cases y <;> first|rfl|exact absurd hx (by decide)
  rw[e];exact o
 ·exact o.elim
theorem VI:mD G (GL G.K) bI:=by
 intro E μ h H x vx Q s rx o;unfold bI at o
 split at o
 ·rename_i hx;refine GN E μ h H x vx Q s rx ?_;unfold fI at o ⊢;rw[<-A2 hx];exact o
 ·exact o.elim
theorem VJ:mD G (λx H Q=>∃p ys,x=.ref p/\(SqL G.K H p ys∨SqT G.K H p ys)/\∀l,H l=none->Q (.ref l) (upd H l (.lst ys))) jI:=by
 intro E μ h H x vx Q s rx o;unfold jI at o
 split at o
 ·rename_i hx;refine R7 E μ h H x vx Q s rx ?_;unfold pH at o ⊢;rw[<-A2 hx];exact o
 ·exact o.elim
theorem vH (neg:Bool):fO G (vA G.K neg) (cZ neg):=by
 intro E μ h H x y vx vy Q s rx ry o;unfold cZ at o
 split at o
 ·rename_i hx;refine UI neg E μ h H x y vx vy Q s rx ry ?_;unfold kN at o ⊢;rw[<-A2 hx];exact o
 ·exact o.elim
theorem cE (ha:aK X G E a ma) (hb:aK X G E b mb) (hs:zP b:=by intro _ _;rfl):aK X G E (.Subscript a b pos) (m2 aQ ma mb):=λhK=>PE.imp (FN (by have:=FR (X:=X);rw[hK]at this;exact this) (ha hK) (hb hK) hs) λ_ _ _ t=>qU VH t
theorem gC (hg:Gl X "len") (hm:X.mg "len" = none) (ha:dZ X G E (e::es) aS)
  (he:aw (e::es) X.env=(false,eval e X.env)::aw es X.env:=by rfl) (hpl:(backTo pos (aw es X.env)).any (·.1)=false:=by rfl):aK X G E (.Call (.Name "len" p) (e::es) [] pos) (aE (f1 bI) aS):=λhK=>
 uM (CallR.imp (FT (X:=X)) λxs H Q ⟨v,h1,a,ys,h2,h3,h4⟩=>⟨a,ys,by rw[h1,h2],by rw[hK];exact h3,h4⟩) (uN VI) hg hm ye ha (by decide) (by decide) he hpl hK
theorem IG (hg:Gl X "list") (hm:X.mg "list" = none) (ha:dZ X G E (e::es) aS)
  (he:aw (e::es) X.env=(false,eval e X.env)::aw es X.env:=by rfl) (hpl:(backTo pos (aw es X.env)).any (·.1)=false:=by rfl):aK X G E (.Call (.Name "list" p) (e::es) [] pos) (aE (f1 jI) aS):=λhK=>
 GK (CallR.imp (QV (X:=X)) λxs H Q ⟨v,h1,a,ys,h2,h3,h4⟩=>⟨a,ys,by rw[h1,h2],by rw[hK];exact h3,h4⟩) (uN VJ) hg hm qY ha (by decide) (by decide) he hpl hK
end
theorem VL (h l:Hs) (k:Nat):getL (h++l) (h.length+k)=getL l k:=by unfold getL;rw[gg (by omega),show h.length+k - h.length=k by omega]
theorem VM (h l:Hs):getL (h++l) h.length=getL l 0:=VL h l 0
theorem VN (h l:Hs) (k:Nat) (o:Ob):(h++l).set (h.length+k) o=h++l.set k o:=by rw[List.set_append_right _ _ (by omega),show h.length+k - h.length=k by omega]
theorem VO (h l:Hs) (o:Ob):(h++l).set h.length o=h++l.set 0 o:=VN h l 0 o
section
variable{n:Nat}
end
section
variable{ma mb mc:M Dv}{aS:M (List Dv)}{t u:M Bool}{f f':Dv->Dv->Hs->Rs Dv}{g:Dv->Hs->Rs Dv}{F:List Dv->Hs->Rs Dv}
end
section
variable{mi mi':M Src}{st st':dC}{test test':M Bool}{inner:MC}{me:M Dv}{cap:List (Option Nat)}
end
section
variable{mo me mi:M Dv}{ml:M (List Dv)}{m u:MS}{t:M Bool}
end
def hJ:Dv->Option Int
 | .int i=>some i
 |_=>none
theorem rQ {G:Cfg}{μ:Nat->ai}{n:Nat}{H:Hp}:∀{xs:List Dv}{vs:List V}{ns:List Int},RelDL G μ n H xs vs->bU hJ xs=some ns->vs=ns.map V.int
 | [],_,ns,r,e=>by cases e;rw[RelDL]at r;subst r;rfl
 |x::xs,_,ns,r,e=>by
  rw[RelDL]at r;obtain⟨v,rr,rfl,r1,r2⟩:=r;unfold bU at e
  cases x with
  |int i=>
   dsimp only[hJ]at e
   cases q:bU hJ xs with
   |none=>rw[q]at e;cases e
   |some zs=>rw[q]at e;cases e;rw[RelD]at r1;subst r1;rw[rQ r2 q];rfl
  |_=>cases e
section
variable{X:Cx}{G:Cfg}{E:XK}{e a b:bu}{es:List bu}{ma mb:M Dv}{aS:M (List Dv)}{p pos:Pos}
theorem VP {ns:List Int}{its:List af}(rv:Vals (ns.map V.int) its) {i:Nat}{v:af}(e:its.toArray[i]?=some v):∃t,v=.int (ns.getD i 0) t:=by
 have hl:=rv.length;rw[bo]at hl;have e':its[i]?=some v:=by simpa using e
 have hi:i<its.length:=(az.mp e').1;have hb:i<ns.length:=by omega
 obtain⟨u,e2,r⟩:=rv.get (i:=i) (x:=V.int ns[i]) (by simp[hb]);rw[e']at e2;cases e2;have hg:ns.getD i 0=ns[i]:=by simp[nt,hb]
 rw[hg];exact r
end
section
variable{X:Cx}{G:Cfg}{E:XK}{a:bu}{elts:List bu}{kk:Nat}{tp p pos:Pos}{ma:M Dv}{ms:M (List Dv)}
end
section
variable{X:Cx}{G:Cfg}{E:XK}{e a b:bu}{es:List bu}{ma mb:M Dv}{aS:M (List Dv)}{p pos:Pos}
theorem VQ:dz "sorted" = some (.builtin "sorted"):=by decide +kernel
end
section
variable{X:Cx}{G:Cfg}{E:XK}{e o a b:bu}{es:List bu}{ma mb mo me:M Dv}{aS:M (List Dv)}{p pos np apos cpos:Pos}{y:Str}
def A3 (_ j:Int):Prop:=0<j/\j<18446744073709551616
theorem VR:OpR X (binaryOp .FloorDiv) (rI A3 λi j=>.int (i / j)):=tT λi j _ _ _ _ _ hc q=>by
 have h1:(0:Int)<j:=hc.1;have h2:j<18446744073709551616:=hc.2;refine floordiv_int (by omega) (by rw[Int.fdiv_eq_ediv_of_nonneg i (by omega)];exact q) (.inl (PyProof.noPylong_of_log2 ?_));have h3:j.natAbs≠0:=by omega
 have h4:j.natAbs<2 ^ 64:=by omega
 have:=(Nat.log2_lt h3).mpr h4;omega
def oC (_ j:Int):Bool:=decide (0<j)&&decide (j<18446744073709551616)
theorem VS (i j:Int) (h:oC i j=true):A3 i j:=by unfold oC at h;unfold A3;simpa only[cy,decide_eq_true_eq]using h
def mM:Dv->Dv->Hs->Rs Dv:=jC oC λi j=>.int (i / j)
theorem A4 (ha:aK X G E a ma) (hb:aK X G E b mb):aK X G E (.BinOp a .FloorDiv b pos) (m2 mM ma mb):=pA VR (uK VS) ha hb
def IH (K:aq):R2:=λx y H Q=>∃a b ys,x=.ref a/\y=.ref b/\SqT K H a []/\SqT K H b ys/\Q (.ref b) H
theorem op_catT0:OpR X (binaryOp .Add) (IH X.K):=by
 intro pins s σ H x y v u Q I rx ry ⟨a,b,ys,e1,e2,ha,hb,q⟩;subst e1;subst e2;cases rx;cases ry;obtain⟨its,r1,p1,_⟩:=I.tuple ha;obtain⟨its2,r2,p2,_⟩:=I.tuple hb;have hn:its=[]:=r1.nil_iff.mpr rfl;subst hn;obtain⟨⟨cls,dd,data,sl⟩,ho,hc,n,hd⟩:=p1;obtain⟨⟨cls2,dd2,data2,sl2⟩,ho2,hc2,n2,hd2⟩:=p2;simp only at hc hd hc2 hd2;subst hc hd hc2 hd2;exact concat_meets ⟨_,ho,rfl⟩ ⟨_,ho2,rfl⟩ zk Cm rj qp (qk _ _)
  (tuple_addW0 a b _ _ n n2 dd dd2 sl sl2 rfl) ⟨ho,ho2,⟨.ref b,H,I,rfl,q⟩⟩
def bD (x y:Dv) (h:Hs):Rs Dv:=match x,y with
 | .tup [],.tup ys=>.ok (.tup ys) h
 |x,y=>nG x y h
theorem VT:fO G (λx y H Q=>IH G.K x y H Q∨AH G.K x y H Q) bD:=by
 intro E μ h H x y vx vy Q s rx ry o;unfold bD at o
 split at o
 ·rename_i ys;obtain⟨a,vs,rfl,ea,ra⟩:=rx;obtain⟨b,ws,rfl,eb,rb⟩:=id ry;have:vs=[]:=by rw[RelDL]at ra;exact ra
  subst this;exact .inl ⟨a,b,ws,rfl,rfl,SqT.of ea,SqT.of eb,o.val s ry⟩
 ·exact .inr (RX E μ h H _ _ vx vy Q s rx ry o)
theorem eE (ha:aK X G E a ma) (hb:aK X G E b mb):aK X G E (.BinOp a .Add b pos) (m2 bD ma mb):=λhK=>pA (op_catT0.or RW) (by rw[hK];exact VT) ha hb hK
def rR (k:Int):List Int->Option Nat
 | []=>none
 |n::ns=>if n=k then some 0 else(rR k ns).map (·+1)
end
section
variable{X:Cx}{G:Cfg}{E:XK}{k:Nat}{a b:bu}{ma mb mo:M Dv}{pos:Pos}
theorem II (g:Good X G E k) (ha:aK X G E a ma) (hb:aK X G E b mb) (hm:lastMarks [.In] [b]=false:=by with_unfolding_all rfl):aK X G E (.Compare a [.In] [b] pos) (m2 (cZ false) ma mb):=λhK=>qV (HW g.room.units) (by rw[hK];exact vH false) ha hb hm hK
theorem A5 (g:Good X G E k) (ha:aK X G E a ma) (hb:aK X G E b mb) (hm:lastMarks [.NotIn] [b]=false:=by with_unfolding_all rfl):aK X G E (.Compare a [.NotIn] [b] pos) (m2 (cZ true) ma mb):=λhK=>qV (HX g.room.units) (by rw[hK];exact vH true) ha hb hm hK
theorem vI (g:Good X G E k) (ha:aK X G E a ma) (hb:aK X G E b mb) (hm:lastMarks [.In] [b]=false:=by with_unfolding_all rfl):fV X G E (.Compare a [.In] [b] pos) (mB (m2 (cZ false) ma mb)):=λhK=>nB (HW g.room.units) (by rw[hK];exact vH false) ha hb hm hK
theorem vJ (g:Good X G E k) (ha:aK X G E a ma) (hb:aK X G E b mb) (hm:lastMarks [.NotIn] [b]=false:=by with_unfolding_all rfl):fV X G E (.Compare a [.NotIn] [b] pos) (mB (m2 (cZ true) ma mb)):=λhK=>nB (HX g.room.units) (by rw[hK];exact vH true) ha hb hm hK
end
theorem kQ {H:Hs}{n:Nat}{xs ys:List Dv}(e:getL H n=some xs):getL (H.set n (.lst ys)) n=some ys:=by have h:=(az.mp (eG e)).1;unfold getL;rw[dk h]
theorem pS {H:Hs}{n j:Nat}{o:Ob}(h:n≠j):getL (H.set n o) j=getL H j:=by unfold getL;rw[fq h]
theorem pT {H:Hs}{n:Nat}{xs:List Dv}(e:getL H n=some xs):n<H.length:=(az.mp (eG e)).1
theorem kB {H l:Hs}{n:Nat}{xs:List Dv}(e:getL H n=some xs):getL (H++l) n=some xs:=by unfold getL;rw[dy (pT e),eG e]
structure Fr (S:List Nat) (H H':Hs):Prop where
 le:H.length<=H'.length
 at_:∀j,j<H.length->j∉S->H'[j]?=H[j]?
theorem Fr.refl {S:List Nat}{H:Hs}:Fr S H H:=⟨ak _,λ_ _ _=>rfl⟩
theorem Fr.trans {S T:List Nat}{H H1 H2:Hs}(a:Fr S H H1) (b:Fr T H1 H2) (h:∀j∈T,j∈S∨H.length<=j):Fr S H H2:=⟨dq a.le b.le,λj hj hS=>(b.at_ j (au hj a.le) λz=>(h j z).elim hS λw=>absurd (au hj w) (gp _)).trans (a.at_ j hj hS)⟩
theorem Fr.app {S:List Nat}{H l:Hs}:Fr S H (H++l):=⟨by simp,λj hj _=>dy hj⟩
theorem Fr.set {H:Hs}{n:Nat}{o:Ob}:Fr [n] H (H.set n o):=⟨by simp,λj hj hS=>fq (by simpa using cm (by simpa using hS))⟩
theorem Fr.getL {S:List Nat}{H H':Hs}{j:Nat}{xs:List Dv}(a:Fr S H H') (e:getL H j=some xs) (h:j∉S):getL H' j=some xs:=by unfold L2.Mr.getL at e ⊢;rw[a.at_ j (pT e) h];exact e
theorem Fr.mono {S T:List Nat}{H H':Hs}(a:Fr S H H') (h:∀j∈S,j∈T):Fr T H H':=⟨a.le,λj hj hT=>a.at_ j hj λz=>hT (h j z)⟩
theorem bJ {m u:MS}{ρ ρ1:Ev}{h h1:Hs}(e:m ρ h=.nx ρ1 h1):aL m u ρ h=u ρ1 h1:=by unfold aL;rw[e]
theorem IJ {mi:M Src}{st:dC}{b:MS}{ρ:Ev}{h h1:Hs}{src:Src}(e:mi ρ h=.ok src h1):dS mi st b ρ h=gO src st b src.n 0 ρ h1:=by unfold dS;rw[e];rfl
theorem oD {c:M Bool}{t u:MS}{ρ:Ev}{h h1:Hs}(e:c ρ h=.ok true h1):aW c t u ρ h=t ρ h1:=by unfold aW;rw[e];rfl
theorem jJ {c:M Bool}{t u:MS}{ρ:Ev}{h h1:Hs}(e:c ρ h=.ok false h1):aW c t u ρ h=u ρ h1:=by unfold aW;rw[e];rfl
theorem IK {src:Src}{sg:dC}{b:MS}{f k:Nat}{ρ ρ1 ρ2:Ev}{H H2:Hs}{d:Dv}(hg:src.get k H=some d) (hs:sg d ρ=some ρ1) (hb:b ρ1 H=.nx ρ2 H2):gO src sg b (f+1) k ρ H=gO src sg b f (k+1) ρ2 H2:=by simp[gO,hg,hs,hb]
theorem IL {src:Src}{sg:dC}{b:MS}(P:Nat->Ev->Hs->Prop)
  (step:∀k ρ H,k<src.n->P k ρ H->∃d ρ1 ρ2 H2,src.get k H=some d/\sg d ρ=some ρ1/\b ρ1 H=.nx ρ2 H2/\P (k+1) ρ2 H2)
  (fin:∀ρ H,P src.n ρ H->src.fin H=true):∀(f k:Nat) (ρ:Ev) (H:Hs),f+k=src.n->P k ρ H->∃ρ' H',gO src sg b f k ρ H=.nx ρ' H'/\P src.n ρ' H'
 |0,k,ρ,H,h,p=>by
  have hk:k=src.n:=by omega
  subst hk;exact⟨ρ,H,by simp[gO,fin ρ H p],p⟩
 |f+1,k,ρ,H,h,p=>by obtain⟨d,ρ1,ρ2,H2,e1,e2,e3,p2⟩:=step k ρ H (by omega) p;rw[IK e1 e2 e3];exact IL P step fin f (k+1) ρ2 H2 (by omega) p2
theorem mO {mi:M Src}{src:Src}{sg:dC}{b:MS}{ρ:Ev}{H H1:Hs}(hi:mi ρ H=.ok src H1) (P:Nat->Ev->Hs->Prop)
  (step:∀k ρ H,k<src.n->P k ρ H->∃d ρ1 ρ2 H2,src.get k H=some d/\sg d ρ=some ρ1/\b ρ1 H=.nx ρ2 H2/\P (k+1) ρ2 H2)
  (fin:∀ρ H,P src.n ρ H->src.fin H=true) (p:P 0 ρ H1):∃ρ' H',dS mi sg b ρ H=.nx ρ' H'/\P src.n ρ' H':=by
 rw[IJ hi];exact IL P step fin src.n 0 ρ H1 (by omega) p
theorem vK {src:Src}{sg:dC}{t:M Bool}{m:MC}(P:Nat->Ev->Hs->List Dv->Prop)
  (step:∀k ρ H acc,k<src.n->P k ρ H acc->∃d ρ1,src.get k H=some d/\sg d ρ=some ρ1 /\
   ((∃H2,t ρ1 H=.ok false H2/\P (k+1) ρ1 H2 acc)∨∃H2 ρ3 acc3 H3,t ρ1 H=.ok true H2/\m ρ1 H2 acc=.ok (ρ3,acc3) H3/\P (k+1) ρ3 H3 acc3))
  (fin:∀ρ H acc,P src.n ρ H acc->src.fin H=true):∀(f k:Nat) (ρ:Ev) (H:Hs) (acc:List Dv),f+k=src.n->P k ρ H acc->∃ρ' H' acc',fW src sg t m f k ρ H acc=.ok (ρ',acc') H'/\P src.n ρ' H' acc'
 |0,k,ρ,H,acc,h,p=>by
  have hk:k=src.n:=by omega
  subst hk;exact⟨ρ,H,acc,by simp[fW,fin ρ H acc p],p⟩
 |f+1,k,ρ,H,acc,h,p=>by
  obtain⟨d,ρ1,e1,e2,e3⟩:=step k ρ H acc (by omega) p
  rcases e3 with⟨H2,e3,p2⟩|⟨H2,ρ3,acc3,H3,e3,e4,p2⟩
  ·obtain⟨ρ',H',acc',e5,p5⟩:=vK P step fin f (k+1) ρ1 H2 acc (by omega) p2;exact⟨ρ',H',acc',by simp[fW,e1,e2,e3,e5],p5⟩
  ·obtain⟨ρ',H',acc',e5,p5⟩:=vK P step fin f (k+1) ρ3 H3 acc3 (by omega) p2;exact⟨ρ',H',acc',by simp[fW,e1,e2,e3,e4,e5],p5⟩
theorem vL (k:Nat) (H:Hs):∀ns:List Int,bU (bV (k+1) H) (ns.map Dv.int)=some (ns.map Dt.int)
 | []=>rfl
 |n::ns=>by rw[dw,bU,vL k H ns];rfl
def aI (p:Int×Int):Dv:=.tup [.int p.1,.int p.2]
def iR (p:Int×Int):Dt:=.tup [.int p.1,.int p.2]
theorem A6 (k:Nat) (H:Hs) (p:Int×Int):bV (k+2) H (aI p)=some (iR p):=rfl
theorem A7 (k:Nat) (H:Hs):∀ps:List (Int×Int),bU (bV (k+2) H) (ps.map aI)=some (ps.map iR)
 | []=>rfl
 |p::ps=>by rw[dw,bU,A7 k H ps,A6];rfl
theorem IM (p q:Int×Int):bM (iR p) (iR q)=decide (p=q):=by obtain⟨a,b⟩:=p;obtain⟨c,d⟩:=q;simp only[iR,bM,gG,Bool.and_true];rw[fj];simp
theorem iS (neg:Bool) (H:Hs) (p:Int×Int) (ps:List (Int×Int)):cZ neg (aI p) (.tup (ps.map aI)) H=.ok (.bl (if neg then !decide (p∈ps)else decide (p∈ps))) H:=by
 have e:(ps.map iR).any (λt=>bM t (iR p))=decide (p∈ps):=by
  rw[fj];simp only[wj,mn,xr,IM,decide_eq_true_eq];constructor
  ·rintro ⟨q,hq,rfl⟩;exact hq
  ·intro h;exact⟨p,h,rfl⟩
 have h1:bU (bV cB H) (ps.map aI)=some (ps.map iR):=A7 28 H ps;have h2:bV cB H (aI p)=some (iR p):=A6 28 H p;show kN [] neg (aI p) (.tup (ps.map aI)) H=_;simp only[kN,eB,h1,h2,e]
section
variable{X:Cx}{G:Cfg}{E:XK}{elt tg iter tg' iter':bu}{ifs ifs':List bu}{sc:iu}{ps px pos:Pos}{N:List Str}{cap:List (Option Nat)}{mi mi':M Src}{st st':dC}{test test':M Bool}{me:M Dv}{i:Nat}{x:Str}
theorem vM (hN:X.N.Nodup) (hi':X.N[i]?=some x) (hc:X.calm=true) (C:CapOk X sc N cap) (hi:kK X G E tg iter mi) (hg:∀s H ex,lG (cW X sc N s H ex) G tg st) (htt:∀s H ex,pJ (cW X sc N s H ex) G ifs test) (hel:∀s H ex,aK (cW X sc N s H ex) G E0 elt me)
  (hx:X.env.scope.names.lookup x=some .local:=by rfl) (hsw:swapsWith (.ListComp elt [⟨tg,iter,ifs,0⟩] sc ps) (some (.Name x px)) pos.line X.env=pure true:=by rfl)
  (hs:∀x,foldedSetIterable iter X.env x=pure x:=by intro _;rfl):iJ X G E (.Assign [.Name x px] (.ListComp elt [⟨tg,iter,ifs,0⟩] sc ps) pos) (aJ (bZ (bW mi cap st test (bS me))) (aG i)):=λhK=>
 PS.imp (RI hsw hN hi' hx hc C rfl (λit D env=>F6 elt tg iter ifs sc ps (.ref it) D env) (hi hK) (λs H ex=>hg s H ex hK) (λs H ex=>htt s H ex hK) (λs H ex D=>PCl.imp (zW (hel s H ex hK)) λ_ _ _ _ t=>AL t) hs) λD σ H ⟨μ,ρ,h,rs,s,o⟩=>AM (GV (mG rs s o λμ1 d h1 v H1 x1 rs1 s1 r1 o1=>o1 μ1 H1 _ Ext.refl s1 (rs1.set i r1)))
end
end L2.Mr
namespace SoM
open PySem PySem.W PyProof.Rows
variable{n:Nat}{f:Nat->Nat}{s:ag}
def lM (n:Nat) (f:Nat->Nat) (i j:Nat) (C:Bool->ag->Prop) (s:ag):Prop:=i<n/\j<n/\C (decide (f i<f j)) s
def F (f:Nat->Nat) (p:Array Nat) (k:Nat):Nat:=f (p.getD k 0)
def Ent (n:Nat) (p:Array Nat):Prop:=p.size=n/\p.toList.Perm (bf n)
theorem Ent.lt {p:Array Nat}(e:Ent n p) (hn:0<n) (k:Nat):p.getD k 0<n:=by
 by_cases h:k<p.size
 ·have:p.getD k 0=p[k]:=by simp[kj,h]
  rw[this];have hm:p[k]∈p.toList:=by simp
  exact bp.mp (e.2.mem_iff.mp hm)
 ·have:p.getD k 0=0:=by simp[kj,h]
  omega
theorem rS {p q:Array Nat}{i j:Nat}(h:p[i]?=q[j]?):F f p i=F f q j:=by unfold F;simp only[Array.getD_eq_getD_getElem?,h]
theorem Ent.mirror {p:Array Nat}(e:Ent n p) (i j d:Nat):Ent n (mirror p i j d):=⟨(mirror_size ..).trans e.1,((yf.mp (mirror_perm p i j d))).trans e.2⟩
theorem Ent.bubble {p:Array Nat}(e:Ent n p) (k d:Nat):Ent n (bubble p k d):=⟨(bubble_size ..).trans e.1,((yf.mp (bubble_perm p k d))).trans e.2⟩
theorem Ent.rev {p:Array Nat}(e:Ent n p) (i j:Nat):Ent n (kas_rev p i j):=e.mirror _ _ _
theorem rT {p:Array Nat}{i j:Nat}(hj:j<=p.size) (k:Nat):F f (kas_rev p i j) k=if i<=k/\k<j then F f p (i+j - 1 - k)else F f p k:=by
 have e:=getElem?_mirror_all (i:=i) hj k
 by_cases h:i<=k/\k<j
 ·rw[if_pos h]at e ⊢;exact rS e
 ·rw[if_neg h]at e ⊢;exact rS e
theorem IP {p:Array Nat}{k d:Nat}(hs:k<p.size) (hd:d<=k) (i:Nat):F f (bubble p k d) i=if i=k - d then F f p k else if k - d<i/\i<=k then F f p (i - 1)else F f p i:=by
 have e:=getElem?_bubble hs d hd i
 by_cases h1:i=k - d
 ·rw[if_pos h1]at e ⊢;exact rS e
 ·rw[if_neg h1]at e ⊢
  by_cases h2:k - d<i/\i<=k
  ·rw[if_pos h2]at e ⊢;exact rS e
  ·rw[if_neg h2]at e ⊢;exact rS e
def Inc (f:Nat->Nat) (p:Array Nat) (m:Nat):Prop:=∀i j,i<=j->j<m->F f p i<=F f p j
def Dec (f:Nat->Nat) (p:Array Nat) (m:Nat):Prop:=∀i j,i<=j->j<m->F f p j<=F f p i
theorem Inc.succ {p:Array Nat}{m:Nat}(h:Inc f p m) (hm:1<=m) (h1:F f p (m - 1)<=F f p m):Inc f p (m+1):=by
 intro i j hij hj
 by_cases q:j=m
 ·subst q
  by_cases r:i=j
  ·subst r;exact ak _
  ·exact dq (h i (j - 1) (by omega) (by omega)) h1
 ·exact h i j hij (by omega)
theorem Dec.succ {p:Array Nat}{m:Nat}(h:Dec f p m) (hm:1<=m) (h1:F f p m<=F f p (m - 1)):Dec f p (m+1):=by
 intro i j hij hj
 by_cases q:j=m
 ·subst q
  by_cases r:i=j
  ·subst r;exact ak _
  ·exact dq h1 (h i (j - 1) (by omega) (by omega))
 ·exact h i j hij (by omega)
theorem A8 {p:Array Nat}(e:Ent n p) (hn:0<n) {Q:Nat->ag->Prop}:∀(fu m:Nat) (s:ag),1<=m->Inc f p m->
  (∀m',m<=m'->m'<=m+fu->Inc f p m'->(m'=m+fu∨F f p m'<F f p (m' - 1))->Q m' s)->(kas_asc p fu m).kasWp (lM n f) Q s
 |0,m,s,h1,hi,h=>h m (ak _) (ak _) hi (.inl rfl)
 |fu+1,m,s,h1,hi,h=>by
  refine⟨e.lt hn _,e.lt hn _, ?_⟩
  by_cases c:f (p.getD m 0)<f (p.getD (m - 1) 0)
  ·rw[decide_eq_true c];exact h m (ak _) (by omega) hi (.inr c)
  ·rw[decide_eq_false c];refine A8 e hn fu (m+1) s (by omega) (hi.succ h1 (Nat.le_of_not_lt c)) λm' a b c d=>h m' (by omega) (by omega) c ?_
   rcases d with d|d
   ·exact .inl (by omega)
   ·exact .inr d
theorem vN (hn:0<n) {Q:Array Nat×Nat×Nat->ag->Prop}:∀(fu m q:Nat) (p:Array Nat) (s:ag),Ent n p->q+1<=m->m+fu<=n->Dec f p m->(∀k,m - 1 - q<=k->k<m->F f p k=F f p (m - 1))->
  (∀p' m' q',Ent n p'->q'+1<=m'->m<=m'->m'<=m+fu->Dec f p' m'->(∀k,m' - 1 - q'<=k->k<m'->F f p' k=F f p' (m' - 1))->Q (p',m',q') s)->(kas_desc fu p m q).kasWp (lM n f) Q s
 |0,m,q,p,s,e,h1,h2,hd,he,h=>h p m q e h1 (ak _) (ak _) hd he
 |fu+1,m,q,p,s,e,h1,h2,hd,he,h=>by
  refine⟨e.lt hn _,e.lt hn _, ?_⟩
  by_cases c:f (p.getD m 0)<f (p.getD (m - 1) 0)
  ·have c':F f p m<F f p (m - 1):=c;rw[decide_eq_true c];show KasT.kasWp _ (if true=true then(if q>0 then _ else _)else _) _ _;rw[if_pos rfl]
   by_cases hq:q>0
   ·rw[if_pos hq];have hsz:m<=p.size:=by rw[e.1];omega
    have hF:∀k,F f (kas_rev p (m - (q+1)) m) k=F f p k:=by
     intro k;rw[rT hsz]
     split
     ·rw[he _ (by omega) (by omega),he k (by omega) (by omega)]
     ·rfl
    have hd':Dec f (kas_rev p (m - (q+1)) m) (m+1):=by intro i j hij hj;rw[hF,hF];exact hd.succ (by omega) (gq c') i j hij hj
    refine vN hn fu (m+1) 0 _ s (e.rev _ _) (by omega) (by omega) hd' ?_ λp' m' q' a b c d=>h p' m' q' a b (by omega) (by omega);intro k k1 k2;have:k=m:=by omega
    subst this;rfl
   ·rw[if_neg hq];refine vN hn fu (m+1) 0 _ s e (by omega) (by omega) (hd.succ (by omega) (gq c')) ?_ λp' m' q' a b c d=>h p' m' q' a b (by omega) (by omega);intro k k1 k2;have:k=m:=by omega
    subst this;rfl
  ·have c':¬ F f p m<F f p (m - 1):=c;rw[decide_eq_false c];show KasT.kasWp _ (if false=true then _ else KasT.ask _ _ _) _ _;rw[if_neg (by simp)];refine⟨e.lt hn _,e.lt hn _, ?_⟩
   by_cases c2:f (p.getD (m - 1) 0)<f (p.getD m 0)
   ·rw[decide_eq_true c2];exact h p m q e h1 (ak _) (by omega) hd he
   ·have c2':¬ F f p (m - 1)<F f p m:=c2;rw[decide_eq_false c2];have eq:F f p m=F f p (m - 1):=by omega
    refine vN hn fu (m+1) (q+1) _ s e (by omega) (by omega) (hd.succ (by omega) (by omega)) ?_ λp' m' q' a b c d=>h p' m' q' a b (by omega) (by omega);intro k k1 k2;show F f p k=F f p m
    by_cases r:k=m
    ·subst r;rfl
    ·rw[eq];exact he k (by omega) (by omega)
theorem Dec.rev {p:Array Nat}{m:Nat}(hm:m<=p.size) (h:Dec f p m):Inc f (kas_rev p 0 m) m:=by intro i j hij hj;rw[rT hm,rT hm,if_pos ⟨jc _,by omega⟩,if_pos ⟨jc _,hj⟩];exact h _ _ (by omega) (by omega)
theorem IQ (hn:0<n) {p:Array Nat}{m:Nat}{Q:Nat×Array Nat->ag->Prop}(e:Ent n p) (h1:1<=m) (h2:m<=n) (hd:Dec f p m)
  (h:∀m' p',Ent n p'->1<=m'->m'<=n->Inc f p' m'->Q (m',p') s):(kas_tail3 m n p).kasWp (lM n f) Q s:=by
 unfold kas_tail3;rw[KasT.kasWp_bind];refine A8 (e.rev 0 m) hn (n - m) m s h1 (hd.rev (by rw[e.1];exact h2)) λm' a b c _=>?_;exact h m' _ (e.rev 0 m) (by omega) (by omega) c
theorem IS (hn:0<n) {p:Array Nat}{m:Nat}{Q:Nat×Array Nat->ag->Prop}(e:Ent n p) (h2:m+1<=n) (hd:Dec f p (m+1))
  (h:∀m' p',Ent n p'->1<=m'->m'<=n->Inc f p' m'->Q (m',p') s):(kas_descPart m n p).kasWp (lM n f) Q s:=by
 unfold kas_descPart;rw[KasT.kasWp_bind];refine vN hn (n - (m+1)) (m+1) 0 p s e (by omega) (by omega) hd (λk k1 k2=>by (have:k=m:=by omega);subst this;rfl) λp' m' q' e' a b c d eq=>?_;show KasT.kasWp _ (if q'>0 then _ else _) _ _
 by_cases hq:q'>0
 ·rw[if_pos hq];have hsz:m'<=p'.size:=by rw[e'.1];omega
  have hF:∀k,F f (kas_rev p' (m' - (q'+1)) m') k=F f p' k:=by
   intro k;rw[rT hsz]
   split
   ·rw[eq _ (by omega) (by omega),eq k (by omega) (by omega)]
   ·rfl
  refine IQ hn (e'.rev _ _) (show 1<=m' by omega) (show m'<=n by omega) ?_ h;intro i j hij hj;rw[hF,hF];exact d i j hij hj
 ·rw[if_neg hq];exact IQ hn e' (show 1<=m' by omega) (show m'<=n by omega) d h
theorem VU (hn:1<=n) {p:Array Nat}{Q:Nat×Array Nat->ag->Prop}(e:Ent n p)
  (h:∀m' p',Ent n p'->1<=m'->m'<=n->Inc f p' m'->Q (m',p') s):(kas_count n p).kasWp (lM n f) Q s:=by
 unfold kas_count;rw[KasT.kasWp_bind];refine A8 e (by omega) (n - 1) 1 s (ak _) (λi j hij hj=>by (have:i=j:=by omega);subst this;exact ak _) λm a b c d=>?_;show KasT.kasWp _ (if(m==n)=true then _ else if m>1 then _ else _) _ _
 by_cases q:m=n
 ·rw[if_pos (beq_iff_eq.mpr q)];exact h m p e (by omega) (by omega) c
 ·rw[if_neg (by intro z;exact q (beq_iff_eq.mp z))];have hlt:F f p m<F f p (m - 1):=by
   rcases d with d|d
   ·omega
   ·exact d
  by_cases q1:m>1
  ·rw[if_pos q1];refine⟨e.lt (by omega) _,e.lt (by omega) _, ?_⟩
   by_cases c2:f (p.getD 0 0)<f (p.getD (m - 1) 0)
   ·rw[decide_eq_true c2];exact h m p e (by omega) (by omega) c
   ·have c2':¬ F f p 0<F f p (m - 1):=c2;rw[decide_eq_false c2];have hsz:m<=p.size:=by rw[e.1];omega
    have eq:∀k,k<m->F f p k=F f p 0:=by intro k hk;have:=c 0 k (by omega) hk;have:=c k (m - 1) (by omega) (by omega);omega
    have hF:∀k,F f (kas_rev p 0 m) k=F f p k:=by
     intro k;rw[rT hsz]
     split
     ·rw[eq _ (by omega),eq k (by omega)]
     ·rfl
    refine IS (by omega) (e.rev _ _) (by omega) ?_ h;intro i j hij hj;rw[hF,hF]
    by_cases r:j=m
    ·subst r
     by_cases r2:i=j
     ·subst r2;exact ak _
     ·have:=eq i (by omega);have:=eq (j - 1) (by omega);omega
    ·rw[eq i (by omega),eq j (by omega)];exact ak _
  ·rw[if_neg q1];have:m=1:=by omega
   subst this;refine IS (by omega) e (by omega) ?_ h;intro i j hij hj
   by_cases r:i=j
   ·subst r;exact ak _
   ·have h1:i=0:=by omega
    have h2:j=1:=by omega
    subst h1;subst h2;exact gq hlt
theorem A9 {p:Array Nat}(e:Ent n p) (hn:0<n) {k:Nat}(hi:Inc f p k) {Q:Nat->ag->Prop}:∀(fu l r:Nat) (s:ag),r - l<=fu->l<=r->r<=k->
  (∀i,i<l->F f p i<=F f p k)->(∀i,r<=i->i<k->F f p k<F f p i)->
  (∀l',l'<=k->(∀i,i<l'->F f p i<=F f p k)->(∀i,l'<=i->i<k->F f p k<F f p i)->Q l' s)->(kas_place p k fu l r).kasWp (lM n f) Q s
 |0,l,r,s,h1,h2,h3,ha,hb,h=>by
  have:l=r:=by omega
  subst this;exact h l h3 ha hb
 |fu+1,l,r,s,h1,h2,h3,ha,hb,h=>by
  unfold kas_place
  by_cases q:l>=r
  ·rw[if_pos q];have:l=r:=by omega
   subst this;exact h l h3 ha hb
  ·rw[if_neg q];refine⟨e.lt hn _,e.lt hn _, ?_⟩
   by_cases c:f (p.getD k 0)<f (p.getD ((l+r) / 2) 0)
   ·have c':F f p k<F f p ((l+r) / 2):=c;rw[decide_eq_true c];refine A9 e hn hi fu l ((l+r) / 2) s (by omega) (by omega) (by omega) ha ?_ h;intro i i1 i2;have:=hi ((l+r) / 2) i i1 i2;omega
   ·have c':¬ F f p k<F f p ((l+r) / 2):=c;rw[decide_eq_false c];refine A9 e hn hi fu ((l+r) / 2+1) r s (by omega) (by omega) (by omega) ?_ hb h;intro i i1;have:=hi i ((l+r) / 2) (by omega) (by omega);omega
theorem IT (hn:0<n) {Q:Array Nat->ag->Prop}:∀(fu k:Nat) (p:Array Nat) (s:ag),Ent n p->k+fu<=n->Inc f p k->(∀p',Ent n p'->Inc f p' (k+fu)->Q p' s)->(kas_bin fu p k).kasWp (lM n f) Q s
 |0,k,p,s,e,h1,hi,h=>h p e hi
 |fu+1,k,p,s,e,h1,hi,h=>by
  unfold kas_bin;rw[KasT.kasWp_bind];refine A9 e hn hi k 0 k s (by omega) (by omega) (ak _) (λi hi=>absurd hi (by omega)) (λi a b=>absurd b (by omega)) λl hl ha hb=>?_;have hsz:k<p.size:=by rw[e.1];omega
  refine IT hn fu (k+1) _ s (e.bubble _ _) (by omega) ?_ λp' e' i'=>h p' e' (by rw[show k+(fu+1)=k+1+fu by omega];exact i');intro i j hij hj;rw[IP hsz (by omega),IP hsz (by omega)];have hkl:k - (k - l)=l:=by omega
  rw[hkl]
  by_cases i1:i=l
  ·rw[if_pos i1]
   by_cases j1:j=l
   ·rw[if_pos j1];exact ak _
   ·rw[if_neg j1,if_pos (by omega)];exact gq (hb (j - 1) (by omega) (by omega))
  ·rw[if_neg i1]
   by_cases i2:l<i/\i<=k
   ·rw[if_pos i2,if_neg (by omega),if_pos (by omega)];exact hi (i - 1) (j - 1) (by omega) (by omega)
   ·rw[if_neg i2]
    by_cases j1:j=l
    ·rw[if_pos j1];exact ha i (by omega)
    ·rw[if_neg j1]
     by_cases j2:l<j/\j<=k
     ·rw[if_pos j2];exact hi i (j - 1) (by omega) (by omega)
     ·rw[if_neg j2];exact hi i j hij (by omega)
theorem VV (hn:1<=n) {Q:Array Nat->ag->Prop}(h:∀p,Ent n p->Inc f p n->Q p s):(kas_sort n).kasWp (lM n f) Q s:=by
 unfold kas_sort;rw[KasT.kasWp_bind];refine VU hn ⟨by simp,by simp⟩ λm p e h1 h2 hi=>?_;show KasT.kasWp _ (if m<n then _ else _) _ _
 by_cases q:m<n
 ·rw[if_pos q];have:max m 1=m:=by omega
  rw[this];refine IT (by omega) (n - m) m p s e (by omega) hi λp' e' i'=>h p' e' ?_;rw[show m+(n - m)=n by omega]at i';exact i'
 ·rw[if_neg q];have:m=n:=by omega
  subst this;exact h p e hi
theorem IU {α:Type}{cmp:Nat->Nat->(Bool->ag->Prop)->ag->Prop}{I:ag->Prop}(hc:∀i j C s,I s->i<n->j<n->(∀s',I s'->C (decide (f i<f j)) s')->cmp i j C s):
  ∀(t:KasT α) (Q:α->Prop) (Q':α->ag->Prop) (s₀ s:ag),t.kasWp (lM n f) (λa _=>Q a) s₀->I s->(∀a s',Q a->I s'->Q' a s')->t.kasWp cmp Q' s
 | .ret a,Q,Q',s₀,s,h,hi,k=>k a s h hi
 | .ask i j c,Q,Q',s₀,s,h,hi,k=>hc i j _ s hi h.1 h.2.1 λs' hi'=>IU hc (c _) Q Q' s₀ s' h.2.2 hi' k
end SoM
namespace L2
structure Sto {α:Type}(lt:α->α->Bool):Prop where
 irr:∀x,lt x x=false
 tr:∀x y z,lt x y=true->lt y z=true->lt x z=true
 tot:∀x y,lt x y=false->lt y x=false->x=y
section
variable{α:Type}{lt:α->α->Bool}
theorem Sto.asy (o:Sto lt) {x y:α}(h:lt x y=true):lt y x=false:=by
 cases q:lt y x with
 |false=>rfl
 |true=>have:=o.tr x y x h q;rw[o.irr]at this;cases this
theorem Sto.lt_le (o:Sto lt) {x y z:α}(h:lt x y=true) (h2:lt z y=false):lt x z=true:=by
 cases q:lt y z with
 |true=>exact o.tr x y z h q
 |false=>rw[<-o.tot y z q h2];exact h
abbrev gD (lt:α->α->Bool) (l:List α):Prop:=l.Pairwise λa b=>lt b a=false
abbrev hO (lt:α->α->Bool) (l:List α):Prop:=l.Pairwise λa b=>lt a b=true
theorem IV (o:Sto lt):∀{l l':List α},gD lt l->gD lt l'->l.Perm l'->l=l'
 | [],l',_,_,p=>(List.nil_perm.mp p).symm
 |x::r,[],_,_,p=>by simp at p
 |x::r,y::r',h,h',p=>by
  have h1:=gj.mp h;have h2:=gj.mp h';have e:x=y:=by
   refine o.tot x y ?_ ?_
   ·rcases ba.mp (p.mem_iff.mp (bh ..))with e|e
    ·rw[e];exact o.irr y
    ·exact h2.1 x e
   ·rcases ba.mp (p.mem_iff.mpr (bh ..))with e|e
    ·rw[e];exact o.irr x
    ·exact h1.1 y e
  subst e;rw[IV o h1.2 h2.2 (List.Perm.cons_inv p)]
def kC (lt:α->α->Bool) (x:α):List α->List α
 | []=>[x]
 |y::r=>if lt y x then y::kC lt x r else if lt x y then x::y::r else y::r
def dR (lt:α->α->Bool):List α->List α
 | []=>[]
 |x::r=>kC lt x (dR lt r)
theorem BA (o:Sto lt) (x z:α):∀l,z∈kC lt x l↔z=x∨z∈l
 | []=>by simp[kC]
 |y::r=>by
  unfold kC
  split
  ·rw[ba,BA o x z r,ba];constructor
   ·rintro (h|h|h)
    ·exact .inr (.inl h)
    ·exact .inl h
    ·exact .inr (.inr h)
   ·rintro (h|h|h)
    ·exact .inr (.inl h)
    ·exact .inl h
    ·exact .inr (.inr h)
  ·rename_i q1
   split
   ·simp
   ·rename_i q2;have e:=o.tot x y (by simpa using q2) (by simpa using q1);subst e;simp
theorem pU (o:Sto lt) (z:α):∀l,z∈dR lt l↔z∈l
 | []=>.rfl
 |x::r=>by rw[dR,BA o,pU o z r,ba]
theorem IW (o:Sto lt) (x:α):∀l,hO lt l->hO lt (kC lt x l)
 | [],_=>by simp[kC,hO]
 |y::r,h=>by
  have h1:=gj.mp h;unfold kC
  split
  ·rename_i q;refine gj.mpr ⟨λz hz=>?_,IW o x r h1.2⟩
   rcases(BA o x z r).mp hz with rfl|hz
   ·exact q
   ·exact h1.1 z hz
  ·split
   ·rename_i q;refine gj.mpr ⟨λz hz=>?_,h⟩
    rcases ba.mp hz with rfl|hz
    ·exact q
    ·exact o.tr _ _ _ q (h1.1 z hz)
   ·exact h
theorem vO (o:Sto lt):∀l,hO lt (dR lt l)
 | []=>yk
 |x::r=>IW o x _ (vO o r)
theorem IX (o:Sto lt) {l:List α}(h:hO lt l):gD lt l:=h.imp λh=>o.asy h
theorem vP (o:Sto lt) {l:List α}(h:hO lt l):l.Nodup:=h.imp λ{a b} h e=>by rw[e,o.irr]at h;cases h
theorem VW (o:Sto lt) {l l':List α}(h:hO lt l) (h':hO lt l') (m:∀z,z∈l↔z∈l'):l=l':=by refine IV o (IX o h) (IX o h') ?_;exact(qh (vP o h) (vP o h')).mpr m
theorem VX (o:Sto lt) {l l':List α}(h:hO lt l') (m:∀z,z∈l'↔z∈l):l'=dR lt l:=VW o h (vO o l) λz=>(m z).trans (pU o z l).symm
def rk (lt:α->α->Bool) (ks:List α) (x:α):Nat:=ks.countP λy=>lt y x
theorem BB {p q:α->Bool}:∀(l:List α),(∀y,p y=true->q y=true)->l.countP p<=l.countP q
 | [],_=>ak _
 |y::r,h=>by
  have:=BB r h;rw[sf,sf]
  cases hp:p y with
  |true=>rw[h y hp];simp;omega
  |false=>cases q y <;> simp <;> omega
theorem IY {p q:α->Bool}:∀(l:List α),(∀y,p y=true->q y=true)->∀x,x∈l->q x=true->p x=false->l.countP p<l.countP q
 | [],_,x,hx,_,_=>by simp at hx
 |y::r,h,x,hx,h1,h2=>by
  rw[sf,sf]
  rcases ba.mp hx with rfl|hx
  ·have:=BB r h;rw[h1,h2];simp;omega
  ·have:=IY r h x hx h1 h2
   cases hp:p y with
   |true=>rw[h y hp];simp;omega
   |false=>cases q y <;> simp <;> omega
theorem IZ (o:Sto lt) {ks:List α}{x z:α}(hx:x∈ks):decide (rk lt ks x<rk lt ks z)=lt x z:=by
 cases q:lt x z with
 |true=>exact decide_eq_true (IY ks (λy h=>o.tr y x z h q) x hx q (o.irr x))
 |false=>exact decide_eq_false (Nat.not_lt.mpr (BB ks λy h=>o.lt_le h q))
theorem VY (o:Sto lt) {ks:List α}{x z:α}(hz:z∈ks) (h:rk lt ks x<=rk lt ks z):lt z x=false:=by rw[<-IZ o hz];exact decide_eq_false (Nat.not_lt.mpr h)
end
def cT:List Int->List Int->Bool
 | [],[]=>false
 | [],_::_=>true
 |_::_,[]=>false
 |a::x,b::y=>if a==b then cT x y else decide (a<b)
theorem stoL:Sto cT:=by
 refine⟨λx=>?_,λx=>?_,λx=>?_⟩
 ·induction x with
  |nil=>rfl
  |cons a x ih=>simp[cT,ih]
 ·induction x with
  |nil=>
   intro y z h1 h2
   cases z with
   |nil=>cases y with
    |nil=>exact h1
    |cons b y=>cases h2
   |cons c z=>rfl
  |cons a x ih=>
   intro y z h1 h2
   cases y with
   |nil=>cases h1
   |cons b y=>
    cases z with
    |nil=>cases h2
    |cons c z=>
     simp only[cT,beq_iff_eq]at h1 h2 ⊢
     by_cases e1:a=b <;> by_cases e2:b=c
     ·rw[if_pos e1]at h1;rw[if_pos e2]at h2;rw[if_pos (e1.trans e2)];exact ih y z h1 h2
     ·rw[if_neg e2]at h2;rw[if_neg (by rw[e1];exact e2)];rw[e1];exact h2
     ·rw[if_neg e1]at h1;rw[if_neg (by rw[<-e2];exact e1)];rw[<-e2];exact h1
     ·rw[if_neg e1]at h1;rw[if_neg e2]at h2;simp only[decide_eq_true_eq]at h1 h2;rw[if_neg (by omega)];simp;omega
 ·induction x with
  |nil=>
   intro y h1 h2
   cases y with
   |nil=>rfl
   |cons b y=>cases h1
  |cons a x ih=>
   intro y h1 h2
   cases y with
   |nil=>cases h2
   |cons b y=>
    simp only[cT,beq_iff_eq]at h1 h2
    by_cases e:a=b
    ·subst e;rw[if_pos rfl]at h1 h2;rw[ih y h1 h2]
    ·rw[if_neg e]at h1;rw[if_neg (cm e)]at h2;simp at h1 h2;omega
def fL (p q:Int×Int):Bool:=if p.1==q.1 then decide (p.2<q.2)else decide (p.1<q.1)
def jK (p:Int×Int):List Int:=[p.1,p.2]
theorem rV (p q:Int×Int):cT (jK p) (jK q)=fL p q:=by
 unfold fL jK cT
 split
 ·unfold cT
  split
  ·rename_i h;simp at h;simp[cT,h]
  ·rfl
 ·rfl
theorem VZ {p q:Int×Int}(h:jK p=jK q):p=q:=by obtain⟨a,b⟩:=p;obtain⟨c,d⟩:=q;simp[jK]at h;rw[h.1,h.2]
theorem stoP:Sto fL:=⟨λx=>by rw[<-rV];exact stoL.irr _,λx y z h1 h2=>by rw[<-rV]at *;exact stoL.tr _ _ _ h1 h2,λx y h1 h2=>by rw[<-rV]at *;exact VZ (stoL.tot _ _ h1 h2)⟩
section
variable{α β:Type}{lt:α->α->Bool}{lt':β->β->Bool}{f:α->β}
theorem I0 (h:∀x y,lt' (f x) (f y)=lt x y) (x:α):∀l,kC lt' (f x) (l.map f)=(kC lt x l).map f
 | []=>rfl
 |y::r=>by
  simp only[dw,kC,h]
  split
  ·rw[I0 h x r];rfl
  ·split <;> rfl
theorem JA (h:∀x y,lt' (f x) (f y)=lt x y):∀l,dR lt' (l.map f)=(dR lt l).map f
 | []=>rfl
 |x::r=>by rw[dw,dR,JA h r,I0 h];rfl
end
end L2
namespace SM
open PySem PySem.SetTable
def gD (l:List Nat):Prop:=l.Pairwise (·<·)
theorem BC {l:List Nat}(hr:gD l) {i k x:Nat}(a:l[i]?=some x) (b:l[k]?=some x):i=k:=by
 obtain⟨p1,p2⟩:=az.mp a;obtain⟨q1,q2⟩:=az.mp b
 rcases Nat.lt_trichotomy i k with h|h|h
 ·have:=gu.mp hr i k p1 q1 h;omega
 ·exact h
 ·have:=gu.mp hr k i q1 p1 h;omega
theorem V0 (xs:Array Nat) (j:Nat) (hr:gD xs.toList):∀(fuel lo hi:Nat),lo<=hi->hi<=xs.size->hi - lo<=fuel->
  (∀i (h:i<xs.size),i<lo->xs[i]<j)->(∀i (h:i<xs.size),hi<=i->j<=xs[i])->
  (∀i (h:i<xs.size),i<below.go xs j fuel lo hi->xs[i]<j)/\(∀i (h:i<xs.size),below.go xs j fuel lo hi<=i->j<=xs[i])/\below.go xs j fuel lo hi<=xs.size:=by
 intro fuel
 induction fuel with
 |zero=>
  intro lo hi h1 h2 h3 ha hb;have:lo=hi:=by omega
  subst this;exact⟨ha,hb,h2⟩
 |succ n ih=>
  intro lo hi h1 h2 h3 ha hb;unfold below.go
  by_cases hlt:lo<hi
  ·rw[if_pos hlt];dsimp only;have hm:(lo+hi) / 2<xs.size:=by omega
   have e:xs.getD ((lo+hi) / 2) j=xs[(lo+hi) / 2]:=by simp[kj,hm]
   have mono:∀a b (ha:a<xs.size) (hb:b<xs.size),a<b->xs[a]<xs[b]:=by intro a b ha hb hab;have:=gu.mp hr a b (by simpa using ha) (by simpa using hb) hab;simpa using this
   by_cases hc:xs.getD ((lo+hi) / 2) j<j
   ·rw[if_pos hc];refine ih _ _ (by omega) h2 (by omega) ?_ hb;intro i h hi';rw[e]at hc
    by_cases q:i=(lo+hi) / 2
    ·subst q;exact hc
    ·have:=mono i _ h hm (by omega);omega
   ·rw[if_neg hc];refine ih _ _ (by omega) (by omega) (by omega) ha ?_;intro i h hi';rw[e]at hc
    by_cases q:i=(lo+hi) / 2
    ·subst q;omega
    ·have:=mono _ i hm h (by omega);omega
  ·rw[if_neg hlt];have:lo=hi:=by omega
   subst this;exact⟨ha,hb,h2⟩
theorem rW {xs:Array Nat}{j:Nat}(hr:gD xs.toList):
  (∀i (h:i<xs.size),i<below xs j->xs[i]<j)/\(∀i (h:i<xs.size),below xs j<=i->j<=xs[i])/\below xs j<=xs.size:=
 V0 xs j hr xs.size 0 xs.size (jc _) (ak _) (by omega) (λi h hi=>absurd hi (by omega)) (λi h hi=>absurd h (by omega))
theorem JB {xs:Array Nat}{j:Nat}(hr:gD xs.toList) (hm:j∈xs.toList):xs[below xs j]?=some j:=by
 obtain⟨h1,h2,h3⟩:=rW (j:=j) hr;obtain⟨i,hi,e⟩:=jh hm;have hi':i<xs.size:=by simpa using hi
 have e':xs[i]=j:=by simpa using e
 have hle:below xs j<=i:=by
  rcases jm i (below xs j)with q|q
  ·have:=h1 i hi' q;omega
  ·exact q
 have hb:below xs j<xs.size:=by omega
 have:=h2 (below xs j) hb (ak _);have mono:∀a b (ha:a<xs.size) (hb:b<xs.size),a<b->xs[a]<xs[b]:=by intro a b ha hb hab;have:=gu.mp hr a b (by simpa using ha) (by simpa using hb) hab;simpa using this
 have hE:below xs j=i:=by
  rcases jm (below xs j) i with q|q
  ·have:=mono _ _ hb hi' q;omega
  ·omega
 rw[gi hb]
 congr 1
 have:∀k (hk:k<xs.size),k=i->xs[k]=xs[i]:=by intro k hk e;subst e;rfl
 rw[this _ hb hE,e']
theorem V1 {xs:Array Nat}{j:Nat}(hm:j∉xs.toList):(xs[below xs j]?==some j)=false:=by rw[beq_eq_false_iff_ne];intro e;obtain⟨h,e⟩:=du.mp e;exact hm (by rw[<-e];simp)
theorem rX {α:Type}(xs:Array α) (p:Nat) (x:α) (hp:p<=xs.size):(insertAt xs p x).toList=xs.toList.take p++x::xs.toList.drop p:=by unfold insertAt;rw[Array.toList_append,Array.toList_push];simp[Array.toList_extract,oi]
theorem V2 {xs:Array Nat}{j:Nat}(hr:gD xs.toList) (hm:j∉xs.toList):gD (insertAt xs (below xs j) j).toList:=by
 obtain⟨h1,h2,h3⟩:=rW (j:=j) hr;rw[rX _ _ _ h3];unfold gD at hr ⊢;have hlt:∀a∈xs.toList.take (below xs j),a<j:=by intro a ha;obtain⟨i,hi,e⟩:=jh ha;rw[jo]at hi;rw[List.getElem_take]at e;have:=h1 i (by simp at hi;omega) (by omega);simp at e;omega
 have hgt:∀a∈xs.toList.drop (below xs j),j<a:=by
  intro a ha;obtain⟨i,hi,e⟩:=jh ha;rw[pb]at hi;rw[List.getElem_drop]at e;have q:=h2 (below xs j+i) (by simp at hi;omega) (by omega);have ne:a≠j:=by rintro rfl;exact hm (mf ha)
  simp at e;omega
 rw[List.pairwise_append];refine⟨hr.sublist (List.take_sublist _ _), ?_, ?_⟩
 ·rw[gj];exact⟨hgt,hr.sublist (List.drop_sublist _ _)⟩
 ·intro a ha b hb
  rcases ba.mp hb with rfl|hb
  ·exact hlt a ha
  ·have:=hlt a ha;have:=hgt b hb;omega
def lN (mask:Nat) (p:Probe):Probe:=
 if p.more>0 then{ p with j:=p.j+1,more:=p.more - 1 } else
 { p with j:=(leap mask p.i p.perturb).1,more:=runEnd mask (leap mask p.i p.perturb).1 - (leap mask p.i p.perturb).1,i:=(leap mask p.i p.perturb).1,perturb:=(leap mask p.i p.perturb).2 }
theorem JC (t:ie) (p:Probe):t.advance p=lN t.mask p:=by
 unfold SetTable.advance lN
 split <;> rfl
def V3 (mask:Nat) (h:Int):Probe:={ j:=bits h % (mask+1),more:=runEnd mask (bits h % (mask+1)) - bits h % (mask+1),i:=bits h % (mask+1),perturb:=bits h,dummy:=none }
def dE (mask:Nat) (h:Int):Nat->Probe
 |0=>V3 mask h
 |n+1=>lN mask (dE mask h n)
def pr (mask:Nat) (h:Int) (n:Nat):Nat:=(dE mask h n).j
theorem V4 (mask:Nat) (p:Probe):(lN mask p).dummy=p.dummy:=by unfold lN;split <;> rfl
theorem JD (mask:Nat) (h:Int):∀n,(dE mask h n).dummy=none
 |0=>rfl
 |n+1=>by rw[dE,V4,JD mask h n]
def oE (mask i pt:Nat):Probe:={ j:=i,more:=runEnd mask i - i,i:=i,perturb:=pt,dummy:=none }
def bs (mask:Nat) (h:Int):Nat->Nat×Nat
 |0=>(bits h % (mask+1),bits h)
 |L+1=>leap mask (bs mask h L).1 (bs mask h L).2
theorem V5 (mask i:Nat):runEnd mask i - i<=9:=by unfold runEnd;split <;> omega
theorem vQ (mask:Nat) (h:Int) (i pt:Nat) (n:Nat) (e:dE mask h n=oE mask i pt):∀k,k<=runEnd mask i - i->dE mask h (n+k)={ oE mask i pt with j:=i+k,more:=runEnd mask i - i - k }
 |0,_=>by rw[Nat.add_zero,e];rfl
 |k+1,hk=>by have ih:=vQ mask h i pt n e k (by omega);rw[show n+(k+1)=(n+k)+1 from rfl,dE,ih];unfold lN;rw[if_pos (show runEnd mask i - i - k>0 by omega)];simp[oE];omega
theorem JE (mask:Nat) (h:Int):∀L,∃n,n<=10*L/\dE mask h n=oE mask (bs mask h L).1 (bs mask h L).2
 |0=>⟨0,by omega,rfl⟩
 |L+1=>by obtain⟨n,hn,e⟩:=JE mask h L;have r:=vQ mask h _ _ n e (runEnd mask (bs mask h L).1 - (bs mask h L).1) (ak _);have:=V5 mask (bs mask h L).1;refine⟨n+(runEnd mask (bs mask h L).1 - (bs mask h L).1)+1,by omega, ?_⟩;rw[dE,r];unfold lN;rw[if_neg (by simp)];rfl
theorem JF (mask:Nat) (h:Int):∀L,(bs mask h L).2=bits h / 32 ^ L
 |0=>by simp[bs]
 |L+1=>by rw[bs];show(bs mask h L).2 / 32=_;rw[JF mask h L,Nat.div_div_eq_div_mul,Nat.pow_succ]
theorem V6 (h:Int):bits h<2 ^ 64:=by unfold bits;omega
theorem V7 (mask:Nat) (h:Int) {L:Nat}(hL:13<=L):(bs mask h L).2=0:=by
 rw[JF];have h1:=V6 h;have h2:(32:Nat) ^ 13<=32 ^ L:=Nat.pow_le_pow_right (by decide) hL;have h3:(2:Nat) ^ 64<32 ^ 13:=by decide
 exact Nat.div_eq_of_lt (by omega)
def fx (mask x:Nat):Nat:=(x*5+1) % (mask+1)
def mP (mask:Nat):Nat->Nat->Nat
 |0,x=>x
 |n+1,x=>mP mask n (fx mask x)
theorem JG (mask:Nat):∀n x,mP mask (n+1) x=fx mask (mP mask n x)
 |0,x=>rfl
 |n+1,x=>by rw[mP,JG mask n,mP]
theorem JH (mask:Nat) (h:Int):∀n,(bs mask h (13+n)).1=mP mask n (bs mask h 13).1
 |0=>rfl
 |n+1=>by rw[JG,<-JH mask h n,show 13+(n+1)=(13+n)+1 from rfl,bs];show((bs mask h (13+n)).1*5+1+(bs mask h (13+n)).2 / 32) % (mask+1)=_;rw[V7 mask h (by omega)];rfl
def pV (mask:Nat):Nat->Nat->Nat
 |0,_=>0
 |n+1,x=>2 ^ x ||| pV mask n (fx mask x)
theorem JI (mask j:Nat):∀n x,(pV mask n x).testBit j=true->∃k,k<n/\mP mask k x=j
 |0,x,h=>by simp[pV]at h
 |n+1,x,h=>by
  rw[pV,Nat.testBit_or,Bool.or_eq_true]at h
  rcases h with h|h
  ·rw[Nat.testBit_two_pow,decide_eq_true_eq]at h;exact⟨0,by omega,h⟩
  ·obtain⟨k,hk,e⟩:=JI mask j n _ h;exact⟨k+1,by omega,e⟩
def kR (mask:Nat):Prop:=mask=7∨mask=31∨mask=127
def JJ (mask:Nat):Bool:=(bf (mask+1)).all λx=>pV mask (mask+1) x==2 ^ (mask+1) - 1
theorem V8 {mask:Nat}(g:kR mask):JJ mask=true:=by rcases g with rfl|rfl|rfl <;> decide +kernel
theorem V9 {mask x j:Nat}(g:kR mask) (hx:x<=mask) (hj:j<=mask):∃k,k<=mask/\mP mask k x=j:=by
 have h1:=V8 g;unfold JJ at h1;rw[gk]at h1;have h2:=h1 x (bp.mpr (by omega));rw[beq_iff_eq]at h2;have h3:(pV mask (mask+1) x).testBit j=true:=by rw[h2,Nat.testBit_two_pow_sub_one,decide_eq_true_eq];omega
 obtain⟨k,hk,e⟩:=JI mask j _ _ h3;exact⟨k,by omega,e⟩
theorem vR (a m:Nat):a % (m+1)<=m:=by have:=Nat.mod_lt a (show 0<m+1 by omega);omega
theorem WA (mask:Nat) (h:Int):∀L,(bs mask h L).1<=mask
 |0=>vR _ _
 |L+1=>vR _ _
theorem JK {mask j:Nat}(g:kR mask) (h:Int) (hj:j<=mask):∃L,L<=13+mask/\(bs mask h L).1=j:=by obtain⟨k,hk,e⟩:=V9 g (WA mask h 13) hj;exact⟨13+k,by omega,by rw[JH];exact e⟩
theorem WB {mask j:Nat}(g:kR mask) (h:Int) (hj:j<=mask):∃n,n<10*turns mask/\pr mask h n=j:=by obtain⟨L,hL,e⟩:=JK g h hj;obtain⟨n,hn,e2⟩:=JE mask h L;refine⟨n,by unfold turns;omega, ?_⟩;unfold pr;rw[e2];exact e
theorem JL {mask i:Nat}(hi:i<=mask):runEnd mask i<=mask:=by unfold runEnd;split <;> omega
theorem JM {mask:Nat}(h:Int):∀n,(dE mask h n).i<=mask/\(dE mask h n).j+(dE mask h n).more<=mask
 |0=>by
  have e:bits h % (mask+1)<=mask:=vR _ _;have:=JL e;have:bits h % (mask+1)<=runEnd mask (bits h % (mask+1)):=by unfold runEnd;split <;> omega
  exact⟨e,by show bits h % (mask+1)+(runEnd mask (bits h % (mask+1)) - bits h % (mask+1))<=mask;omega⟩
 |n+1=>by
  obtain⟨h1,h2⟩:=JM (mask:=mask) h n;rw[dE];unfold lN
  split
  ·exact⟨h1,by dsimp only;omega⟩
  ·dsimp only;have e:(leap mask (dE mask h n).i (dE mask h n).perturb).1<=mask:=vR _ _;have:=JL e;have:(leap mask (dE mask h n).i (dE mask h n).perturb).1<=runEnd mask (leap mask (dE mask h n).i (dE mask h n).perturb).1:=by unfold runEnd;split <;> omega
   exact⟨e,by omega⟩
theorem BD {mask:Nat}(h:Int) (n:Nat):pr mask h n<=mask:=by have:=(JM (mask:=mask) h n).2;unfold pr;omega
def Way (mask:Nat) (occ:Nat->Prop) (h:Int) (j:Nat):Prop:=∃n,pr mask h n=j/\∀m,m<n->occ (pr mask h m)
theorem Way.mono {mask:Nat}{occ occ':Nat->Prop}{h:Int}{j:Nat}(w:Way mask occ h j) (k:∀x,occ x->occ' x):Way mask occ' h j:=let ⟨n,e,a⟩:=w;⟨n,e,λm hm=>k _ (a m hm)⟩
structure TOk (t:ie) (hs:List Int):Prop where
 size:t.place.size=hs.length
 rise:gD t.place.toList
 nod:t.dummies=#[]
 bnd:∀j∈t.place.toList,j<=t.mask
 room:hs.length<=t.mask
 msk:kR t.mask
 way:∀(i:Nat) (h:Int) (j:Nat),hs[i]?=some h->t.place.toList[i]?=some j->Way t.mask (·∈t.place.toList) h j
 plain:t.plain=true
theorem TOk.fits {t:ie}{hs:List Int}(T:TOk t hs):t.fits hs.length=true:=by unfold SetTable.fits SetTable.fill;rw[T.nod,T.size];simpa using T.room
theorem TOk.gave {t:ie}{hs:List Int}(T:TOk t hs):t.gaveWay=false:=by
 unfold SetTable.gaveWay
 rcases T.msk with e|e|e <;> rw[e] <;> rfl
theorem JN (j:Nat):SetTable.has #[] j=false:=by unfold SetTable.has;simp
theorem TOk.slot_live {t:ie}{hs:List Int}(T:TOk t hs) {j:Nat}(h:j∈t.place.toList):∃i,t.slot j=.live i/\t.place.toList[i]?=some j:=by refine⟨below t.place j, ?_,by simpa using JB T.rise h⟩;unfold SetTable.slot;dsimp only;rw[JB T.rise h];simp
theorem TOk.slot_empty {t:ie}{hs:List Int}(T:TOk t hs) {j:Nat}(h:j∉t.place.toList):t.slot j=.empty:=by unfold SetTable.slot;dsimp only;rw[V1 h,T.nod,JN];rfl
theorem TOk.empty_there {t:ie}{hs:List Int}(T:TOk t hs):∃j,j<=t.mask/\j∉t.place.toList:=by
 rcases qt (∃j,j<=t.mask/\j∉t.place.toList)with h|h
 ·exact h
 ·exfalso
  have h1:∀j,j∈bf (t.mask+1)->j∈t.place.toList:=by
   intro j hj
   rcases qt (j∈t.place.toList)with q|q
   ·exact q
   ·exact absurd ⟨j,by have:=bp.mp hj;omega,q⟩ h
  have h2:=(sh (n:=t.mask+1)).length_le_of_subset h1;rw[jx]at h2;have h3:t.place.toList.length=hs.length:=by rw[<-T.size];simp
  have:=T.room;omega
theorem WC {t:ie}{hs:List Int}(T:TOk t hs) (hashAt:Nat->Int) (h:Int):∀(fuel n N:Nat),n<=N->N - n<fuel->pr t.mask h N∉t.place.toList->
  ∃m,n<=m/\m<=N/\(∀l,n<=l->l<m->pr t.mask h l∈t.place.toList/\∀i,t.place.toList[i]?=some (pr t.mask h l)->hashAt i≠h) /\
   ((pr t.mask h m∉t.place.toList/\probe.go t hashAt h fuel (dE t.mask h n)=some (.empty (pr t.mask h m) none)) ∨
    (∃i,t.place.toList[i]?=some (pr t.mask h m)/\hashAt i=h/\probe.go t hashAt h fuel (dE t.mask h n)=some (.candidate (pr t.mask h m) i (dE t.mask h (m+1))))):=by
 intro fuel
 induction fuel with
 |zero=>intro n N _ h2 _;omega
 |succ f ih=>
  intro n N h1 h2 h3;have hj:(dE t.mask h n).j=pr t.mask h n:=rfl
  rcases qt (pr t.mask h n∈t.place.toList)with hm|hm
  ·obtain⟨i,e1,e2⟩:=T.slot_live hm
   by_cases hh:hashAt i=h
   ·refine⟨n,ak _,h1,λl a b=>absurd a (by omega),.inr ⟨i,e2,hh, ?_⟩⟩;rw[probe.go,hj,e1];dsimp only;rw[if_pos (beq_iff_eq.mpr hh),JC];rfl
   ·have hne:n≠N:=by rintro rfl;exact h3 hm
    obtain⟨m,a1,a2,a3,a4⟩:=ih (n+1) N (by omega) (by omega) h3;have e3:probe.go t hashAt h (f+1) (dE t.mask h n)=probe.go t hashAt h f (dE t.mask h (n+1)):=by rw[probe.go,hj,e1];dsimp only;rw[if_neg (by intro q;exact hh (beq_iff_eq.mp q)),JC];rfl
    refine⟨m,by omega,a2,λl b1 b2=>?_,by rw[e3];exact a4⟩
    rcases jm n l with q|q
    ·exact a3 l (by omega) b2
    ·have:l=n:=by omega
     subst this;refine⟨hm,λi' e'=>?_⟩;have:i'=i:=BC T.rise e' e2;subst this;exact hh
  ·refine⟨n,ak _,h1,λl a b=>absurd a (by omega),.inl ⟨hm, ?_⟩⟩;rw[probe.go,hj,T.slot_empty hm];dsimp only;rw[JD]
theorem TOk.stops {t:ie}{hs:List Int}(T:TOk t hs) (h:Int):∃N,N<10*turns t.mask/\pr t.mask h N∉t.place.toList:=by obtain⟨j,hj,hn⟩:=T.empty_there;obtain⟨N,hN,e⟩:=WB T.msk h hj;exact⟨N,hN,by rw[e];exact hn⟩
theorem TOk.before {t:ie}{hs:List Int}(T:TOk t hs) {h:Int}{i j m:Nat}(e1:hs[i]?=some h) (e2:t.place.toList[i]?=some j) (hm:pr t.mask h m∉t.place.toList):∃n,n<m/\pr t.mask h n=j:=by
 obtain⟨n,e,a⟩:=T.way i h j e1 e2;refine⟨n, ?_,e⟩
 rcases jm n m with q|q
 ·exact q
 ·exfalso
  rcases jm m n with r|r
  ·exact hm (a m r)
  ·have:m=n:=by omega
   subst this;exact hm (by rw[e];exact bx e2)
theorem JO {xs:Array Nat}{p j x:Nat}(hp:p<=xs.size):x∈(insertAt xs p j).toList↔x=j∨x∈xs.toList:=by
 rw[rX _ _ _ hp,br,ba];have e:x∈xs.toList↔x∈xs.toList.take p∨x∈xs.toList.drop p:=by rw[<-br,Bx]
 rw[e];constructor
 ·rintro (a|a|a)
  ·exact .inr (.inl a)
  ·exact .inl a
  ·exact .inr (.inr a)
 ·rintro (a|a|a)
  ·exact .inr (.inl a)
  ·exact .inl a
  ·exact .inr (.inr a)
theorem WD {t:ie}(hn:t.dummies=#[]) (j:Nat):t.put j=({ t with place:=insertAt t.place (below t.place j) j },below t.place j):=by unfold SetTable.put;dsimp only;rw[hn,JN];cases t;subst hn;rfl
theorem JP {α:Type}(l:List α) (x:α) (p i:Nat) (hp:p<=l.length):(l.take p++x::l.drop p)[i]?=if i<p then l[i]? else if i=p then some x else l[i - 1]?:=by
 have hl:(l.take p).length=p:=by rw[jo];omega
 by_cases h1:i<p
 ·rw[if_pos h1,dy (by omega),As h1]
 ·rw[if_neg h1,gg (by omega),hl]
  by_cases h2:i=p
  ·subst h2;rw[if_pos rfl,Nat.sub_self];rfl
  ·rw[if_neg h2];obtain⟨k,rfl⟩:∃k,i=p+(k+1):=⟨i - p - 1,by omega⟩
   rw[show p+(k+1) - p=k+1 by omega,sd,List.getElem?_drop,show p+(k+1) - 1=p+k by omega]
theorem TOk.put {t:ie}{hs:List Int}(T:TOk t hs) {h:Int}{n:Nat}(hn:pr t.mask h n∉t.place.toList) (hw:∀m,m<n->pr t.mask h m∈t.place.toList) (hr:hs.length+1<=t.mask):
  TOk { t with place:=insertAt t.place (below t.place (pr t.mask h n)) (pr t.mask h n) } (hs.take (below t.place (pr t.mask h n))++h::hs.drop (below t.place (pr t.mask h n))):=by
 have hb:=(rW (j:=pr t.mask h n) T.rise).2.2;have hs':t.place.toList.length=hs.length:=by rw[<-T.size];simp
 have hlen:(hs.take (below t.place (pr t.mask h n))++h::hs.drop (below t.place (pr t.mask h n))).length=hs.length+1:=by rw[bw,dv,jo,pb];have:=T.size;omega
 refine⟨?_,V2 T.rise hn,T.nod, ?_, ?_,T.msk, ?_,T.plain⟩
 ·show(insertAt t.place (below t.place (pr t.mask h n)) (pr t.mask h n)).size=_;rw[hlen];have:(insertAt t.place (below t.place (pr t.mask h n)) (pr t.mask h n)).toList.length=hs.length+1:=by rw[rX _ _ _ hb,bw,dv,jo,pb,hs'];have:=T.size;omega
  simpa using this
 ·intro j hj
  rcases(JO hb).mp hj with rfl|hj
  ·exact BD h n
  ·exact T.bnd j hj
 ·rw[hlen];exact hr
 ·intro i h' j e1 e2;have e2':(t.place.toList.take (below t.place (pr t.mask h n))++pr t.mask h n::t.place.toList.drop (below t.place (pr t.mask h n)))[i]?=some j:=by rw[<-rX _ _ _ hb];exact e2
  have hb2:below t.place (pr t.mask h n)<=hs.length:=by rw[<-T.size];exact hb
  rw[JP _ _ _ _ hb2]at e1;rw[JP _ _ _ _ (by rw[hs'];exact hb2)]at e2';have mono:∀x,x∈t.place.toList->x∈(insertAt t.place (below t.place (pr t.mask h n)) (pr t.mask h n)).toList:=λx hx=>(JO hb).mpr (.inr hx)
  by_cases q1:i<below t.place (pr t.mask h n)
  ·rw[if_pos q1]at e1 e2';exact(T.way _ _ _ e1 e2').mono mono
  ·rw[if_neg q1]at e1 e2'
   by_cases q2:i=below t.place (pr t.mask h n)
   ·rw[if_pos q2]at e1 e2'
    cases e1;cases e2'
    exact⟨n,rfl,λm hm=>mono _ (hw m hm)⟩
   ·rw[if_neg q2]at e1 e2';exact(T.way _ _ _ e1 e2').mono mono
def gJ (owner:Array (Option Nat)) (j:Nat):Prop:=(owner.getD j (some 0)).isSome=true
theorem JQ {P:Nat->Bool}{n:Nat}(h:(bf n).find? P=none):∀k,k<n->P k=false:=by intro k hk;have:=List.find?_eq_none.mp h k (bp.mpr hk);simpa using this
theorem WE {P:Nat->Bool}:∀{n k:Nat},(bf n).find? P=some k->k<n/\P k=true/\∀l,l<k->P l=false:=by
 intro n
 induction n with
 |zero=>intro k h;simp at h
 |succ n ih=>
  intro k h;rw[uc,List.find?_append]at h
  cases q:(bf n).find? P with
  |some k'=>rw[q]at h;simp at h;subst h;obtain⟨a,b,c⟩:=ih q;exact⟨by omega,b,c⟩
  |none=>
   rw[q]at h
   by_cases hp:P n=true
   ·simp[hp]at h;subst h;exact⟨by omega,hp,λl hl=>JQ q l hl⟩
   ·simp[hp]at h
theorem WG {mask:Nat}{h:Int}{L n:Nat}(e:dE mask h n=oE mask (bs mask h L).1 (bs mask h L).2):dE mask h (n+(runEnd mask (bs mask h L).1 - (bs mask h L).1)+1)=oE mask (bs mask h (L+1)).1 (bs mask h (L+1)).2:=by have r:=vQ mask h _ _ n e (runEnd mask (bs mask h L).1 - (bs mask h L).1) (ak _);rw[dE,r];unfold lN;rw[if_neg (by simp)];rfl
theorem WH {mask:Nat}{h:Int}{owner:Array (Option Nat)}:∀(fuel L n:Nat),dE mask h n=oE mask (bs mask h L).1 (bs mask h L).2->(∀k,k<n->gJ owner (pr mask h k))->
  (∃L',L<=L'/\L'<L+fuel/\¬ gJ owner (bs mask h L').1)->
  ∃n,layClean.free mask owner fuel (bs mask h L).1 (bs mask h L).2=some (pr mask h n)/\¬ gJ owner (pr mask h n)/\∀m,m<n->gJ owner (pr mask h m):=by
 intro fuel
 induction fuel with
 |zero=>rintro L n _ _ ⟨L',a,b,_⟩;omega
 |succ f ih=>
  rintro L n e hb ⟨L',a1,a2,a3⟩
  have r:=vQ mask h _ _ n e;have hle:(bs mask h L).1<=runEnd mask (bs mask h L).1:=by unfold runEnd;split <;> omega
  rw[layClean.free]
  cases q:(bf (runEnd mask (bs mask h L).1+1 - (bs mask h L).1)).find? λk=>(owner.getD ((bs mask h L).1+k) (some 0)).isNone with
  |some k=>
   obtain⟨b1,b2,b3⟩:=WE q;dsimp only;have ek:pr mask h (n+k)=(bs mask h L).1+k:=by unfold pr;rw[r k (by omega)]
   refine⟨n+k,by rw[ek], ?_,λm hm=>?_⟩
   ·rw[ek];unfold gJ;simp at b2;simp[b2]
   ·rcases jm m n with z|z
    ·exact hb m z
    ·obtain⟨l,rfl⟩:∃l,m=n+l:=⟨m - n,by omega⟩
     have el:pr mask h (n+l)=(bs mask h L).1+l:=by unfold pr;rw[r l (by omega)]
     rw[el];have:=b3 l (by omega);unfold gJ
     cases w:owner.getD ((bs mask h L).1+l) (some 0)with
     |none=>rw[w]at this;simp at this
     |some _=>rfl
  |none=>
   dsimp only;have b:=JQ q;have hocc:∀l,l<=runEnd mask (bs mask h L).1 - (bs mask h L).1->gJ owner ((bs mask h L).1+l):=by
    intro l hl;have:=b l (by omega);unfold gJ
    cases w:owner.getD ((bs mask h L).1+l) (some 0)with
    |none=>rw[w]at this;simp at this
    |some _=>rfl
   have hne:L≠L':=by
    rintro rfl
    exact a3 (by simpa using hocc 0 (by omega))
   refine ih (L+1) _ (WG e) (λk hk=>?_) ⟨L',by omega,by omega,a3⟩
   rcases jm k n with z|z
   ·exact hb k z
   ·obtain⟨l,rfl⟩:∃l,k=n+l:=⟨k - n,by omega⟩
    have el:pr mask h (n+l)=(bs mask h L).1+l:=by unfold pr;rw[r l (by omega)]
    rw[el];exact hocc l (by omega)
structure LOk (mask:Nat) (hs:List Int) (owner:Array (Option Nat)) (k:Nat):Prop where
 size:owner.size=mask+1
 own:∀(j i:Nat),owner[j]?=some (some i)->i<k/\∃h,hs[i]?=some h/\Way mask (gJ owner) h j
 all:∀(i:Nat),i<k->∃j:Nat,owner[j]?=some (some i)
 inj:∀(j j' i:Nat),owner[j]?=some (some i)->owner[j']?=some (some i)->j=j'
theorem rY {owner:Array (Option Nat)}{j:Nat}(hj:j<owner.size):gJ owner j↔∃i,owner[j]?=some (some i):=by
 unfold gJ;rw[gi hj];simp only[kj,hj,dif_pos,Array.getInternal_eq_getElem,Ao]
 cases owner[j] <;> simp
theorem LOk.free {mask k:Nat}{hs:List Int}{owner:Array (Option Nat)}(O:LOk mask hs owner k) (hk:k<=mask):∃j,j<=mask/\¬ gJ owner j:=by
 rcases qt (∃j,j<=mask/\¬ gJ owner j)with h|h
 ·exact h
 ·exfalso
  have h1:∀j,j<=mask->∃i,owner[j]?=some (some i):=λj hj=>by
   rcases qt (gJ owner j)with q|q
   ·exact(rY (by rw[O.size];omega)).mp q
   ·exact absurd ⟨j,hj,q⟩ h
  let f:Nat->Nat:=λj=>match owner[j]? with|some (some i)=>i|_=>0
  have hf:∀j,j<=mask->owner[j]?=some (some (f j)):=λj hj=>by obtain⟨i,e⟩:=h1 j hj;show owner[j]?=some (some (match owner[j]? with|some (some i)=>i|_=>0));rw[e]
  have nd:((bf (mask+1)).map f).Nodup:=by rw[ze];rw[wk];refine vz ?_ (sh (n:=mask+1));intro a b ha hb hab e;have ea:=hf a (by have:=bp.mp ha;omega);have eb:=hf b (by have:=bp.mp hb;omega);rw[e]at ea;exact hab (O.inj _ _ _ ea eb)
  have sub:∀x,x∈(bf (mask+1)).map f->x∈bf k:=by intro x hx;obtain⟨j,hj,rfl⟩:=df.mp hx;exact bp.mpr (O.own j _ (hf j (by have:=bp.mp hj;omega))).1
  have:=nd.length_le_of_subset sub;simp at this;omega
theorem LOk.step {mask k:Nat}{hs:List Int}{owner:Array (Option Nat)}{h:Int}(g:kR mask) (O:LOk mask hs owner k) (hk:k<=mask) (hh:hs[k]?=some h):
  ∃j,layClean.free mask owner (turns mask) (bits h % (mask+1)) (bits h)=some j/\LOk mask hs (owner.setIfInBounds j (some k)) (k+1):=by
 obtain⟨j0,hj0,hn0⟩:=O.free hk;obtain⟨L,hL,eL⟩:=JK g h hj0;obtain⟨n,e,hn,hw⟩:=WH (mask:=mask) (h:=h) (owner:=owner) (turns mask) 0 0 rfl (λk hk=>absurd hk (by omega)) ⟨L,by omega,by unfold turns;omega,by rw[eL];exact hn0⟩;refine⟨pr mask h n,e, ?_⟩;have hjl:pr mask h n<owner.size:=by rw[O.size];have:=BD (mask:=mask) h n;omega
 have hjn:owner[pr mask h n]?=some none:=by
  rw[gi hjl];have:¬ ∃i,owner[pr mask h n]?=some (some i):=λq=>hn ((rY hjl).mpr q)
  cases w:owner[pr mask h n]with
  |none=>rfl
  |some i=>exact absurd ⟨i,by rw[gi hjl,w]⟩ this
 have get:∀j,(owner.setIfInBounds (pr mask h n) (some k))[j]?=if pr mask h n=j then some (some k)else owner[j]?:=by
  intro j;rw[Array.getElem?_setIfInBounds]
  by_cases q:pr mask h n=j
  ·rw[if_pos q,if_pos q,if_pos hjl]
  ·rw[if_neg q,if_neg q]
 have hsz:(owner.setIfInBounds (pr mask h n) (some k)).size=mask+1:=by rw[Array.size_setIfInBounds];exact O.size
 have occm:∀x,gJ owner x->gJ (owner.setIfInBounds (pr mask h n) (some k)) x:=by
  intro x hx
  by_cases hl:x<owner.size
  ·obtain⟨i,e⟩:=(rY hl).mp hx;refine(rY (by rw[hsz,<-O.size];exact hl)).mpr ?_;rw[get]
   by_cases q:pr mask h n=x
   ·exact⟨k,if_pos q⟩
   ·exact⟨i,by rw[if_neg q];exact e⟩
  ·unfold gJ;simp[kj,hl]
 refine⟨hsz, ?_, ?_, ?_⟩
 ·intro j i e;rw[get]at e
  by_cases q:pr mask h n=j
  ·rw[if_pos q]at e;cases e;exact⟨by omega,h,hh,n,q,λm hm=>occm _ (hw m hm)⟩
  ·rw[if_neg q]at e;obtain⟨a,h',b,c⟩:=O.own j i e;exact⟨by omega,h',b,c.mono occm⟩
 ·intro i hi
  by_cases q:i=k
  ·subst q;exact⟨pr mask h n,by rw[get,if_pos rfl]⟩
  ·obtain⟨j,e⟩:=O.all i (by omega);refine⟨j, ?_⟩;rw[get]
   by_cases z:pr mask h n=j
   ·rw[<-z,hjn]at e;cases e
   ·rw[if_neg z];exact e
 ·intro j j' i e e';rw[get]at e e'
  by_cases z:pr mask h n=j
  ·rw[if_pos z]at e;cases e
   by_cases z':pr mask h n=j'
   ·exact z.symm.trans z'
   ·rw[if_neg z']at e';have:=(O.own j' _ e').1;omega
  ·rw[if_neg z]at e
   by_cases z':pr mask h n=j'
   ·rw[if_pos z']at e';cases e';have:=(O.own j _ e).1;omega
   ·rw[if_neg z']at e';exact O.inj _ _ _ e e'
theorem JR {mask:Nat}{hs:List Int}(g:kR mask) (hl:hs.length<=mask):∀(l pre:List Int) (owner:Array (Option Nat)),hs=pre++l->LOk mask hs owner pre.length->
  ∃owner',l.foldl (λ(acc:Option (Array (Option Nat)×Nat)) h=>do
    let (owner,k) <-acc
    let j <-layClean.free mask owner (turns mask) (bits h % (mask+1)) (bits h)
    pure (owner.setIfInBounds j (some k),k+1)) (some (owner,pre.length))=some (owner',hs.length)/\LOk mask hs owner' hs.length
 | [],pre,owner,e,O=>by rw[kr]at e;subst e;exact⟨owner,rfl,O⟩
 |h::l,pre,owner,e,O=>by
  have hh:hs[pre.length]?=some h:=by rw[e];simp
  obtain⟨j,e1,O1⟩:=O.step g (by rw[e]at hl;simp at hl;omega) hh;have e2:hs=(pre++[h])++l:=by rw[e];simp
  have hlen:(pre++[h]).length=pre.length+1:=by simp
  obtain⟨o',a,b⟩:=JR g hl l (pre++[h]) _ e2 (by rw[hlen];exact O1);refine⟨o', ?_,b⟩;rw[List.foldl_cons];rw[<-a,hlen]
  congr 1
  show(do let j <-layClean.free mask owner (turns mask) (bits h % (mask+1)) (bits h);pure (owner.setIfInBounds j (some pre.length),pre.length+1))=_;rw[e1];rfl
theorem WI {mask:Nat}{hs:Array Int}(g:kR mask) (hl:hs.size<=mask):∃owner,layClean mask hs=some owner/\LOk mask hs.toList owner hs.size:=by
 have O0:LOk mask hs.toList (Array.replicate (mask+1) none) 0:=by
  refine⟨by simp, ?_,λi hi=>absurd hi (by omega), ?_⟩
  ·intro j i e;rw[Am]at e
   split at e <;> simp at e
  ·intro j j' i e;rw[Am]at e
   split at e <;> simp at e
 obtain⟨o',a,b⟩:=JR g (by simpa using hl) hs.toList [] _ rfl O0;refine⟨o', ?_,by simpa using b⟩;unfold layClean;rw[<-Array.foldl_toList];simp only[pj]at a;rw[a];rfl
theorem Way.mono' {mask:Nat}{occ occ':Nat->Prop}{h:Int}{j:Nat}(w:Way mask occ h j) (k:∀x,x<=mask->occ x->occ' x):Way mask occ' h j:=let ⟨n,e,a⟩:=w;⟨n,e,λm hm=>k _ (BD h m) (a m hm)⟩
theorem JS (g:Nat->Option Nat):∀(l:List Nat),l.Pairwise (·<·)->((l.filterMap λj=>(g j).map ((j,·):Nat->Nat×Nat)).map fh).Pairwise (·<·)
 | [],_=>by simp
 |j::l,h=>by
  rw[gj]at h;have ih:=JS g l h.2
  cases e:g j with
  |none=>simpa[cb,e]using ih
  |some i=>
   simp only[cb,e,Option.map_some,dw,gj];refine⟨?_,ih⟩;intro a ha;obtain⟨⟨x,y⟩,hp,rfl⟩:=df.mp ha;obtain⟨z,hz,ez⟩:=jt.mp hp
   cases q:g z with
   |none=>rw[q]at ez;simp at ez
   |some i'=>rw[q]at ez;simp at ez;have:=h.1 z hz;omega
theorem WJ {mask finger moves:Nat}{led:Bool}{hs:Array Int}(g:kR mask) (hl:hs.size<=mask):
  ∃t order,laid mask finger moves led true hs=some (t,order)/\t.mask=mask/\t.led=led/\order.toList.Perm (bf hs.size)/\TOk t (order.toList.filterMap (hs.toList[·]?)):=by
 obtain⟨owner,e,O⟩:=WI g hl;generalize hlive:(bf (mask+1)).filterMap (λj=>(owner.getD j none).map ((j,·):Nat->Nat×Nat))=live;have hmem:∀j i,(j,i)∈live↔owner[j]?=some (some i):=by
  intro j i;rw[<-hlive,jt];constructor
  ·rintro ⟨x,hx,ex⟩
   have hx':x<owner.size:=by rw[O.size];exact bp.mp hx
   have eg:owner.getD x none=owner[x]:=by simp[kj,hx']
   rw[eg]at ex
   cases q:owner[x]with
   |none=>rw[q]at ex;simp at ex
   |some i'=>rw[q]at ex;simp at ex;obtain⟨rfl,rfl⟩:=ex;rw[gi hx',q]
  ·intro h;obtain⟨hx',q⟩:=du.mp h;refine⟨j,bp.mpr (by rw[<-O.size];exact hx'), ?_⟩;have eg:owner.getD j none=owner[j]:=by simp[kj,hx']
   rw[eg,q];rfl
 have hrise:(live.map fh).Pairwise (·<·):=by rw[<-hlive];exact JS _ _ (List.pairwise_lt_range)
 have hperm:(live.map qi).Perm (bf hs.size):=by
  refine(qh ?_ sh).mpr ?_
  ·rw[ze,wk];rw[wk]at hrise;refine vz ?_ hrise
   rintro ⟨a,i⟩ ⟨b,i'⟩ ha hb hab e
   have e':i=i':=e;subst e';have:=O.inj a b i ((hmem _ _).mp ha) ((hmem _ _).mp hb);have hab':a<b:=hab;omega
  ·intro i;rw[bp];constructor
   ·intro h;obtain⟨⟨j,i'⟩,hp,rfl⟩:=df.mp h;exact(O.own j i' ((hmem _ _).mp hp)).1
   ·intro h;obtain⟨j,ej⟩:=O.all i h;exact df.mpr ⟨(j,i),(hmem _ _).mpr ej,rfl⟩
 have hlen:live.length=hs.size:=by simpa using hperm.length_eq
 have hget:∀(i:Nat),((live.map qi).filterMap (hs.toList[·]?))[i]?=(live[i]?).bind λp=>hs.toList[p.2]?:=by
  have gen:∀(l:List (Nat×Nat)),(∀p∈l,p.2<hs.toList.length)->∀(i:Nat),((l.map qi).filterMap (hs.toList[·]?))[i]?=(l[i]?).bind λp=>hs.toList[p.2]?:=by
   intro l
   induction l with
   |nil=>intro _ i;simp
   |cons p l ih=>
    intro hp i;have h1:=hp p (bh ..);have e1:hs.toList[p.2]?=some hs.toList[p.2]:=ar h1;rw[dw,cb,e1]
    cases i with
    |zero=>simp[e1]
    |succ i=>simp only[sd];exact ih (λq hq=>hp q (ay _ hq)) i
  intro i;refine gen live ?_ i
  rintro ⟨j,k⟩ hp
  have:=(O.own j k ((hmem _ _).mp hp)).1;simpa using this
 have hlen':((live.map qi).filterMap (hs.toList[·]?)).length=hs.size:=by
  have gen:∀(l:List (Nat×Nat)),(∀p∈l,p.2<hs.toList.length)->((l.map qi).filterMap (hs.toList[·]?)).length=l.length:=by
   intro l
   induction l with
   |nil=>intro _;rfl
   |cons p l ih=>intro hp;have h1:=hp p (bh ..);have e1:hs.toList[p.2]?=some hs.toList[p.2]:=ar h1;rw[dw,cb,e1];show(_::_).length=_;rw[dv,dv,ih (λq hq=>hp q (ay _ hq))]
  rw[gen live ?_,hlen]
  rintro ⟨j,k⟩ hp
  have:=(O.own j k ((hmem _ _).mp hp)).1;simpa using this
 refine⟨{ mask,place:=(live.map fh).toArray,dummies:=#[],finger,led,moves,plain:=true },(live.map qi).toArray, ?_,rfl,rfl,hperm, ?_⟩
 ·unfold laid;rw[e];show some _=some _;rw[hlive]
 ·refine⟨(by show(live.map fh).toArray.size=((live.map qi).filterMap (hs.toList[·]?)).length;rw[hlen',av,bo,hlen]),hrise,rfl, ?_,by rw[hlen'];exact hl,g, ?_,rfl⟩
  ·intro j hj;obtain⟨⟨x,y⟩,hp,rfl⟩:=df.mp (show j∈live.map fh from hj);have:=(hmem _ _).mp hp;obtain⟨hx',_⟩:=du.mp this;have:=O.size;show x<=mask;omega
  ·intro i h j e1 e2;have e1':((live.map qi).filterMap (hs.toList[·]?))[i]?=some h:=e1;rw[hget]at e1';have e2':(live.map fh)[i]?=some j:=e2;rw[di]at e2'
   cases q:live[i]? with
   |none=>rw[q]at e2';cases e2'
   |some p=>
    obtain⟨x,k⟩:=p;rw[q]at e1' e2';simp at e1' e2';subst e2';have hp:=bx q;obtain⟨a,h',b,c⟩:=O.own x k ((hmem _ _).mp hp);have hh:h'=h:=by
     have:hs.toList[k]?=some h:=by simpa using e1'
     rw[b]at this;exact cx this
    subst hh;refine c.mono' λy hy ho=>?_;obtain⟨i',ei⟩:=(rY (by rw[O.size];omega)).mp ho;exact df.mpr ⟨(y,i'),(hmem _ _).mpr ei,rfl⟩
end SM
namespace SR
open PySem PySem.Spec PyProof.Rows SM
section
variable{prog:bg}{w:cn}
def hk (prog:bg) (w:cn) (k:List Int):Int:=tupleKeyHash (intKind prog w) k
abbrev KB:=List (List Int×ai)
def gE (prog:bg) (w:cn) (kb:KB):List (Int×af):=kb.map λp=>(hk prog w p.1,dh p.2)
structure Parts (prog:bg) (w:cn) (h:cp) (a:ai) (kb:KB) (o:Obj) (es:Array (Int×af)) (ep:Nat) (t:ie):Prop where
 obj:h.get? a=some o
 ex:o.ExactSet
 data:o.data=.set es ep t
 es:es.toList=gE prog w kb
 tab:TOk t (kb.map λp=>hk prog w p.1)
 nd:(kb.map fh).Nodup
 nf:kb.length*5<t.mask*3
 led:t.led=!w.params.followText "set-order"
def kD (prog:bg) (w:cn) (h:cp) (a:ai) (kb:KB):Prop:=∃o es ep t,Parts prog w h a kb o es ep t
def vS (prog:bg) (w:cn) (h:cp) (kb:KB):Prop:=∀p∈kb,gm (intKind prog w) h p.1 p.2
variable{h:cp}{a:ai}{kb:KB}{o:Obj}{es:Array (Int×af)}{ep:Nat}{t:ie}
theorem Parts.size (P:Parts prog w h a kb o es ep t):es.size=kb.length:=by have:=congrArg uk P.es;simpa[gE]using this
theorem Parts.fits (P:Parts prog w h a kb o es ep t):t.fits es.size=true:=by have:=P.tab.fits;rw[bo]at this;rw[P.size];exact this
theorem Parts.at_ (P:Parts prog w h a kb o es ep t) {i:Nat}{p:List Int×ai}(e:kb[i]?=some p):es[i]?=some (hk prog w p.1,.ref p.2):=by
 have:es.toList[i]?=some (hk prog w p.1,dh p.2):=by rw[P.es];simp[gE,e]
 simpa using this
theorem Parts.hash_at (P:Parts prog w h a kb o es ep t) {i:Nat}{p:List Int×ai}(e:kb[i]?=some p):(es[i]?.map (·.1)).getD 0=hk prog w p.1:=by rw[P.at_ e];rfl
end
section
variable{prog:bg}{w:cn}{A:cg}{E:af->ag->Prop}{s:ag}{a:ai}{kb:KB}{o:Obj}{es:Array (Int×af)}{ep:Nat}{t:ie}
theorem JT {ks:List Int}{b:ai}{Q:Bool->ag->Prop}(hb:gm (intKind prog w) s.heap ks b) (h:Q false s):wpAny (model prog w) A (ofAClassStatement 8 (.ref b)) Q E s:=by
 obtain⟨o,items,n,ho,hc,hd,hi⟩:=hb;unfold ofAClassStatement;refine aa (lh (T := "tuple") ⟨o,ho,hc⟩ ?_);show wpAny _ _ ((if(("tuple" : String) == "tuple")=true then(pure true:Sem Bool)else isSubtype (.type "tuple") (.type "tuple")) >>= _) _ _ s;rw[if_pos (by decide)];refine aa (ah ?_);simp only[my,bj,if_false];refine aa (gr ho hd ?_);refine aa ?_;show wpAny _ _ (forIn items _ _) _ _ s;rw[<-qg];refine ui _ (λrest r s'=>r.1=none/\s'=s/\∀v∈rest,carriedByValue v=true) _ ?_ ?_ _ _ ⟨rfl,rfl,hi.byValue⟩
 ·rintro v rest r s' ⟨hr,rfl,hall⟩
  have hv:=hall v bh;have e:ofAClassStatement 7 v=pure false:=by
   cases v with
   |ref a=>simp[carriedByValue]at hv
   |_=>rfl
  rw[e];refine aa (ah ?_);simp only[bj,if_false];exact ah ⟨rfl,rfl,λu hu'=>hall u (ay _ hu')⟩
 ·rintro ⟨r1,r2⟩ s' ⟨hr,rfl,_⟩
  simp only at hr;subst hr;exact ah h
theorem WK {k:List Int}{b:ai}{Q:Bool->ag->Prop}(hb:gm (intKind prog w) s.heap k b):∀(l:List af),(∀y∈l,∃k' b',y=.ref b'/\gm (intKind prog w) s.heap k' b')->Q false s->
  wpAny (model prog w) A (searchCouldBeSeen (.ref b) l) Q E s:=by
 intro l hl h;unfold searchCouldBeSeen;refine aa ?_;refine ui _ (λrest r s'=>r.1=none/\s'=s/\∀y∈rest,∃k' b',y=.ref b'/\gm (intKind prog w) s.heap k' b') _ ?_ ?_ _ _ ⟨rfl,rfl,hl⟩
 ·rintro y rest r s' ⟨hr,rfl,hall⟩
  obtain⟨k',b',rfl,hb'⟩:=hall y bh;have fin:r.1=none/\s'=s'/\∀y∈rest,∃k' b',y=.ref b'/\gm (intKind prog w) s'.heap k' b':=⟨hr,rfl,λu hu=>hall u (ay _ hu)⟩
  dsimp only
  split
  ·exact ah ⟨rfl,rfl,fin.2.2⟩
  ·refine aa (wpAny_eqIsQuiet_tuple hb ?_);simp only[my,bj,if_false];refine aa (wpAny_eqIsQuiet_tuple hb' ?_);simp only[my,bj,if_false];refine aa (JT hb ?_);simp only[bj,if_false];refine aa (JT hb' ?_);simp only[bj,if_false];exact ah ⟨rfl,rfl,fin.2.2⟩
 ·rintro ⟨r1,r2⟩ s' ⟨hr,rfl,_⟩
  simp only at hr;subst hr;exact ah h
end
end SR
namespace SR
open PySem PySem.Spec PyProof.Rows SM
section
variable{prog:bg}{w:cn}{A:cg}{E:af->ag->Prop}{s:ag}{a:ai}{kb:KB}{o:Obj}{es:Array (Int×af)}{ep:Nat}{t:ie}{k:List Int}{b:ai}
theorem mem_keys {kb:KB}{k:List Int}:k∈kb.map fh↔∃(i:Nat) (b:ai),kb[i]?=some (k,b):=by
 constructor
 ·intro h;obtain⟨⟨k',b⟩,hp,rfl⟩:=df.mp h;obtain⟨i,hi,e⟩:=jh hp;exact⟨i,b,by rw[ar hi,e]⟩
 ·rintro ⟨i,b,e⟩
  exact df.mpr ⟨(k,b),bx e,rfl⟩
theorem WL (P:Parts prog w s.heap a kb o es ep t) (T:vS prog w s.heap kb) (hb:gm (intKind prog w) s.heap k b) (hu:A.units<cLine) {Q:SetFound->ag->Prop}
  (hin:k∈kb.map fh->Q (.there none) s)
  (hout:k∉kb.map fh->∀n,pr t.mask (hk prog w k) n∉t.place.toList->(∀m,m<n->pr t.mask (hk prog w k) m∈t.place.toList)->Q (.free (pr t.mask (hk prog w k) n) false) s)
  (N:Nat) (hN:N<10*tm t.mask) (hNe:pr t.mask (hk prog w k) N∉t.place.toList):
  ∀(fuel n:Nat) (stand:Option SetTable.Probe),stand.getD (t.probeStart (hk prog w k))=dE t.mask (hk prog w k) n->n<=N->N - n<fuel->
   (∀l,l<n->pr t.mask (hk prog w k) l∈t.place.toList/\∀(i:Nat) p,t.place.toList[i]?=some (pr t.mask (hk prog w k) l)->kb[i]?=some p->p.1≠k)->
   wpAny (model prog w) A (setSearchFrom a (.ref b) (hk prog w k) true fuel stand) Q E s:=by
 intro fuel
 induction fuel with
 |zero=>intro n stand _ _ h2;omega
 |succ f ih=>
  intro n stand hst h1 h2 hseen;have hlen:t.place.toList.length=kb.length:=by have:=P.tab.size;simpa using this
  have kbat:∀{i j:Nat},t.place.toList[i]?=some j->∃p,kb[i]?=some p:=λ{i j} e=>by obtain⟨hi,_⟩:=az.mp e;exact⟨kb[i]'(by omega),ar (by omega)⟩
  unfold setSearchFrom;refine aa (jk P.obj P.data P.fits ?_);dsimp only;rw[P.tab.gave];simp only[bj,if_false];obtain⟨m,a1,a2,a3,a4⟩:=WC P.tab (λi=>(es[i]?.map (·.1)).getD 0) (hk prog w k) (10*tm t.mask) n N h1 (by omega) hNe;have pass:∀l,l<m->pr t.mask (hk prog w k) l∈t.place.toList/\∀(i:Nat) p,t.place.toList[i]?=some (pr t.mask (hk prog w k) l)->kb[i]?=some p->p.1≠k:=by
   intro l hl
   rcases jm l n with q|q
   ·exact hseen l q
   ·obtain⟨b1,b2⟩:=a3 l q hl;refine⟨b1,λi p e1 e2 e3=>b2 i e1 ?_⟩;show(es[i]?.map (·.1)).getD 0=_;rw[P.hash_at e2,e3]
  rcases a4 with⟨b1,b2⟩|⟨i,b1,b2,b3⟩
  ·have e:∀g:Nat->Int,g=(λi=>(es[i]?.map (·.1)).getD 0)->t.probe g (hk prog w k) (stand.getD (t.probeStart (hk prog w k)))=some (.empty (pr t.mask (hk prog w k) m) none):=by rintro g rfl;rw[hst];exact b2
   rw[e]
   rotate_left
   ·rfl
   refine ah (hout ?_ m b1 λl hl=>(pass l hl).1);intro hmem;obtain⟨i,b',ei⟩:=mem_keys.mp hmem;obtain⟨j,ej⟩:∃j,t.place.toList[i]?=some j:=by obtain⟨hi,_⟩:=az.mp ei;exact⟨_,ar (by omega)⟩
   obtain⟨n',hn',e'⟩:=P.tab.before (i:=i) (h:=hk prog w k) (by rw[di,ei];rfl) ej b1;exact(pass n' hn').2 i (k,b') (by rw[e'];exact ej) ei rfl
  ·have e:∀g:Nat->Int,g=(λi=>(es[i]?.map (·.1)).getD 0)->t.probe g (hk prog w k) (stand.getD (t.probeStart (hk prog w k)))=some (.candidate (pr t.mask (hk prog w k) m) i (dE t.mask (hk prog w k) (m+1))):=by rintro g rfl;rw[hst];exact b3
   rw[e]
   rotate_left
   ·rfl
   dsimp only;obtain⟨p,ep'⟩:=kbat b1;have hp:=T p (bx ep');have es1:t.sameMemory t.moves t.mask=some true:=by unfold SetTable.sameMemory;simp
   obtain⟨i2,e2,e3⟩:=P.tab.slot_live (bx b1);have hi2:i2=i:=BC P.tab.rise e3 b1;subst hi2;have nxt:¬ p.1=k->wpAny (model prog w) A (setSearchFrom a (.ref b) (hk prog w k) true f (some (dE t.mask (hk prog w k) (m+1)))) Q E s:=by
    intro hpk;have hmN:m≠N:=by rintro rfl;exact hNe (bx b1)
    refine ih (m+1) _ rfl (by omega) (by omega) ?_
    ·intro l hl
     rcases jm l m with q|q
     ·exact pass l q
     ·have:l=m:=by omega
      subst this;refine⟨bx b1,λi' p' z1 z2=>?_⟩;have:i'=i2:=BC P.tab.rise z1 b1;subst this;rw[ep']at z2;cases z2;exact hpk
   cases hl:t.led
   case' true=>simp only[my,bj,if_false]
   case' false=>
    simp only[zf,if_true];refine aa (WK hb _ ?_ ?_)
    ·intro y hy;obtain⟨e1,he1,rfl⟩:=df.mp hy;have he2:=(Array.mem_filter.mp (By.mp he1)).1;have he3:e1∈gE prog w kb:=by rw[<-P.es];exact By.mpr he2
     obtain⟨q,hq,rfl⟩:=df.mp he3;exact⟨q.1,q.2,rfl,T q hq⟩
    simp only[bj,if_false]
   all_goals
    rw[P.at_ ep'];dsimp only;refine aa (fg (wpAny_eqBool_tuple hu hp hb ?_));refine aa (jk P.obj P.data P.fits ?_);dsimp only
    by_cases hpk:p.1=k
    ·rw[decide_eq_true hpk];simp only[Bool.true_and,if_true];exact ah (hin (mem_keys.mpr ⟨i2,p.2,by rw[ep',<-hpk]⟩))
    ·rw[decide_eq_false hpk];simp only[um,bj,if_false];rw[es1];dsimp only;simp only[if_true];rw[e2];dsimp only;rw[P.at_ ep'];dsimp only;refine aa (wpAny_isSame_ref_self ?_);refine aa (ah ?_);simp only[if_true];exact nxt hpk
theorem WM (P:Parts prog w s.heap a kb o es ep t) (T:vS prog w s.heap kb) (hb:gm (intKind prog w) s.heap k b) (hu:A.units<cLine) {Q:SetFound->ag->Prop}
  (hin:k∈kb.map fh->Q (.there none) s)
  (hout:k∉kb.map fh->∀n,pr t.mask (hk prog w k) n∉t.place.toList->(∀m,m<n->pr t.mask (hk prog w k) m∈t.place.toList)->Q (.free (pr t.mask (hk prog w k) n) false) s):
  wpAny (model prog w) A (setSearch a (.ref b) (hk prog w k) true) Q E s:=by
 obtain⟨N,hN,hNe⟩:=P.tab.stops (hk prog w k);have hm:10*tm t.mask<=1420:=by
  unfold tm
  rcases P.tab.msk with e|e|e <;> rw[e] <;> decide
 exact WL P T hb hu hin hout N hN hNe 100000 0 none rfl (jc _) (by omega) λl hl=>absurd hl (by omega)
theorem WN {Q:Bool->ag->Prop}(hb:gm (intKind prog w) s.heap k b) (h:Q true s):wpAny (model prog w) A (hashByValue 8 (.ref b)) Q E s:=by
 have hT:=hb.typeIs;obtain⟨o,items,n,ho,hc,hd,hi⟩:=hb;unfold hashByValue;refine aa (uz hT F.slot_tuple_hash.lookup ?_);dsimp only;refine aa (gr ho hd ?_);refine aa ?_;show wpAny _ _ (forIn items _ _) _ _ s;rw[<-qg];have hv:∀v∈items.toList,∃i t,v=.int i t:=by
  clear hd ho
  generalize items.toList=l at hi
  induction hi with
  |nil=>intro v h;cases h
  |cons h1 _ ih=>
   intro v hv
   rcases ba.mp hv with rfl|hv
   ·obtain⟨t,e⟩:=nv h1;exact⟨_,t,e⟩
   ·exact ih v hv
 refine ui _ (λrest r s'=>r.1=none/\s'=s/\∀v∈rest,∃i t,v=.int i t) _ ?_ ?_ _ _ ⟨rfl,rfl,hv⟩
 ·rintro v rest r s' ⟨hr,rfl,hall⟩
  obtain⟨i,t,rfl⟩:=hall v bh;refine aa (ah ?_);simp only[my,bj,if_false];exact ah ⟨rfl,rfl,λu hu'=>hall u (ay _ hu')⟩
 ·rintro ⟨r1,r2⟩ s' ⟨hr,rfl,_⟩
  simp only at hr;subst hr;exact ah h
end
end SR
namespace SR
open PySem PySem.Spec PyProof.Rows SM
section
variable{prog:bg}{w:cn}{A:cg}{E:af->ag->Prop}{s:ag}{a:ai}{kb:KB}{o:Obj}{es:Array (Int×af)}{ep:Nat}{t:ie}{k:List Int}{b:ai}
theorem WO (p:Nat):(gE prog w kb).take p++(hk prog w k,dh b)::(gE prog w kb).drop p=gE prog w (kb.take p++(k,b)::kb.drop p):=by simp[gE,rf,rh]
theorem WQ (p:Nat):(kb.map λq=>hk prog w q.1).take p++hk prog w k::(kb.map λq=>hk prog w q.1).drop p=(kb.take p++(k,b)::kb.drop p).map λq=>hk prog w q.1:=by simp[rf,rh]
theorem vT {α:Type}(l:List α) (x:α) (p:Nat):(l.take p++x::l.drop p).Perm (x::l):=by have h:(l.take p++x::l.drop p).Perm (x::(l.take p++l.drop p)):=List.perm_middle;rwa [Bx]at h
theorem BE {p:Nat}(h:(kb.map fh).Nodup) (hk:k∉kb.map fh):((kb.take p++(k,b)::kb.drop p).map fh).Nodup:=by have q:=(vT kb (k,b) p).map fh;exact q.nodup_iff.mpr (ku.mpr ⟨hk,h⟩)
theorem JU {es':Array (Int×af)}{t':ie}(hd:o.data=.set es ep t) (ho:s.heap.get? a=some o):(s.heap.update a (Obj.putSet es' t')).get? a=some { o with data:=.set es' (ep+1) t' }:=by have:=ow (Obj.putSet es' t') ho (by rw[putSet_of es' t' hd];rfl);rw[putSet_of es' t' hd]at this;exact this
theorem JV {α:Type}:∀(l:List α),(bf l.length).filterMap (λi=>l[i]?)=l
 | []=>rfl
 |x::l=>by
  rw[dv,Bi,cb];simp only[List.getElem?_cons_zero,List.filterMap_map]
  congr 1
  exact JV l
theorem JW {kb:KB}{mask' wanted:Nat}{Q:Unit->ag->Prop}(ho:s.heap.get? a=some o) (hex:o.ExactSet) (hd:o.data=.set es ep t) (hes:es.toList=gE prog w kb) (hT:TOk t (kb.map λp=>hk prog w p.1)) (nd:(kb.map fh).Nodup) (hled:t.led=!w.params.followText "set-order")
  (hw:Bk wanted - 1=mask') (hg:kR mask') (hl:kb.length*5<mask'*3) (hz:Bk wanted<=ck)
  (h:∀h' kb',ig a s.heap h'->kD prog w h' a kb'->kb'.Perm kb->Q () { s with heap:=h' }):
  wpAny (model prog w) A (setRelay a wanted) Q E s:=by
 have hsz:es.size=kb.length:=by have:=congrArg uk hes;simpa[gE]using this
 have hfit:t.fits es.size=true:=by have:=hT.fits;rw[bo]at this;rw[hsz];exact this
 have eh:(es.map (·.1)).toList=kb.map λp=>hk prog w p.1:=by rw[Array.toList_map,hes];simp[gE]
 have hs':(es.map (·.1)).size=kb.length:=by simp[hsz]
 unfold setRelay;refine aa (jk ho hd hfit ?_);dsimp only;rw[if_neg (by omega)];obtain⟨t',order,e1,e2,e3,e4,e5⟩:=WJ (mask:=mask') (finger:=t.finger) (moves:=t.movedTo mask') (led:=t.led) (hs:=es.map (·.1)) hg (by rw[hs'];omega);have er:t.relaid (es.map (·.1)) wanted=some (t',order):=by unfold SetTable.relaid;rw[hw,hT.plain];exact e1
 rw[er];have hlt:∀i∈order.toList,i<kb.length:=λi hi=>by have:=bp.mp (e4.mem_iff.mp hi);omega
 have hfm:∀(l:List Nat),(∀i∈l,i<kb.length)->l.filterMap (λi=>es[i]?)=gE prog w (l.filterMap λi=>kb[i]?):=by
  intro l hl
  induction l with
  |nil=>rfl
  |cons i l ih=>
   have hi:=hl i bh;have q1:kb[i]?=some kb[i]:=ar hi;have q2:es[i]?=some (hk prog w kb[i].1,dh kb[i].2):=by
    have:es.toList[i]?=some (hk prog w kb[i].1,dh kb[i].2):=by rw[hes];simp[gE,q1]
    simpa using this
   rw[cb,cb,q1,q2];simp only;rw[ih λj hj=>hl j (ay _ hj)];rfl
 have hkey:∀(l:List Nat),(∀i∈l,i<kb.length)->l.filterMap (λi=>(es.map (·.1)).toList[i]?)=(l.filterMap λi=>kb[i]?).map λp=>hk prog w p.1:=by
  intro l hl
  induction l with
  |nil=>rfl
  |cons i l ih=>
   have hi:=hl i bh;have q1:kb[i]?=some kb[i]:=ar hi;have q2:(es.map (·.1)).toList[i]?=some (hk prog w kb[i].1):=by rw[eh];simp[q1]
   rw[cb,cb,q1,q2];simp only;rw[ih λj hj=>hl j (ay _ hj)];rfl
 have hperm:(order.toList.filterMap λi=>kb[i]?).Perm kb:=by have q:=e4.filterMap (λi=>kb[i]?);rw[hs']at q;exact q.trans (List.Perm.of_eq (JV kb))
 have hes2:(order.filterMap (es[·]?)).toList=gE prog w (order.toList.filterMap λi=>kb[i]?):=by rw[Array.toList_filterMap];exact hfm _ hlt
 have hsz2:(order.filterMap (es[·]?)).size=es.size:=by have:=congrArg uk hes2;rw[mq]at this;rw[this,hsz];simp[gE,hperm.length_eq]
 show wpAny _ _ ((if((order.filterMap (es[·]?)).size != es.size)=true then(unsupported "internal:set-table-lost-an-element" >>= λ_=>pure (order.filterMap (es[·]?),t'))else pure (order.filterMap (es[·]?),t')) >>= _) _ _ s;rw[if_neg (by rw[hsz2];simp)];refine aa (ah ?_);dsimp only;refine wpAny_storeSet_of ho hd ?_ (by rw[hsz2,hsz];rcases hg with q|q|q <;> (rw[q]at hl;rw[ij];omega));refine h _ (order.toList.filterMap λi=>kb[i]?) (ou ..) ⟨_,_,_,t',JU hd ho,hex,rfl,hes2, ?_, ?_, ?_,e3.trans hled⟩ hperm
 ·rw[<-hkey _ hlt];exact e5
 ·exact(hperm.map fh).nodup_iff.mpr nd
 ·rw[hperm.length_eq,e2];exact hl
theorem WR (P:Parts prog w s.heap a kb o es ep t) (T:vS prog w s.heap kb) (hb:gm (intKind prog w) s.heap k b) (hu:A.units<cLine) (h76:k∉kb.map fh->kb.length+1<=76) {Q:Bool->ag->Prop}
  (h:∀h' kb' r,ig a s.heap h'->kD prog w h' a kb'->(k∈kb.map fh->kb'.Perm kb)->(k∉kb.map fh->kb'.Perm ((k,b)::kb))->Q r { s with heap:=h' }):
  wpAny (model prog w) A (setAddHashed a (.ref b) (hk prog w k)) Q E s:=by
 unfold setAddHashed;refine fg ?_;unfold setAddHashedIn;refine aa (jk P.obj P.data P.fits ?_);dsimp only;have hbs:byScan (.ref b) es=false:=by simp[byScan,Value.scannable]
 rw[hbs];simp only[bj,if_false];refine aa (WM P T hb hu (λhin=>?_) λhout n hn hw=>?_)
 ·dsimp only;refine ah ?_;have:=h s.heap kb false (ph ..) ⟨o,es,ep,t,P⟩ (λ_=>.refl _) λq=>absurd hin q;exact this
 ·dsimp only;refine aa (jk P.obj P.data P.fits ?_);dsimp only;rw[WD P.tab.nod];dsimp only;rw[if_pos P.tab.plain];refine aa (WN hb ?_);simp only[if_true];have hlen:=P.nf;have hmask:=P.tab.msk;have hroom:(kb.map λp=>hk prog w p.1).length+1<=t.mask:=by
   rw[bo]
   rcases hmask with q|q|q <;> (rw[q]at hlen ⊢;omega)
  have T2:=P.tab.put (h:=hk prog w k) (n:=n) hn hw hroom;have hbl:=(rW (j:=pr t.mask (hk prog w k) n) P.tab.rise).2.2;generalize hp:tq t.place (pr t.mask (hk prog w k) n)=p at T2 hbl ⊢;rw[WQ (b:=b)]at T2;have hesl:(je es p (hk prog w k,dh b)).toList=gE prog w (kb.take p++(k,b)::kb.drop p):=by rw[rX _ _ _ (by rw[P.size,<-show t.place.size=kb.length from by have:=P.tab.size;simpa using this];exact hbl),P.es,WO]
  have hsz:(je es p (hk prog w k,dh b)).size=kb.length+1:=by have:=congrArg uk hesl;simp only[gE,bo,mq]at this;rw[this,(vT kb (k,b) p).length_eq];rfl
  refine aa (wpAny_storeSet_of P.obj P.data ?_ (by rw[hsz,ij];have:=h76 hout;omega));have hlen2:(kb.take p++(k,b)::kb.drop p).length=kb.length+1:=(vT kb (k,b) p).length_eq;have ho2:=JU (s:=s) (es':=je es p (hk prog w k,dh b)) (t':={ t with place:=je t.place p (pr t.mask (hk prog w k) n) }) P.data P.obj;have fill:({ t with place:=je t.place p (pr t.mask (hk prog w k) n) }:ie).tooFull=decide ((kb.length+1)*5>=t.mask*3):=by unfold SetTable.tooFull SetTable.fill;have e1:=T2.size;rw[bo,hlen2]at e1;have e1':(je t.place p (pr t.mask (hk prog w k) n)).size=kb.length+1:=e1;dsimp only;rw[P.tab.nod,e1'];rfl
  simp only[zf,Bool.true_and];rw[fill];have fin:∀h' kb',ig a (s.heap.update a (Obj.putSet (je es p (hk prog w k,dh b)) { t with place:=je t.place p (pr t.mask (hk prog w k) n) })) h'->kD prog w h' a kb'->
    kb'.Perm (kb.take p++(k,b)::kb.drop p)->Q true { s with heap:=h' }:=λh' kb' sb st pm=>
   h h' kb' true ((ou ..).trans sb) st (λq=>absurd q hout) λ_=>pm.trans (vT kb (k,b) p)
  by_cases full:(kb.length+1)*5>=t.mask*3
  ·rw[decide_eq_true full,if_pos rfl];have h76':=h76 hout;have hcase:(t.mask=7/\kb.length=4)∨(t.mask=31/\kb.length=18):=by
    rcases hmask with q|q|q
    ·left;rw[q]at hlen full;exact⟨q,by omega⟩
    ·right;rw[q]at hlen full;exact⟨q,by omega⟩
    ·rw[q]at full;omega
   have es0:es.size=kb.length:=P.size
   rcases hcase with⟨q1,q2⟩|⟨q1,q2⟩
   ·refine aa (JW (mask':=31) (kb:=kb.take p++(k,b)::kb.drop p) ho2 P.ex rfl hesl T2 (BE P.nd hout) P.led (by rw[es0,q2];decide) (.inr (.inl rfl)) (by rw[hlen2,q2];decide) (by rw[es0,q2,ij];decide) λh' kb' sb st pm=>ah (fin h' kb' sb st pm))
   ·refine aa (JW (mask':=127) (kb:=kb.take p++(k,b)::kb.drop p) ho2 P.ex rfl hesl T2 (BE P.nd hout) P.led (by rw[es0,q2];decide) (.inr (.inr rfl)) (by rw[hlen2,q2];decide) (by rw[es0,q2,ij];decide) λh' kb' sb st pm=>ah (fin h' kb' sb st pm))
  ·rw[decide_eq_false full,if_neg jr];refine ah (fin _ _ (ph ..) ⟨_,_,_,_,ho2,P.ex,rfl,hesl,T2,BE P.nd hout, ?_,P.led⟩ (.refl _));rw[hlen2];exact Nat.lt_of_not_le full
end
end SR
namespace SR
open PySem PySem.Spec PyProof.Rows SM
theorem Parts.keep {prog:bg}{w:cn}{h h':cp}{a:ai}{kb:KB}(S:kD prog w h a kb) (k:∀o,h.get? a=some o->h'.get? a=some o):kD prog w h' a kb:=by obtain⟨o,es,ep,t,P⟩:=S;exact⟨o,es,ep,t,k o P.obj,P.ex,P.data,P.es,P.tab,P.nd,P.nf,P.led⟩
theorem vU {prog:bg}{w:cn}{h h':cp}{ks:List Int}{a:ai}(x:gm (intKind prog w) h ks a) (k:∀o,h.get? a=some o->h'.get? a=some o):gm (intKind prog w) h' ks a:=by obtain⟨o,items,n,ho,r⟩:=x;exact⟨o,items,n,k o ho,r⟩
section
variable{prog:bg}{w:cn}{A:cg}{R:xi->ag->Prop}{I:ai}{fp wr:List ai}{n:Nat}{P:Nat->af->Prop}{St:Nat->cp->Prop}
structure Upto (ky:Nat->List Int) (ad:Nat->ai) (i:Nat) (kb:KB):Prop where
 from_:∀p∈kb,∃j,j<i/\p=(ky j,ad j)
 all:∀j,j<i->ky j∈kb.map fh
theorem WS (W:Walks prog w A.in1 I fp wr n P St) (S:ai) (hSf:S∉fp) (ad:Nat->ai) (ky:Nat->List Int) (hval:∀i v,P i v->v=.ref (ad i)) (hu:A.units+2<cLine)
  (U:List (List Int)) (hU:U.length<=76) (hky:∀i,i<n->ky i∈U) (hS:∀i,i<n->ad i≠S/\ad i∉wr):
  ∀(m i:Nat) (s:ag) (kb:KB),n - i=m->i<=n->St i s.heap->kD prog w s.heap S kb->Upto ky ad i kb->(∀j,j<n->gm (intKind prog w) s.heap (ky j) (ad j))->
   (∀h' tk kb',(∀b o,b∉S::wr->s.heap.get? b=some o->h'.get? b=some o)->kD prog w h' S kb'->Upto ky ad n kb'->R (.ok (.ret .none)) { s with heap:=h',toks:=tk })->
   codeAny (model prog w) A (.builtin "set.update.loop" ⟨[.ref S,.ref I],[]⟩) R s:=by
 have hSw:S∉wr:=λh=>hSf (W.sub _ h);intro m
 induction m with
 |zero=>
  intro i s kb hk hi hst hT hup hkeys hR;have hin:i=n:=by omega
  subst hin;refine jn F.entry_set_update_loop ?_;rw[iq F.plain_set_update_loop _];show wpAny _ A.in1 (pyNext (.ref I) >>= _) _ _ s;refine aa (W.done s _ _ hst λh' tk hm=>?_);exact ah (hR h' tk kb (λb o hb e=>hm b o (λz=>hb (ay _ z)) e) (Parts.keep hT λo e=>hm S o hSw e) hup)
 |succ m ih=>
  intro i s kb hk hi hst hT hup hkeys hR;have hlt:i<n:=by omega
  refine jn F.entry_set_update_loop ?_;rw[iq F.plain_set_update_loop _];show wpAny _ A.in1 (pyNext (.ref I) >>= _) _ _ s;refine aa (W.item i s _ _ hlt hst λv h' tk hP hst' hm=>?_);have ev:=hval i v hP;subst ev;have hT':kD prog w h' S kb:=Parts.keep hT λo e=>hm S o hSw e;have hkeys':∀j,j<n->gm (intKind prog w) h' (ky j) (ad j):=λj hj=>vU (hkeys j hj) λo e=>hm _ o (hS j hj).2 e;show wpAny _ A.in1 (holding [dh (ad i)] (setAdd S (.ref (ad i))) >>= _) _ _ _;refine aa (fg ?_);unfold setAdd;refine fg ?_;refine aa (wpAny_pyHash_tuple (s:={ s with heap:=h',toks:=tk }) (show A.in1.units<cLine by show A.units+1<cLine;omega) (hkeys' i hlt) ?_);obtain⟨o,es,ep,t,Pt⟩:=hT';have tups:vS prog w h' kb:=λp hp=>by obtain⟨j,hj,rfl⟩:=hup.from_ p hp;exact hkeys' j (by omega)
  have hsub:∀x∈kb.map fh,x∈U:=λx hx=>by obtain⟨p,hp,rfl⟩:=df.mp hx;obtain⟨j,hj,rfl⟩:=hup.from_ p hp;exact hky j (by omega)
  refine WR (s:={ s with heap:=h',toks:=tk+((ky i).length+1) }) (a:=S) (k:=ky i) (b:=ad i) Pt tups (hkeys' i hlt) (by show A.units+1<cLine;omega) (λhout=>?_) λh2 kb2 r sb hT2 q1 q2=>?_
  ·have nd:(ky i::kb.map fh).Nodup:=ku.mpr ⟨hout,Pt.nd⟩;have:=nd.length_le_of_subset (l₂:=U) λx hx=>by
    rcases ba.mp hx with rfl|hx
    ·exact hky i hlt
    ·exact hsub x hx
   simp at this;omega
  ·have hup2:Upto ky ad (i+1) kb2:=by
    by_cases hin:ky i∈kb.map fh
    ·have pm:=q1 hin;refine⟨λp hp=>?_,λj hj=>?_⟩
     ·obtain⟨j,hj,e⟩:=hup.from_ p (pm.mem_iff.mp hp);exact⟨j,by omega,e⟩
     ·rw[(pm.map fh).mem_iff]
      rcases jm j i with z|z
      ·exact hup.all j z
      ·have:j=i:=by omega
       subst this;exact hin
    ·have pm:=q2 hin;refine⟨λp hp=>?_,λj hj=>?_⟩
     ·rcases ba.mp (pm.mem_iff.mp hp)with z|z
      ·exact⟨i,by omega,z⟩
      ·obtain⟨j,hj,e⟩:=hup.from_ p z;exact⟨j,by omega,e⟩
     ·rw[(pm.map fh).mem_iff,dw,ba]
      rcases jm j i with z|z
      ·exact .inr (hup.all j z)
      ·have:j=i:=by omega
       subst this;exact .inl rfl
   refine ah ⟨xa F.plain_set_update_loop _,ih (i+1) _ kb2 (by omega) hlt (W.frame _ _ _ hst' λb hb o e=>?_) hT2 hup2 (λj hj=>?_) λh3 tk3 kb3 k3 hT3 hup3=>?_⟩
   ·rw[sb.2 b (λz:b=S=>hSf (by rw[<-z];exact hb))];exact e
   ·exact vU (hkeys' j hj) λo e=>(sb.2 _ (hS j hj).1).trans e
   ·refine hR h3 tk3 kb3 (λb o hb e=>k3 b o hb ?_) hT3 hup3;exact(sb.2 b λz=>hb (by rw[z];exact bh)).trans (hm b o (λz=>hb (ay _ z)) e)
end
end SR
namespace SR
open PySem PySem.Spec PyProof.Rows SM
theorem walk_slots:Slot "set" "__iter__" "set.__iter__"/\Slot "set_iterator" "__next__" "set_iterator.__next__"/\Slot "set_iterator" "__iter__" "set_iterator.__iter__"/\Slot "set" "__len__" "set.__len__":=by
 refine⟨Slot.of (owner := "set") (n := "__iter__") ?_ ?_ ?_ ?_ ?_ ?_,Slot.of (owner := "set_iterator") (n := "__next__") ?_ ?_ ?_ ?_ ?_ ?_,Slot.of (owner := "set_iterator") (n := "__iter__") ?_ ?_ ?_ ?_ ?_ ?_,Slot.of (owner := "set") (n := "__len__") ?_ ?_ ?_ ?_ ?_ ?_⟩
 all_goals first
  |decide +kernel
  |(rw[Be,vm];kernel_rfl)
  |(rw[isSubtype_type];kernel_rfl)
  |(left;decide +kernel)
  |(right;decide +kernel)
theorem vV (a:af):argsOk "set.__iter__" ⟨[a],[]⟩/\argsOk "set_iterator.__next__" ⟨[a],[]⟩/\argsOk "set_iterator.__iter__" ⟨[a],[]⟩:=by refine⟨?_, ?_, ?_⟩ <;> unfold argsOk <;> kernel_rfl
theorem JX:entryFor table "set_iterator.__next__" = some km.«set_iterator.__next__»:=entryFor_of_fast (by kernel_rfl)
theorem WT:entryFor table "set.__iter__" = some km.«frozenset.__iter__»:=entryFor_alias (id' := "frozenset.__iter__") (by kernel_rfl) rfl (by decide +kernel) (by kernel_rfl)
theorem WU:entryFor table "set_iterator.__iter__" = some km.«dict_keyiterator.__iter__»:=entryFor_alias (id' := "dict_keyiterator.__iter__") (by kernel_rfl) rfl (by decide +kernel) (by kernel_rfl)
end SR
namespace SR
open PySem PySem.Spec PyProof.Rows SM
theorem erase_perm {α:Type}:∀(l:List α) (i:Nat) (h:i<l.length),(l[i]::l.eraseIdx i).Perm l
 | [],_,h=>absurd h (by simp)
 |x::r,0,_=>.refl _
 |x::r,i+1,h=>by have ih:=erase_perm r i (by simpa using h);show((r[i]'(by simpa using h))::x::r.eraseIdx i).Perm (x::r);exact(List.Perm.swap _ _ _).trans (ih.cons x)
theorem JY {α:Type}(next:Nat->Nat):∀(fuel k:Nat) (l:List α) (out:Array α),l.length<=fuel->(yg next fuel k l out).toList.Perm (out.toList++l)
 |0,k,l,out,h=>by have:l=[]:=si.mp (by omega);subst this;rw[yg];simp
 |fuel+1,k,l,out,h=>by
  rw[yg]
  cases l with
  |nil=>simp
  |cons x r=>have hlt:next k % (x::r).length<(x::r).length:=Nat.mod_lt _ (by simp);rw[ar hlt];dsimp only;refine(JY next fuel (k+1) _ _ (by rw[zg hlt];omega)).trans ?_;rw[Array.toList_push,wm];refine zh _ ?_;exact erase_perm _ _ hlt
theorem WV {α:Type}(next:Nat->Nat) (xs:Array α):(pickOrder next xs).toList.Perm xs.toList:=by unfold pickOrder;have:=JY next xs.size 0 xs.toList #[] (by simp);simpa using this
section
variable{prog:bg}{w:cn}
def hV (w:cn) (a:ai) (ep:Nat) (es:Array (Int×af)):Array (Int×af):=if w.params.followText "set-order" then pickOrder (w.params.setOrder a ep) es else es
theorem JZ (w:cn) (a:ai) (ep:Nat) (es:Array (Int×af)):(hV w a ep es).toList.Perm es.toList:=by
 unfold hV
 split
 ·exact WV _ _
 ·exact .refl _
theorem vW (w:cn) (a:ai) (ep:Nat) (es:Array (Int×af)):(hV w a ep es).size=es.size:=by simpa using(JZ w a ep es).length_eq
def gF (w:cn) (t:ie) (i:Nat):Nat:=if w.params.followText "set-order" then 0 else match i with|0=>0|j+1=>t.place.getD j 0+1
def jL (a:ai) (slot i n ep:Nat):Obj:={ cls:=.type "set_iterator",data:=.fields #[rawInt slot,rawInt i,.ref a,rawInt n,rawInt ep] }
theorem WW {t:ie}{hs:List Int}(T:TOk t hs) (hb:w.params.followText "set-order" = false) {i:Nat}(hi:i<=t.place.size):tq t.place (gF w t i)=i:=by
 obtain⟨h1,h2,h3⟩:=rW (j:=gF w t i) T.rise;have mono:∀a b (ha:a<t.place.size) (hb:b<t.place.size),a<b->t.place[a]<t.place[b]:=by intro a b ha hb hab;have:=gu.mp T.rise a b (by simpa using ha) (by simpa using hb) hab;simpa using this
 unfold gF at h1 h2 h3 ⊢;rw[hb]at h1 h2 h3 ⊢;simp only[bj,if_false]at h1 h2 h3 ⊢
 cases i with
 |zero=>
  dsimp only at h1 h2 h3 ⊢;generalize tq t.place 0=r at h1 h2 h3 ⊢
  cases r with
  |zero=>rfl
  |succ r=>have:=h1 r (by omega) (by omega);omega
 |succ j=>
  dsimp only at h1 h2 h3 ⊢;have hj:j<t.place.size:=by omega
  have ej:t.place.getD j 0=t.place[j]:=by simp[kj,hj]
  rw[ej]at h1 h2 h3 ⊢;generalize tq t.place (t.place[j]+1)=r at h1 h2 h3 ⊢
  rcases Nat.lt_trichotomy r (j+1)with q|q|q
  ·have:=h2 j hj (by omega);omega
  ·exact q
  ·have:=h1 (j+1) (by omega) q;have:=mono j (j+1) hj (by omega) (by omega);omega
end
section
variable{prog:bg}{w:cn}{A:cg}{E:af->ag->Prop}{s:ag}{a it:ai}{kb:KB}{o:Obj}{es:Array (Int×af)}{ep:Nat}{t:ie}
theorem WX {Q:Bool->ag->Prop}(P:Parts prog w s.heap a kb o es ep t) (h:Q false s):wpAny (model prog w) A (setDrawn a) Q E s:=by
 unfold setDrawn setsByText;refine aa (jk P.obj P.data P.fits ?_);dsimp only;refine aa (aa (nj (ah ?_)));have e:(!(w.params.followText "set-order")&&((!t.plain)&&decide (es.size>1)))=false:=by rw[P.tab.plain];simp
 show wpAny _ _ (pure (!(w.params.followText "set-order")&&((!t.plain)&&decide (es.size>1)))) _ _ s;rw[e];exact ah h
theorem WY {Q:af->ag->Prop}(P:Parts prog w s.heap a kb o es ep t) (h:Q (.ref s.heap.objs.size) { s with heap:=s.heap.push (jL a 0 0 es.size ep) }):
  wpAny (model prog w) A (pyIter (.ref a)) Q E s:=by
 have hT:s.TypeIs (.ref a) "set" := ⟨o,P.obj,P.ex.1⟩;refine wpAny_pyIter_slot hT walk_slots.1 (ed walk_slots.1 hT WT ?_ (vV _).1);unfold km.«frozenset.__iter__» Builtin.Frozenset.slot0;refine aa (m:=(do Builtin.Frozenset.addrOf (<-slotArgs "__iter__" 0 ⟨[.ref a],[]⟩).1:Sem ai)) (ah ?_);unfold Builtin.Frozenset.sizeOf;refine aa (aa (wu P.obj P.data P.fits (ah ?_)));refine aa (WX P ?_);simp only[bj,if_false];refine aa (ah ?_);refine aa (wpAny_setEpoch_of P.obj P.data P.fits ?_);refine aa (dm ?_ (by size_fits));refine ah ⟨_,rfl,"set_iterator",_,⟨_,ax _ rfl,rfl⟩,walk_slots.2.1.lookup,h⟩
end
end SR
namespace SR
open PySem PySem.Spec PyProof.Rows SM
section
variable{prog:bg}{w:cn}{A:cg}{E:af->ag->Prop}{s:ag}{a it:ai}{kb:KB}{o:Obj}{es:Array (Int×af)}{ep:Nat}{t:ie}
theorem J0 {i:Nat}{Q:Option (af×Nat)->ag->Prop}(P:Parts prog w s.heap a kb o es ep t) (hi:i<=es.size)
  (h:Q (((hV w a ep es)[i]?).map λe=>(e.2,gF w t (i+1))) s):wpAny (model prog w) A (setNext a (gF w t i) i ep) Q E s:=by
 unfold setNext setsByText;refine aa (jk P.obj P.data P.fits ?_);dsimp only;refine aa (aa (nj (ah ?_)));have hps:t.place.size=es.size:=by have:=P.tab.size;rw[P.size];simpa using this
 show wpAny _ _ (if w.params.followText "set-order" = true then _ else _) _ _ s
 by_cases hb:w.params.followText "set-order" = true
 ·rw[if_pos hb,if_neg (by simp)];refine aa ?_;unfold setWalk setsByText;refine aa (jk P.obj P.data P.fits ?_);dsimp only;refine aa (aa (nj (ah ?_)));show wpAny _ _ (if w.params.followText "set-order" = true then _ else _) _ _ s;rw[if_pos hb];refine aa (nj (ah (ah ?_)));unfold hV gF at h;unfold gF;rw[if_pos hb]at h ⊢;rw[if_pos hb]at h;exact h
 ·have hb':w.params.followText "set-order" = false:=by simpa using hb
  rw[if_neg hb];have hl:t.led=true:=by rw[P.led,hb'];rfl
  have hd:((!t.plain)&&decide (es.size>1))=false:=by rw[P.tab.plain];rfl
  show wpAny _ _ (if((!t.plain)&&decide (es.size>1))=true then _ else _) _ _ s;rw[hd];simp only[bj,if_false];show wpAny _ _ ((if((!t.led)&&!es.isEmpty)=true then _ else _) >>= _) _ _ s;rw[hl];simp only[my,Bool.false_and,bj,if_false];refine aa (ah ?_);have hbl:=WW (w:=w) P.tab hb' (i:=i) (by omega);rw[hbl];unfold hV at h;rw[if_neg hb]at h;refine ah ?_
  by_cases hlt:i<es.size
  ·have e1:es[i]?=some es[i]:=gi hlt;have e2:t.place[i]?=some t.place[i]:=gi (by omega);rw[e1]at h;rw[e1,e2];have e3:gF w t (i+1)=t.place[i]+1:=by unfold gF;rw[if_neg hb];simp[kj,show i<t.place.size by omega]
   rw[e3]at h;exact h
  ·have e1:es[i]?=none:=sr (by omega);rw[e1]at h ⊢;exact h
theorem WZ {i:Nat}{x:Int×af}{Q:Option af->ag->Prop}(P:Parts prog w s.heap a kb o es ep t) (hit:s.heap.get? it=some (jL a (gF w t i) i es.size ep)) (hx:(hV w a ep es)[i]?=some x)
  (hQ:∀h',h'.get? it=some (jL a (gF w t (i+1)) (i+1) es.size ep)->ig it s.heap h'->Q (some x.2) { s with heap:=h' }):wpAny (model prog w) A (pyNext (.ref it)) Q E s:=by
 have hT:s.TypeIs (.ref it) "set_iterator" := ⟨_,hit,rfl⟩;have hlt:i<es.size:=by rw[<-vW w a ep es];exact(du.mp hx).1
 unfold pyNext;refine aa (md (da (name:=ik "__next__") hT walk_slots.2.1 (ed walk_slots.2.1 hT JX ?_ (vV _).2.1)));unfold km.«set_iterator.__next__»;refine aa (m:=slotArgs "__next__" 0 ⟨[.ref it],[]⟩) (ah ?_);refine aa (wpAny_fieldsOf hit rfl ?_);dsimp only;show wpAny _ _ (setEntries a >>= _) _ _ s;refine aa (wu P.obj P.data P.fits ?_);rw[if_neg (by simp)];show wpAny _ _ (setNext a ((gF w t i:Nat):Int).toNat ((i:Nat):Int).toNat ((ep:Nat):Int).toNat >>= _) _ _ s;rw[fe,fe,fe];refine aa (J0 P (gq hlt) ?_);rw[hx];show wpAny _ _ (setField (.ref it) 0 (rawInt ((gF w t (i+1):Nat):Int)) >>= _) _ _ s;refine aa (ja hit (by simp) λh1 g1 b1=>?_);refine aa (ja g1 (by simp) λh2 g2 b2=>?_);refine ah ⟨_,rfl,ah (hQ h2 ?_ (b1.trans b2))⟩;rw[g2];rfl
theorem W0 {i:Nat}{Q:Option af->ag->Prop}(hh:A.handled=none) (P:Parts prog w s.heap a kb o es ep t) (hit:s.heap.get? it=some (jL a (gF w t i) i es.size ep)) (hi:i=es.size)
  (hQ:∀h',Cf it s.heap h'->Q none { s with heap:=h' }):wpAny (model prog w) A (pyNext (.ref it)) Q E s:=by
 have hT:s.TypeIs (.ref it) "set_iterator" := ⟨_,hit,rfl⟩;unfold pyNext;refine aa (md (da (name:=ik "__next__") hT walk_slots.2.1 (ed walk_slots.2.1 hT JX ?_ (vV _).2.1)));unfold km.«set_iterator.__next__»;refine aa (m:=slotArgs "__next__" 0 ⟨[.ref it],[]⟩) (ah ?_);refine aa (wpAny_fieldsOf hit rfl ?_);dsimp only;show wpAny _ _ (setEntries a >>= _) _ _ s;refine aa (wu P.obj P.data P.fits ?_);rw[if_neg (by simp)];show wpAny _ _ (setNext a ((gF w t i:Nat):Int).toNat ((i:Nat):Int).toNat ((ep:Nat):Int).toNat >>= _) _ _ s;rw[fe,fe,fe];refine aa (J0 P (qe hi) ?_);rw[sr (by rw[vW];omega)];show wpAny _ _ (setField (.ref it) 2 jq >>= _) _ _ s;refine aa (ja hit (by simp) λh1 g1 b1=>?_);show wpAny _ _ (newExc (.type "StopIteration") [] >>= _) _ _ _;refine aa ?_;simp only[newExc,newTuple];refine aa (dm ?_ (by size_fits));refine aa (m:=firstArgMember _ _) (Au (a:=jq) (by first|rfl|(simp only[firstArgMember];rfl)) ?_);refine dm ?_ (by size_fits);simp only[raiseNew];refine aa (wpAny_handled ?_);rw[show A.in1.handled=none from hh];refine aa (ah (wpAny_throw ?_));refine aa (uj (T := "StopIteration") (b:=true) ⟨_,ax _ rfl,rfl⟩ Bw ?_);exact ah (hQ _ ((b1.extBut.push _).push _))
end
end SR
namespace SR
open PySem PySem.Spec PyProof.Rows SM
section
variable{prog:bg}{w:cn}{A:cg}{E:af->ag->Prop}{s:ag}{a:ai}{kb:KB}{o:Obj}{es:Array (Int×af)}{ep:Nat}{t:ie}
theorem Parts.at' {h h':cp}(P:Parts prog w h a kb o es ep t) (k:h'.get? a=some o):Parts prog w h' a kb o es ep t:=⟨k,P.ex,P.data,P.es,P.tab,P.nd,P.nf,P.led⟩
theorem W2 (hh:A.handled=none) (I:ai) (hne:a≠I):
  Walks prog w A I [I,a] [I] es.size (λi v=>∃x,(hV w a ep es)[i]?=some x/\v=x.2) (λi h=>Parts prog w h a kb o es ep t/\h.get? I=some (jL a (gF w t i) i es.size ep)) where
 sub:=λb hb=>by rw[cw.mp hb];exact bh ..
 frame:=λi h h' ⟨p,q⟩ k=>⟨p.at' (k a (by simp) _ p.obj),k I (by simp) _ q⟩
 item:=λi s Q E hi ⟨p,q⟩ hQ=>by
  have hi':i<(hV w a ep es).size:=by rw[vW];exact hi
  have hx:(hV w a ep es)[i]?=some (hV w a ep es)[i]:=gi hi';refine WZ p q hx λh' q' sb=>hQ _ h' s.toks ⟨_,hx,rfl⟩ ⟨p.at' ((sb.2 a hne).trans p.obj),q'⟩ λb o hb e=>?_;exact(sb.2 b λz=>hb (by rw[z];exact bh ..)).trans e
 done:=λs Q E ⟨p,q⟩ hQ=>W0 hh p q rfl λh' x=>hQ h' s.toks λb o hb e=>x b o (λz=>hb (by rw[z];exact bh ..)) e
 self:=λi s Q E ⟨_,q⟩ hQ=>by have hT:s.TypeIs (.ref I) "set_iterator" := ⟨_,q,rfl⟩;refine wpAny_pyIter_slot hT walk_slots.2.2.1 (ed walk_slots.2.2.1 hT WU ?_ (vV _).2.2);exact ah ⟨_,rfl,"set_iterator",_,⟨_,q,rfl⟩,walk_slots.2.1.lookup,hQ⟩
theorem W3 {S:ai}{n:Nat}{Q:Unit->ag->Prop}(h:s.heap.get? S=some (seqObj "list" #[] n)) (q:∀h' c,h'.get? S=some (seqObj "list" #[] c)->(∀b o,b≠S->s.heap.get? b=some o->h'.get? b=some o)->Q () { s with heap:=h' }):
  wpAny (model prog w) A (qj (.ref S)) Q E s:=by
 unfold qj;refine aa (xb h rfl ?_);have h1:=vc h (λx=>x.push jq);refine xb h1 rfl ?_;have h2:=vc h1 (λx=>x.pop);refine q _ _ h2 λb o hb e=>?_;rw[qc _ _ _ _ hb,qc _ _ _ _ hb];exact e
theorem W4 {Q:List af->ag->Prop}(hh:A.handled=none) (P:Parts prog w s.heap a kb o es ep t) (hn:es.size<=ck)
  (q:∀(h':cp) (tk:Nat),(∀b o,s.heap.get? b=some o->h'.get? b=some o)->s.heap.objs.size<=h'.objs.size->Q ((hV w a ep es).toList.map (·.2)) { s with heap:=h',toks:=tk }):wpAny (model prog w) A (collect (.ref a)) Q E s:=by
 have la:a<s.heap.objs.size:=ao P.obj;have up1:∀b o,s.heap.get? b=some o->(s.heap.push (seqObj "list" #[] 0)).get? b=some o:=λb o e=>aj _ e;have hS1:(s.heap.push (seqObj "list" #[] 0)).get? s.heap.objs.size=some (seqObj "list" #[] 0):=ax _ rfl;have P1:Parts prog w (s.heap.push (seqObj "list" #[] 0)) a kb o es ep t:=P.at' (up1 a o P.obj);have hT1:mw { s with heap:=s.heap.push (seqObj "list" #[] 0) } (.ref a) "set" := ⟨o,P1.obj,P1.ex.1⟩;unfold collect;refine aa (wd (jn entry_proto_collect' ?_));rw[iq F.plain_proto_collect _];refine aa (m:=newList []) (xc (ah ⟨vq _ (by decide +kernel),jn entry_list_iadd' ?_⟩));rw[iq F.plain_list_iadd _];show wpAny _ A.in1 (jf (.ref s.heap.objs.size) (.ref a) (.ref s.heap.objs.size)) _ _ { s with heap:=s.heap.push (seqObj "list" #[] 0) };unfold jf;refine aa (lh hT1 ?_);have ne:ll (.ref s.heap.objs.size) (.ref a)=false:=by simp[ll,jl la]
 rw[if_neg (by rw[ne];decide)];refine aa (WY P1 ?_);have sz:(s.heap.push (seqObj "list" #[] 0)).objs.size=s.heap.objs.size+1:=Bz _ _;rw[sz];have up2:∀b o,(s.heap.push (seqObj "list" #[] 0)).get? b=some o->((s.heap.push (seqObj "list" #[] 0)).push (jL a 0 0 es.size ep)).get? b=some o:=λb o e=>aj _ e;have P2:Parts prog w ((s.heap.push (seqObj "list" #[] 0)).push (jL a 0 0 es.size ep)) a kb o es ep t:=P1.at' (up2 a o P1.obj);have hT2:mw { s with heap:=(s.heap.push (seqObj "list" #[] 0)).push (jL a 0 0 es.size ep) } (.ref a) "set" := ⟨o,P2.obj,P2.ex.1⟩;have hI2:((s.heap.push (seqObj "list" #[] 0)).push (jL a 0 0 es.size ep)).get? (s.heap.objs.size+1)=some (jL a 0 0 es.size ep):=by rw[<-sz];exact ax _ rfl
 refine aa (fg ?_);unfold vn;refine aa (uz hT2 walk_slots.2.2.2.lookup ?_);have spl:splitId "set.__len__" = some ("set","__len__"):=by decide +kernel
 dsimp only;rw[spl];dsimp only;refine aa (uj (b:=true) hT2 sub_set_self ?_);rw[if_neg (by decide),if_pos (by decide +kernel)];refine aa (lh hT2 (ah ?_));rw[if_pos (by decide +kernel)];refine aa (rn ?_);refine aa (W3 (s:={ s with heap:=(s.heap.push (seqObj "list" #[] 0)).push (jL a 0 0 es.size ep) }) (up2 _ _ hS1) λh3 c hS3 up3=>?_);have neS:∀b o,s.heap.get? b=some o->b≠s.heap.objs.size:=λb o e=>bc (ao e);have P3:Parts prog w h3 a kb o es ep t:=P2.at' (up3 a o (bc la) P2.obj);have hI3:h3.get? (s.heap.objs.size+1)=some (jL a 0 0 es.size ep):=up3 _ _ (pd _) hI2;have hz:gF w t 0=0:=by unfold gF;split <;> rfl
 have hh2:A.in1.handled=none:=by simp[hh]
 have nin:s.heap.objs.size∉[s.heap.objs.size+1,a]:=λm=>by
  rcases ba.mp m with e|m
  ·exact pd _ e.symm
  ·exact jl la (cw.mp m)
 refine ah ⟨xa F.plain_extend_loop _,codeAny_extend_loopS (A:=A) ((W2 (kb:=kb) (o:=o) (t:=t) (ep:=ep) (es:=es) hh2 (s.heap.objs.size+1) (a:=a) (bc (jy la))).toS) hn s.heap.objs.size nin _ es.size 0 { s with heap:=h3 } #[] c rfl (jc _)
  ⟨P3,by rw[hz];exact hI3⟩ hS3 (ItemsOf.nil _) λs' acc c' mv hS' ia=>?_⟩
 have eacc:acc.toList=(hV w a ep es).toList.map (·.2):=by
  apply qu
  intro i;rw[kz,di,kz]
  cases q:acc[i]? with
  |some v=>obtain⟨x,h1,h2⟩:=ia.2 i v q;rw[h1,h2];rfl
  |none=>have h1:acc.size<=i:=Array.getElem?_eq_none_iff.mp q;rw[sr (by rw[vW,<-ia.1];exact h1)];rfl
 obtain⟨hp,gs,dr,tk,os⟩:=s';have e1:gs=s.gens:=mv.gens;have e2:dr=s.drawn:=mv.drawn;have e3:os=s.os:=mv.os;subst e1;subst e2;subst e3;show wpAny _ A (load s.heap.objs.size >>= _) _ _ _;refine aa (wpAny_load hS' (ah ?_));rw[eacc];refine q hp tk (λb o e=>mv.heap b o (λm=>?_) (up3 b o (neS b o e) (up2 b o (up1 b o e)))) (gq (ao hS'))
 rcases ba.mp m with z|m
 ·exact neS b o e z
 ·exact bc (jy (ao e)) (cw.mp m)
end
end SR
namespace SR
open PySem PySem.Spec PySem.W PyProof.Rows SoM L2
section
variable{prog:bg}{w:cn}{A:cg}{E:af->ag->Prop}{s:ag}
theorem J4 {fin:Bool}{Q:Bool->ag->Prop}:∀{kx ky:List Int}{vx vy:List af}(i:Nat),ItemsAre (intKind prog w) kx vx->ItemsAre (intKind prog w) ky vy->fin=decide (vx.length<vy.length)->Q (cT kx ky) s->KatLex prog w A true fin Q (vx.zip vy) i s
 |_,_,_,_,i,.nil,.nil,hf,h=>by subst hf;exact kat_nil h
 |_,_,_,_,i,.nil,.cons _ _,hf,h=>by subst hf;refine kat_nil ?_;rw[decide_eq_true (by simp)];exact h
 |_,_,_,_,i,.cons _ _,.nil,hf,h=>by subst hf;refine kat_nil ?_;rw[decide_eq_false (by simp)];exact h
 |_,_,_,_,i,.cons (k:=a) hu hx,.cons (k:=b) hv hy,hf,h=>by
  obtain⟨t,rfl⟩:=nv hu;obtain⟨t',rfl⟩:=nv hv;refine kat_cons (wpAny_eqBool_int (kat_go (λe=>?_) λe=>?_))
  ·refine kat_yes (J4 (i+1) hx hy (hf.trans (by simp)) ?_);rw[cT,if_pos e]at h;exact h
  ·have h':Q (decide (a<b)) s:=by rw[cT,if_neg (by rw[e];simp)]at h;exact h
   refine kat_no ?_
   cases q:i==0 with
   |true=>exact oneLt_int h'
   |false=>exact kat_one _ _ (xv h')
theorem W5 {x y:ai}{kx ky:List Int}{Q:Bool->ag->Prop}(hx:gm (intKind prog w) s.heap kx x) (hy:gm (intKind prog w) s.heap ky y) (h:Q (cT kx ky) s):wpAny (model prog w) A (keyLt' (tuples' true) (.ref x) (.ref y)) Q E s:=by obtain⟨ox,ix,nx,e1,_,d1,i1⟩:=hx;obtain⟨oy,iy,ny,e2,_,d2,i2⟩:=hy;exact kat_lt e1 d1 e2 d2 (J4 0 i1 i2 (by simp) h)
def KeysAt (prog:bg) (w:cn) (h:cp) (n:Nat) (ad:Nat->ai) (ky:Nat->List Int):Prop:=∀i,i<n->gm (intKind prog w) h (ky i) (ad i)/\ky i≠[]
def bT (n:Nat) (ad:Nat->ai):List af:=(bf n).map λi=>.ref (ad i)
theorem kE (n:Nat) (ad:Nat->ai):(bT n ad).length=n:=by simp[bT]
theorem BF {n:Nat}{ad:Nat->ai}{i:Nat}(h:i<n):(bT n ad).getD i jq=.ref (ad i):=by simp[bT,h]
theorem J5:∀(l:List Nat) {ad:Nat->ai}{ky:Nat->List Int},(∀i∈l,gm (intKind prog w) s.heap (ky i) (ad i)/\ky i≠[])->∃fs:List af,KatTups s.heap (l.map λi=>.ref (ad i)) fs/\fs.length=l.length/\∀v∈fs,∃a t,v=.int a t
 | [],_,_,_=>⟨[],trivial,rfl,by simp⟩
 |i::l,ad,ky,h=>by
  obtain⟨fs,t,hl,hv⟩:=J5 l (ad:=ad) (ky:=ky) λj hj=>h j (ay _ hj);obtain⟨⟨o,its,n,e,c,d,r⟩,ne⟩:=h i (bh ..)
  cases q:its.toList with
  |nil=>rw[q]at r;cases hk:ky i with
   |nil=>exact absurd hk ne
   |cons a b=>rw[hk]at r;cases r
  |cons v vs=>
   rw[q]at r
   cases hk:ky i with
   |nil=>exact absurd hk ne
   |cons a b=>
    rw[hk]at r
    cases r with
    |cons hu _=>
     obtain⟨tk,rfl⟩:=nv hu;refine⟨.int a tk::fs,KatTups.cons e c d (by rw[<-kz,q];rfl) t,by simp[hl],λv hv'=>?_⟩
     rcases ba.mp hv' with rfl|hv'
     ·exact⟨_,_,rfl⟩
     ·exact hv v hv'
theorem W6 {n:Nat}{ad:Nat->ai}{ky:Nat->List Int}{G:Array Nat->ag->Prop}(h2:2<=n) (hk:KeysAt prog w s.heap n ad ky)
  (h:∀p,Ent n p->gD cT (p.toList.map ky)->G p s):
  wpAny (model prog w) A (keyKind' (bT n ad).toArray) (λκ s'=>(kas_sort (bT n ad).length).kasWp (kas_ask prog w A κ (bT n ad)) G s') (λ_ _=>False) s:=by
 obtain⟨fs,t,hl,hv⟩:=J5 (prog:=prog) (w:=w) (s:=s) (bf n) (ad:=ad) (ky:=ky) λi hi=>hk i (bp.mp hi);refine kat_kind (T:=.type "int") t (by rw[hl,jx];omega) (λv hv'=>?_) (by decide) ?_
 ·obtain⟨a,tk,rfl⟩:=hv v hv';exact .now
 ·rw[kE]
  let ks:=(bf n).map ky
  have mem:∀i,i<n->ky i∈ks:=λi hi=>df.mpr ⟨i,bp.mpr hi,rfl⟩;refine IU (n:=n) (f:=λi=>rk cT ks (ky i)) (I:=λs'=>s'=s) (λi j C s' hs hi hj hC=>?_) (kas_sort n) (λp=>Ent n p/\gD cT (p.toList.map ky)) G s s (VV (by omega) λp e inc=>⟨e, ?_⟩) rfl λp s' hp hs=>by subst hs;exact h p hp.1 hp.2
  ·subst hs;show wpAny (model prog w) A (keyLt' (tuples' true) ((bT n ad).getD i jq) ((bT n ad).getD j jq)) C (λ_ _=>False) s';rw[BF hi,BF hj];refine W5 (hk i hi).1 (hk j hj).1 ?_;have:=hC s' rfl;rwa [IZ stoL (mem i hi)]at this
  ·refine gu.mpr λi j hi hj hij=>?_;have hj':j<p.size:=by simpa using hj
   have hi':i<p.size:=by omega
   have z:=inc i j (gq hij) (by rw[<-e.1];exact hj');unfold SoM.F at z;have ei:p.getD i 0=p[i]:=by simp[kj,hi']
   have ej:p.getD j 0=p[j]:=by simp[kj,hj']
   rw[ei,ej]at z;have lt:∀k (hk:k<p.size),p[k]<n:=λk hk=>bp.mp (e.2.mem_iff.mp (by simp));have:=VY stoL (mem _ (lt j hj')) z;simpa using this
end
end SR
namespace SR
open PySem PySem.Spec PySem.W PyProof.Rows SoM L2
section
variable{prog:bg}{w:cn}{A:cg}{E:af->ag->Prop}{s:ag}
abbrev oF (h h':cp):Prop:=∀b o,h.get? b=some o->h'.get? b=some o
def Sorted (n:Nat) (ad:Nat->ai) (ky:Nat->List Int) (out:List af):Prop:=∃p:List Nat,p.Perm (bf n)/\gD cT (p.map ky)/\out=p.map λi=>.ref (ad i)
theorem Sorted.len {n:Nat}{ad:Nat->ai}{ky:Nat->List Int}{out:List af}(h:Sorted n ad ky out):out.length=n:=by obtain⟨p,pp,_,e⟩:=h;rw[e,bo,pp.length_eq,jx]
theorem KeysAt.keep {h h':cp}{n:Nat}{ad:Nat->ai}{ky:Nat->List Int}(k:KeysAt prog w h n ad ky) (g:∀i,i<n->∀o,h.get? (ad i)=some o->h'.get? (ad i)=some o):KeysAt prog w h' n ad ky:=λi hi=>⟨vU (k i hi).1 (g i hi),(k i hi).2⟩
theorem W7 {a:ai}{n c:Nat}{ad:Nat->ai}{ky:Nat->List Int}{P:Fin->ag->Prop}(ho:s.heap.get? a=some (seqObj "list" (bT n ad).toArray c)) (h64:n<64) (hk:KeysAt prog w s.heap n ad ky)
  (q:∀h' e out,Sorted n ad ky out->h'.get? a=some (seqObj "list" out.toArray e)->(∀b o,b≠a->s.heap.get? b=some o->h'.get? b=some o)->P (.done (.ret .none)) { s with heap:=h' }):
  wpAny (model prog w) A (km.«list.sort» ⟨[.ref a],[]⟩) P E s:=by
 have la:a<s.heap.objs.size:=ao ho;obtain⟨e1,g1⟩:∃e1,(s.heap.update a (gn λ_=>(#[]:Array af))).get? a=some (seqObj "list" #[] e1):=⟨_,vc ho λ_=>#[]⟩
 have k1:∀b o,b≠a->s.heap.get? b=some o->(s.heap.update a (gn λ_=>(#[]:Array af))).get? b=some o:=λb o hb e=>by rw[qc _ _ _ _ hb];exact e
 generalize hH1:s.heap.update a (gn λ_=>(#[]:Array af))=H1 at g1 k1;have k3:oF H1 ((H1.push (seqObj "tuple" (bT n ad).toArray 0)).push (seqObj "list" #[] 0)):=λb o e=>aj _ (aj _ e);have ne:∀i,i<n->ad i≠a:=λi hi e=>by obtain⟨⟨o,its,m,e1,c1,_⟩,_⟩:=hk i hi;rw[e,ho]at e1;cases e1;exact absurd (Value.type.inj c1) (by decide)
 have K3:KeysAt prog w ((H1.push (seqObj "tuple" (bT n ad).toArray 0)).push (seqObj "list" #[] 0)) n ad ky:=hk.keep λi hi o e=>k3 _ o (k1 _ o (ne i hi) e);have g3:=k3 a _ g1;have kk:∀b o,b≠a->s.heap.get? b=some o->((H1.push (seqObj "tuple" (bT n ad).toArray 0)).push (seqObj "list" #[] 0)).get? b=some o:=λb o hb e=>k3 b o (k1 b o hb e);have sl:n<=ck:=by rw[ij];omega
 have fin:∀(out:List af),Sorted n ad ky out->wpAny (model prog w) A (do
   let touched:=(<-seqEpoch a) != e1
   wx (.ref a) λ_=>out.toArray
   if let some e:=(none:Option af)then rule "list.sort.comparison-raised"; throw e
   if touched then rule "list.sort.modified"; raiseError "ValueError" "list modified during sort"
   ret .none) P E { s with heap:=(H1.push (seqObj "tuple" (bT n ad).toArray 0)).push (seqObj "list" #[] 0) }:=λout ho'=>by
  refine aa (seqEpoch_at g3 rfl ?_);refine aa (xb g3 rfl ?_ (jc _) (by rw[av,ho'.len];omega));simp only[bne_self_eq_false,bj,if_false];exact ah (q _ _ out ho' (vc g3 λ_=>out.toArray) λb o hb e=>by rw[qc _ _ _ _ hb];exact kk b o hb e)
 generalize hH3:(H1.push (seqObj "tuple" (bT n ad).toArray 0)).push (seqObj "list" #[] 0)=H3 at k3 K3 g3 kk fin;rw[list_sort_plain];refine aa (listItems_at ho rfl (aa (xb ho rfl ?_ (by rw[av,kE];exact sl) (jc _))));rw[hH1];refine aa (seqEpoch_at g1 rfl (aa (Bv (aa (xc (fg ?_) (jc _))) (by show(bT n ad).length<=_;rw[kE];exact sl))));show wpAny (model prog w) A _ P E { s with heap:=(H1.push (seqObj "tuple" (bT n ad).toArray 0)).push (seqObj "list" #[] 0) };rw[hH3];have hz:(bT n ad).toArray.size=n:=by rw[av,kE]
 dsimp only
 by_cases h2:n<2
 ·rw[if_pos (by rw[hz];exact h2),if_pos (by rw[hz];exact h2)];refine aa (ah ?_);rw[StateT.run_pure];refine aa (ah ?_);have e:(arrOf (SortSt.mk' general' ((bT n ad).toArray.zip (bT n ad).toArray) #[] 7 none)).map (·.2)=(bT n ad).toArray:=by show(((bT n ad).toArray.zip (bT n ad).toArray)).map (·.2)=_;rw[Array.map_snd_zip (ak _)]
  dsimp only;rw[e];refine fin _ ⟨bf n,.refl _, ?_,rfl⟩;refine gu.mpr λi j hi hj hij=>?_;rw[bo,jx]at hj;omega
 ·have h2':2<=n:=by omega
  rw[if_neg (by rw[hz];exact h2),if_neg (by rw[hz];exact h2)];refine aa (ka (W6 (A:=A) (s:={ s with heap:=H3 }) (G:=λp s'=>s'={ s with heap:=H3 }/\Ent n p/\gD cT (p.toList.map ky)) h2' K3 λp e r=>⟨rfl,e,r⟩) (λκ s0 hκ=>?_) λ_ _ x=>x.elim);refine aa (ka (kat_run (ks:=bT n ad) (vs:=bT n ad) (Q:=λst' s'=>∃p:Array Nat,p.size=(bT n ad).length/\arrOf st'=p.map (kas_item ((bT n ad).toArray.zip (bT n ad).toArray))/\failedOf st'=none/\s'={ s with heap:=H3 }/\Ent n p/\gD cT (p.toList.map ky))
   rfl (by rw[kE];exact h2') (by rw[kE];exact h64) (λp st' s' z1 z2 z3 z4=>⟨p,z1,z2,z3,z4⟩) hκ) ?_ λ_ _ e=>e)
  rintro ⟨⟨⟩,st'⟩ s' ⟨p,_,z2,z3,rfl,z5,z6⟩
  dsimp only;rw[kat_snds rfl z2,z3];have e:(p.toList.map λi=>(bT n ad).getD i jq)=p.toList.map λi=>.ref (ad i):=List.map_congr_left λi hi=>BF (bp.mp (z5.2.mem_iff.mp hi));rw[e];exact fin _ ⟨p.toList,z5.2,z6,rfl⟩
theorem W8 {x:af}{n:Nat}{ad:Nat->ai}{ky:Nat->List Int}{Q:af->ag->Prop}(h64:n<64) (hk:KeysAt prog w s.heap n ad ky)
  (hc:∀(Q':List af->ag->Prop) (E':af->ag->Prop),(∀h' tk,oF s.heap h'->s.heap.objs.size<=h'.objs.size->Q' (bT n ad) { s with heap:=h',toks:=tk })->wpAny (model prog w) A.in1 (collect x) Q' E' s)
  (q:∀h' tk D e out,Sorted n ad ky out->s.heap.objs.size<=D->h'.get? D=some (seqObj "list" out.toArray e)->oF s.heap h'->Q (.ref D) { s with heap:=h',toks:=tk }):
  wpAny (model prog w) A (call (.builtin "sorted") [x]) Q E s:=by
 refine Calls.call_function_entry kind_sorted plain_sorted entry_sorted (args_sorted1 _) ?_;unfold km.«sorted»;refine aa (m:=checkCount "sorted" 1 1 _) (ah (aa (hc _ _ λh1 tk k1 sz=>aa (xc ?_ (by rw[kE,ij];omega)))));have g:(h1.push (seqObj "list" (bT n ad).toArray 0)).get? h1.objs.size=some (seqObj "list" (bT n ad).toArray 0):=ax _ rfl;have k2:oF s.heap (h1.push (seqObj "list" (bT n ad).toArray 0)):=λb o e=>aj _ (k1 b o e);refine aa (fg (ed slot_list_sort ⟨_,g,rfl⟩ entry_list_sort (W7 (s:={ s with heap:=h1.push (seqObj "list" (bT n ad).toArray 0),toks:=tk }) g h64 (hk.keep λi hi o e=>k2 _ o e) λh' e out so ho ke=>⟨_,rfl, ?_⟩) (args_list_sort _)));exact ah ⟨_,rfl,q h' tk h1.objs.size e out so sz ho λb o e=>ke b o (bc (au (ao e) sz)) (k2 b o e)⟩
end
end SR
namespace SR
open PySem PySem.Spec PyProof.Rows SM
def bare (w:cn):Obj:={ cls:=.type "set",dict:=none,data:=.set #[] 0 (.fresh 0 0 (!w.params.followText "set-order")) }
section
variable{prog:bg}{w:cn}{A:cg}{E:af->ag->Prop}{s:ag}
theorem W9 {h:cp}{a:ai}(e:h.get? a=some (bare w)):kD prog w h a []:=by
 have tok:∀led:Bool,TOk (.fresh 0 0 led) []:=λled=>⟨rfl,.nil,rfl,(λj hj=>nomatch hj),jc _,.inl rfl,(λi h j e=>nomatch e),rfl⟩
 exact⟨bare w,#[],0,_,e,⟨rfl,rfl,rfl⟩,rfl,rfl,tok _,.nil,(by show 0*5<7*3;decide),rfl⟩
theorem J6 (a:af) {Q:af->ag->Prop}(q:Q (.ref s.heap.objs.size) { s with heap:=s.heap.push (bare w) }):
  codeAny (model prog w) A (.call (.builtin "set.__new__") ⟨[.type "set",a],[]⟩) (wants Q E) s:=by
 refine qf F.plain_set_new F.entry_set_new (Au (F.newCall_set_1 a) ?_);have self:=sub_set_self;unfold km.«set.__new__» Builtin.Frozenset.newClass;cases s
 wp_walk
 exact nj (ah (aa (wpAny_alloc (ah (ah q)))))
theorem J7 {v:af}{Q N:af->ag->Prop}(hn:codeAny (model prog w) A.in1 (.call (.builtin "set.__new__") ⟨[.type "set",v],[]⟩) (wants N E) s)
  (hi:∀x s1,N x s1->s1.TypeIs x "set"/\codeAny (model prog w) A.in1 (.call (.builtin "set.__init__") ⟨[x,v],[]⟩) (wants (λr s2=>r=.none/\Q x s2) E) s1):wpAny (model prog w) A (call (.type "set") [v]) Q E s:=by
 have f:=F.called_set;obtain⟨_,_,fm⟩:=f.mro;have fd:=f.made;have fs:=f.sub;have ft:=f.notType;have fc:=f.canCreate;have fk:=F.typeCall_set_1 v;have fl:=f.init.lookup;have q:(Code.builtin "type.__call__" ⟨[.type "set",v],[]⟩).quiet=true:=vq _ (by decide +kernel);refine Bq (codeAny_of_tree (ah ⟨q,jn F.entry_type_call ?_⟩));rw[Around.under_plain (weight_type_call_type "set" [v] []) rfl]
 repeat (any_goals (first|assumption|wp_step))
 refine ni hn ?_
 rintro (e|fl1) s1 h1
 ·exact h1
 ·cases fl1 <;> try exact h1.elim
  rename_i x;obtain⟨hx,hr⟩:=hi x s1 h1;have fb:=f.init.bind x
  repeat (any_goals (first|assumption|wp_step))
  refine ni hr ?_
  rintro (e|fl2) s2 h2
  ·exact h2
  ·cases fl2 <;> try exact h2.elim
   obtain⟨rfl,h3⟩:=h2
   repeat (any_goals (first|assumption|wp_step))
theorem J8 {l:ai}{T:String}{it:Obj}{n:Nat}{P:Nat->af->Prop}{St:Nat->cp->Prop}{fp wr:List ai}(ad:Nat->ai) (ky:Nat->List Int) (U:List (List Int)) {Q:af->ag->Prop}
  (hu:A.units+8<cLine) (hT:s.TypeIs (.ref l) T) (n1:isSubtype (.type T) (.type "set")=pure false) (n2:isSubtype (.type T) (.type "frozenset")=pure false) (n3:(nc T==nc "dict")=false)
  (hi:∀(B:cg) (Q':af->ag->Prop) (E':af->ag->Prop),Q' (.ref (s.heap.objs.size+1)) { s with heap:=(s.heap.push (bare w)).push it }->wpAny (model prog w) B (pyIter (.ref l)) Q' E' { s with heap:=s.heap.push (bare w) })
  (W:Walks prog w A.in1.in1.in1 (s.heap.objs.size+1) fp wr n P St) (hfp:s.heap.objs.size∉fp) (hwr:∀b∈wr,s.heap.objs.size<b) (h0:St 0 ((s.heap.push (bare w)).push it))
  (hval:∀i v,P i v->v=.ref (ad i)) (hU:U.length<=76) (hky:∀i,i<n->ky i∈U) (hkeys:∀j,j<n->gm (intKind prog w) s.heap (ky j) (ad j))
  (q:∀(h':cp) (tk:Nat) kb,kD prog w h' s.heap.objs.size kb->Upto ky ad n kb->(∀b o,s.heap.get? b=some o->h'.get? b=some o)->Q (.ref s.heap.objs.size) { s with heap:=h',toks:=tk }):
  wpAny (model prog w) A (call (.type "set") [.ref l]) Q E s:=by
 refine J7 (N:=λx s1=>x=.ref s.heap.objs.size/\s1={ s with heap:=s.heap.push (bare w) }) (J6 _ ⟨rfl,rfl⟩) ?_
 rintro x s1 ⟨rfl,rfl⟩
 have up:∀b o,s.heap.get? b=some o->(s.heap.push (bare w)).get? b=some o:=λb o e=>aj _ e;have hb:(s.heap.push (bare w)).get? s.heap.objs.size=some (bare w):=ax _ rfl;have hS:mw { s with heap:=s.heap.push (bare w) } (.ref s.heap.objs.size) "set" := ⟨_,hb,rfl⟩;refine⟨hS,qf F.called_set.init.plain F.entry_set_init (check_set_init_1 hS ?_)⟩;obtain⟨ol,el,cl⟩:=hT;have hl1:mw { s with heap:=s.heap.push (bare w) } (.ref l) T:=⟨ol,up l ol el,cl⟩
 have lt:∀j,j<n->ad j<s.heap.objs.size:=λj hj=>let ⟨_,_,_,e,_⟩:=hkeys j hj;ao e;have hb2:((s.heap.push (bare w)).push it).get? s.heap.objs.size=some (bare w):=aj _ hb;have run:∀(R:xi->ag->Prop),(∀h' tk kb,kD prog w h' s.heap.objs.size kb->Upto ky ad n kb->(∀b o,s.heap.get? b=some o->h'.get? b=some o)->R (.ok (.ret .none)) { s with heap:=h',toks:=tk })->
   codeAny (model prog w) A.in1.in1 (.builtin "set.update.loop" ⟨[.ref s.heap.objs.size,.ref (s.heap.objs.size+1)],[]⟩) R { s with heap:=(s.heap.push (bare w)).push it }:=λR hR=>by
  refine WS W s.heap.objs.size hfp ad ky hval (by show A.units+1+1+2<cLine;omega) U hU hky (λj hj=>⟨bc (lt j hj),λm=>Ca (lt j hj) (hwr _ m)⟩) n 0 _ [] rfl (jc _) h0 (W9 hb2)
   ⟨(λp hp=>nomatch hp),λj hj=>absurd hj (Nat.not_lt_zero j)⟩ (λj hj=>vU (hkeys j hj) λo e=>aj _ (up _ o e)) λh' tk kb keep S u=>hR h' tk kb S u λb o e=>?_
  have hlt:=ao e;exact keep b o (λm=>(ba.mp m).elim (bc hlt) λm=>Ca hlt (hwr b m)) (aj _ (up b o e))
 unfold km.«set.__init__» noKeywords ud;generalize hPI:pyIter=PI;unfold bare at hb
 wp_walk
 subst hPI;refine hi _ _ _ ?_;refine aa (wd (run _ λh' tk kb S u keep=>?_));exact ah (ah ⟨rfl,q h' tk kb S u keep⟩)
end
end SR
namespace L2.Mr
open PySem PySem.Spec PyProof.Rows SR
def TupsAre (H:Hp):List V->List (List Int)->Prop
 | [],[]=>True
 |v::vs,k::ks=>(∃b,v=.ref b/\H b=some (.tup (k.map V.int)))/\TupsAre H vs ks
 |_,_=>False
def XA:V->ai
 | .ref b=>b
 |_=>0
def eW (vs:List V) (i:Nat):ai:=XA (vs.getD i .non)
section
variable{X:Cx}{pins:List (ai×Obj)}{σ:St}{H H':Hp}{s:ag}
theorem TupsAre.len:∀{vs:List V}{ks:List (List Int)},TupsAre H vs ks->vs.length=ks.length
 | [],[],_=>rfl
 | [],_::_,h=>h.elim
 |_::_,[],h=>h.elim
 |v::vs,k::ks,h=>by rw[dv,dv,TupsAre.len h.2]
theorem TupsAre.at_:∀{vs:List V}{ks:List (List Int)}{i:Nat},TupsAre H vs ks->i<ks.length->vs[i]?=some (.ref (eW vs i))/\H (eW vs i)=some (.tup ((ks.getD i []).map V.int))
 | [],[],_,_,h=>by simp at h
 | [],_::_,_,h,_=>h.elim
 |_::_,[],_,h,_=>h.elim
 |v::vs,k::ks,0,h,_=>by obtain⟨⟨b,rfl,e⟩,_⟩:=h;exact⟨rfl,e⟩
 |v::vs,k::ks,i+1,h,hi=>by
  obtain⟨e1,e2⟩:=TupsAre.at_ (i:=i) h.2 (by simpa using hi);have ea:eW (v::vs) (i+1)=eW vs i:=by simp[eW]
  exact⟨by rw[ea];simpa using e1,by rw[ea];simpa using e2⟩
theorem J9:∀{k:List Int}{its:List af}{prog:bg}{w:cn},Vals (k.map V.int) its->ItemsAre (intKind prog w) k its
 | [],_,_,_,.nil=>.nil
 |n::k,_,_,_,.cons h1 h2=>by obtain⟨t,rfl⟩:=h1;exact .cons (intKind_is _ _ _ _) (J9 h2)
theorem BG (I:Inv X pins σ H s) {b:ai}{k:List Int}(e:H b=some (.tup (k.map V.int))):gm (intKind X.prog X.w) s.heap k b:=by obtain⟨_,its,r,o,e1,c,_,n,d⟩:=I.hok b _ e;exact⟨o,its.toArray,n,e1,c,d,J9 r⟩
theorem KC {vs:List V}{ks:List (List Int)}{its:List af}(h:TupsAre H vs ks) (r:Vals vs its):its=bT ks.length (eW vs):=by
 have hl:=r.length;have hl2:=h.len
 apply qu
 intro i
 by_cases hi:i<ks.length
 ·obtain⟨e1,_⟩:=h.at_ hi;obtain⟨u,e2,e3⟩:=r.get e1;cases e3;rw[e2];simp[bT,hi]
 ·rw[Cb (by omega),Cb (by rw[kE];omega)]
theorem XB {n:Nat}{ad:Nat->ai}{ky:Nat->List Int}{out:List af}(so:Sorted n ad ky out) (hH:∀i,i<n->H (ad i)=some (.tup ((ky i).map V.int))):
  ∃(p:List Nat) (vs':List V),p.Perm (bf n)/\gD cT (p.map ky)/\Vals vs' out/\TupsAre H vs' (p.map ky):=by
 obtain⟨p,pp,r,rfl⟩:=so;refine⟨p,p.map λi=>V.ref (ad i),pp,r, ?_, ?_⟩
 ·clear pp r
  induction p with
  |nil=>exact .nil
  |cons i p ih=>exact .cons rfl ih
 ·have:∀q:List Nat,(∀i∈q,i<n)->TupsAre H (q.map λi=>V.ref (ad i)) (q.map ky):=λq=>by
   induction q with
   |nil=>intro _;trivial
   |cons i q ih=>exact λh=>⟨⟨_,rfl,hH i (h i (bh ..))⟩,ih λj hj=>h j (ay _ hj)⟩
  exact this p λi hi=>bp.mp (pp.mem_iff.mp hi)
theorem XC {α:Type}{p:List Nat}{n:Nat}{l:List α}{d:α}(h:p.Perm (bf n)) (hl:l.length=n):(p.map λi=>l.getD i d).Perm l:=by
 refine(h.map _).trans ?_;have:(bf n).map (λi=>l.getD i d)=l:=by
  apply xf (by simp[hl])
  intro i h1 h2;simp[h2]
 rw[this]
def vX (prog:bg) (w:cn) (l:ai) (o:Obj) (kb:KB):Prop:=∃es ep t,∀h:cp,h.get? l=some o->Parts prog w h l kb o es ep t
structure KbOk (H:Hp) (kb:KB) (ks:List (List Int)):Prop where
 tup:∀p∈kb,H p.2=some (.tup (p.1.map V.int))
 frm:∀p∈kb,p.1∈ks
 all:∀k∈ks,k∈kb.map fh
abbrev KD (X:Cx):List V->Hp->VK->Prop:=λxs H Q=>∃(p:ai) (vs:List V) (ks:List (List Int)),xs=[.ref p]/\H p=some (.lst vs)/\TupsAre H vs ks/\(dR cT ks).length<=76/\∀l o kb,H l=none->vX X.prog X.w l o kb->KbOk H kb ks->Q (.ref l) (upd H l (.frz o (.own 0)))
theorem sub_list:isSubtype (.type "list") (.type "set")=pure false/\isSubtype (.type "list") (.type "frozenset")=pure false:=⟨F.sub_list_set,F.sub_list_frozenset⟩
theorem XD {k:Nat}(rm:Room k X.A):CallR X (.type "set") (KD X):=by
 intro pins s σ H xs us Q I rv ⟨p,vs,ks,e,hp,ht,hU,q⟩;subst e;obtain⟨u,rfl,ru⟩:=iF rv;cases ru;obtain⟨its,rits,pl,hz⟩:=I.list (SqL.of hp);have hits:=KC ht rits;have lp:=I.hok.lt hp;have hI:s.heap.IsList p (bT ks.length (eW vs)).toArray:=by rw[<-hits];exact pl.isList
 have hsz:(bT ks.length (eW vs)).toArray.size=ks.length:=by rw[av,kE]
 have hh:X.A.in1.in1.in1.handled=none:=rm.hd;have hne:p≠s.heap.objs.size+1:=bc (jy lp);have hb:(s.heap.push (bare X.w)).IsList p (bT ks.length (eW vs)).toArray:=hI.push _;have hs1:(s.heap.push (bare X.w)).objs.size=s.heap.objs.size+1:=Bz _ _;have W:=Cr (prog:=X.prog) (w:=X.w) (A:=X.A.in1.in1.in1) hh (s.heap.objs.size+1) p hne (bT ks.length (eW vs)).toArray;rw[hsz]at W;refine J8 (T := "list") (it:={ cls:=.type "list_iterator",data:=.fields #[.ref p,.int 0 0] }) (eW vs) (λi=>ks.getD i []) (dR cT ks) (by have:=rm.un;omega) hI.typeIs sub_list.1 sub_list.2 (by decide) (λB Q' E' hQ=>?_) W ?_ ?_ ?_ (λi v hv=>?_) hU (λi hi=>?_) (λj hj=>?_) λh' tk kb hS hup k=>?_
 ·refine tj hb ?_;rw[<-hs1]at hQ;exact hQ
 ·intro m
  rcases ba.mp m with z|m
  ·exact pd _ z.symm
  ·exact jl lp (cw.mp m)
 ·intro b hb;rw[cw.mp hb];exact kd _
 ·refine⟨⟨{ cls:=.type "list_iterator",data:=.fields #[.ref p,.int 0 0] }, ?_,rfl,rfl⟩,hb.push _⟩;rw[<-hs1];exact ax _ rfl
 ·have hi:i<ks.length:=by have:=(du.mp hv).1;rwa [hsz]at this
  have:(bT ks.length (eW vs))[i]?=some (.ref (eW vs i)):=by simp[bT,hi]
  rw[Cc,this]at hv;exact(cx hv).symm
 ·refine(pU stoL _ _).mpr ?_;show ks.getD i []∈ks;simp[hi]
 ·exact BG I (ht.at_ hj).2
 ·obtain⟨o,es,ep,t,P⟩:=hS;refine⟨.ref s.heap.objs.size,_,I.laid (t':=tk) (o:=.frz o (.own 0)) k (ak _) ⟨P.obj,o,P.obj⟩,rfl,q _ o kb (I.hok.fresh (ak _)) ⟨es,ep,t,λh e=>P.at' e⟩ ⟨λz hz=>?_,λz hz=>?_,λz hz=>?_⟩⟩
  ·obtain⟨j,hj,rfl⟩:=hup.from_ z hz;exact(ht.at_ hj).2
  ·obtain⟨j,hj,rfl⟩:=hup.from_ z hz;show ks.getD j []∈ks;simp[hj]
  ·obtain⟨j,hj,rfl⟩:=jh hz;have:=hup.all j hj;simpa[hj]using this
abbrev KG (X:Cx):List V->Hp->VK->Prop:=λxs H Q=>∃(l:ai) (o:Obj) (kb:KB) (ks:List (List Int)),xs=[.ref l]/\H l=some (.frz o (.own 0))/\vX X.prog X.w l o kb/\KbOk H kb ks/\(∀k∈ks,k≠[])/\(dR cT ks).length<64/\∀D vs',H D=none->TupsAre H vs' (dR cT ks)->Q (.ref D) (upd H D (.lst vs'))
theorem XE {α β:Type}{f:α->β}:∀{l:List β}{l':List β},l.Perm l'->∀xs:List α,l'=xs.map f->∃ys:List α,ys.Perm xs/\l=ys.map f:=by
 intro l l' h
 induction h with
 |nil=>intro xs e;exact⟨xs,.refl _,e⟩
 |cons a _ ih=>
  intro xs e
  cases xs with
  |nil=>cases e
  |cons x xs=>simp only[dw,Cg]at e;obtain⟨ys,p,e'⟩:=ih xs e.2;exact⟨x::ys,p.cons x,by simp[e.1,e']⟩
 |swap a b l=>
  intro xs e
  cases xs with
  |nil=>cases e
  |cons x xs=>
   cases xs with
   |nil=>simp at e
   |cons y xs=>simp only[dw,Cg]at e;exact⟨y::x::xs,.swap ..,by simp[e.1,e.2.1,e.2.2]⟩
 |trans _ _ ih1 ih2=>intro xs e;obtain⟨ys,p,e'⟩:=ih2 xs e;obtain⟨zs,p',e''⟩:=ih1 ys e';exact⟨zs,p'.trans p,e''⟩
theorem XF {k:Nat}(rm:Room k X.A):CallR X (.builtin "sorted") (KG X):=by
 intro pins s σ H xs us Q I rv ⟨l,o,kb,ks,e,hl,⟨es,ep,t,hP⟩,kO,ne,h64,q⟩;subst e;obtain⟨u,rfl,ru⟩:=iF rv;cases ru;have P:=hP s.heap (I.hok l _ hl).1;have pe:(hV X.w l ep es).toList.Perm (gE X.prog X.w kb):=by rw[<-P.es];exact JZ _ _ _ _
 obtain⟨kc,pk,ek⟩:=XE pe kb rfl;have mem:∀i,i<kc.length->kc.getD i ([],0)∈kb:=λi hi=>pk.mem_iff.mp (by simp[hi]);have hn:(kb.map fh).length=(dR cT ks).length:=by refine List.Perm.length_eq ((qh P.nd (vP stoL (vO stoL ks))).mpr λz=>?_);rw[pU stoL];refine⟨λh=>?_,λh=>kO.all z h⟩;obtain⟨p,hp,rfl⟩:=df.mp h;exact kO.frm p hp
 have hlen:kc.length<64:=by rw[pk.length_eq];rw[bo]at hn;omega
 have hes:es.size=kc.length:=by rw[P.size,pk.length_eq]
 have KA:KeysAt X.prog X.w s.heap kc.length (λi=>(kc.getD i ([],0)).2) (λi=>(kc.getD i ([],0)).1):=λi hi=>⟨BG I (kO.tup _ (mem i hi)),ne _ (kO.frm _ (mem i hi))⟩
 have er:(hV X.w l ep es).toList.map (·.2)=bT kc.length (λi=>(kc.getD i ([],0)).2):=by
  rw[ek,qd]
  apply xf (by simp[kE])
  intro i h1 h2;have hi:i<kc.length:=by simpa using h1
  simp[bT,hi]
 refine W8 hlen KA (λQ' E' hQ=>?_) λh' tk D e out so hD ho k=>?_
 ·refine W4 (show X.A.in1.handled=none from rm.hd) P (by rw[hes,ij];omega) λh' tk kk sz=>?_;rw[er];exact hQ h' tk kk sz
 ·obtain⟨pp,vs',h1,h2,h3,h4⟩:=XB (H:=H) so λi hi=>kO.tup _ (mem i hi);have pm:(pp.map λi=>(kc.getD i ([],0)).1).Perm (kb.map fh):=by have:=((XC (d:=(([],0):List Int×ai)) h1 rfl).trans pk).map fh;rwa [qd]at this
  have nd:(pp.map λi=>(kc.getD i ([],0)).1).Nodup:=pm.nodup_iff.mpr P.nd;have rs:hO cT (pp.map λi=>(kc.getD i ([],0)).1):=by
   refine(h2.and nd).imp λ{a b} ⟨x,y⟩=>?_
   cases q:cT a b with
   |true=>rfl
   |false=>exact absurd (stoL.tot a b q x) y
  have e1:(pp.map λi=>(kc.getD i ([],0)).1)=dR cT ks:=VX stoL rs λz=>by rw[pm.mem_iff];refine⟨λh=>?_,λh=>kO.all z h⟩;obtain⟨p,hp,rfl⟩:=df.mp h;exact kO.frm p hp
  rw[e1]at h4;refine⟨.ref D,_,I.laid (t':=tk) k hD (show ObjOk X.prog X.w _ _ _ (.lst vs') from⟨?_,out,e,h3,ho⟩),rfl,q D vs' (I.hok.fresh hD) h4⟩;rw[h4.len,ij];omega
end
def pW:Dv->Option (List Int)
 | .tup xs=>bU hJ xs
 |_=>none
def vY (k:List Int):Dv:=.tup (k.map Dv.int)
section
variable{X:Cx}{G:Cfg}{E:XK}{k:Nat}{e a b:bu}{es:List bu}{ma mb:M Dv}{aS:M (List Dv)}{p p2 pos pos2:Pos}
theorem BH {μ:Nat->ai}{n:Nat}{H:Hp}:∀{xs:List Dv}{vs:List V}{ks:List (List Int)},RelDL G μ n H xs vs->bU pW xs=some ks->TupsAre H vs ks
 | [],_,ks,r,e=>by cases e;rw[RelDL]at r;subst r;trivial
 |x::xs,_,ks,r,e=>by
  rw[RelDL]at r;obtain⟨v,rr,rfl,r1,r2⟩:=r;unfold bU at e
  cases x with
  |tup ds=>
   dsimp only[pW]at e
   cases q:bU hJ ds with
   |none=>rw[q]at e;cases e
   |some zs=>
    rw[q]at e;dsimp only at e
    cases q2:bU pW xs with
    |none=>rw[q2]at e;cases e
    |some ys=>rw[q2]at e;cases e;rw[RelD]at r1;obtain⟨b,us,rfl,h1,h2⟩:=r1;rw[rQ h2 q]at h1;exact⟨⟨b,rfl,h1⟩,BH r2 q2⟩
  |_=>cases e
theorem KH {μ:Nat->ai}{n:Nat}{H:Hp}:∀{vs:List V}{ks:List (List Int)},TupsAre H vs ks->RelDL G μ n H (ks.map vY) vs
 | [],[],_=>RelDL.nil
 | [],_::_,h=>h.elim
 |_::_,[],h=>h.elim
 |v::vs,k::ks,h=>by obtain⟨⟨b,rfl,e⟩,h2⟩:=h;refine RelDL.cons ?_ (KH h2);unfold vY;rw[RelD];exact⟨b,_,rfl,e,pF k⟩
def vZ (ks:List (List Int)):Bool:=ks.all λk=>!k.isEmpty
theorem XG {ks:List (List Int)}(h:vZ ks=true):∀k∈ks,k≠[]:=λk hk e=>by have:=gk.mp h k hk;rw[e]at this;cases this
theorem KI:dz "set" = some (.type "set"):=by decide +kernel
end
open PySem.SeqAt PySem.MeetsSeq PySem.MeetsSeq2 PySem.MeetsSeq3
section
variable{X:Cx}{G:Cfg}{E:XK}{k:Nat}{e a b o:bu}{es:List bu}{mo me ma mb:M Dv}{aS:M (List Dv)}{p p2 pos pos2 apos cpos np:Pos}{y:Str}
theorem XH {prog:bg}{w:cn}{A:cg}{Ee:af->ag->Prop}{s:ag}{t sl:ai}{items:Array af}{vl vu:af}{lo hi:Option Int}{Q:af->ag->Prop}(ht:Bn s.heap t items) (hs:s.heap.IsSliceOf sl vl vu .none) (pl:tw vl lo) (pu:tw vu hi)
  (h0:HT.sIx items.size 0 lo=0) (h1:HT.sIx items.size items.size hi=items.size) (h:Q (.ref t) s):wpAny (model prog w) A (getItem (.ref t) (.ref sl)) Q Ee s:=by
 obtain⟨os,hos,hcs,hds⟩:=id hs;have hTs:s.TypeIs (.ref sl) "slice" := ⟨os,hos,hcs⟩;have tt:=ht.typeIs;obtain⟨ot,et,ct,_⟩:=id ht;unfold getItem
 try with_reducible refine fg ?_
 first|refine aa (ah ?_)|skip
 refine aa (xw tt (by decide) (aa (da (name:=ik "__getitem__") tt de (ed de tt xg ?_ (wy _ _)))));refine aa (m:=slotArgs "__getitem__" 1 ⟨[.ref t,.ref sl],[]⟩) (ah (aa (Cn ht (aa (lh hTs ?_)))));rw[if_pos (by decide)];refine aa (HT.sliceApplied_gen hs pl pu ?_);rw[h0,h1];show wpAny _ _ (if(((0:Nat):Int)==0&&(1:Int)==1&&(items.size - 0)==items.size)=true then _ else _) _ _ s;rw[if_pos (by simp)];unfold Builtin.Tuple.tupleIsExact;refine aa (aa (lh tt (ah ?_)));rw[if_pos (by decide)];refine aa (rn (ah ⟨_,rfl,ah h⟩))
theorem XI:SlR X (λx lo hi H Q=>∃a xs,x=.ref a/\SqT X.K H a xs/\HT.sIx xs.length 0 lo=0/\HT.sIx xs.length xs.length hi=xs.length/\Q (.ref a) H):=by
 intro pins s σ H x v vl vu lo hi sl Q I rx hs pl pu ⟨a,xs,ex,hx,h0,h1,q⟩;subst ex;cases rx;obtain⟨its,r,ht,hz⟩:=I.tuple hx;have hlen:its.toArray.size=xs.length:=by rw[av];exact r.length.symm
 exact⟨"tuple",_,de.lookup,ht.typeIs,XH ht hs pl pu (by rw[hlen];exact h0) (by rw[hlen];exact h1) ⟨.ref a,H,I,rfl,q⟩⟩
def kS (x:Dv) (lo hi:Option Int) (h:Hs):Rs Dv:=match x with
 | .ref j=>match getL h j with
  |some xs=>.ok (.ref h.length) (h++[.lst (gH xs lo hi)])
  |none=>.bad
 | .tup xs=>.ok (.tup (gH xs lo hi)) h
 |_=>.bad
theorem XJ {xs:List Dv}{lo hi:Option Int}(h0:HT.sIx xs.length 0 lo=0) (h1:HT.sIx xs.length xs.length hi=xs.length):gH xs lo hi=xs:=by unfold gH;rw[h0,h1];simp
def dO (m:M Dv) (lo hi:MO):M Dv:=λρ h=>(m ρ h).bind λx h1=>(lo ρ h1).bind λl h2=>(hi ρ h2).bind λu h3=>kS x l u h3
theorem jM {lo hi:Option bu}{ml mh:MO}(ho:aK X G E o mo) (hl:rN X G E lo ml) (hh:rN X G E hi mh):aK X G E (.Subscript o (.Slice lo hi none p2) pos) (dO mo ml mh):=λhK=>
 PE.imp (QI (SlR.or (SlR.or QU QK) XI) (ho hK) (hl hK) (hh hK)) λσ H Q ⟨μ,ρ,h,rs,s,oo⟩=>eO rs s oo λμ1 x h1 vx H1 x1 rs1 s1 r1 o1=>by
  refine⟨μ1,ρ,h1,rs1,s1,(o1.bind (R1:=λ_ _ _ a b=>b=a)).mono λl' H2 ⟨μ2,l,h2,x2,s2,el,o2⟩=>?_⟩;subst el;refine⟨μ2,ρ,h2,rs1.mono x2,s2,(o2.bind (R1:=λ_ _ _ a b=>b=a)).mono λu' H3 ⟨μ3,u,h3,x3,s3,eu,o3⟩=>?_⟩;subst eu;have r3:=RelD.mono (x2.trans x3) _ _ r1
  cases x with
  |ref j=>
   dsimp only[kS]at o3
   cases q:getL h3 j with
   |none=>rw[q]at o3;exact o3.elim
   |some xs=>rw[q]at o3;obtain⟨vs,ea,ra⟩:=s3.ob j _ (eG q);obtain⟨_,rfl⟩:=r3;exact .inl (.inl ⟨_,vs,rfl,SqL.of ea,λp hp=>nA s3 (IB ra _ _) hp o3⟩)
  |tup xs=>
   dsimp only[kS]at o3;obtain⟨a,vs,rfl,ea,ra⟩:=r3
   by_cases hw:HT.sIx xs.length 0 l'=0/\HT.sIx xs.length xs.length u'=xs.length
   ·refine .inr ⟨a,vs,rfl,SqT.of ea,by rw[ra.length];exact hw.1,by rw[ra.length];exact hw.2,o3 μ3 _ _ Ext.refl s3 ?_⟩;rw[XJ hw.1 hw.2];exact⟨a,vs,rfl,ea,ra⟩
   ·exact .inl (.inr ⟨a,vs,rfl,SqT.of ea,by rw[ra.length];exact hw,λp hp=>o3 μ3 _ _ (Ext.same (cG hp)) (s3.same (cG hp)) ⟨p,_,rfl,cK,RelDL.mono (Ext.same (cG hp)) _ _ (IB ra _ _)⟩⟩)
  |_=>exact o3.elim
def dF (x y:Dv) (h:Hs):Rs Dv:=match x,y with
 | .int i,.int j=>.ok (.bl (decide (i<j))) h
 | .tup xs,.tup ys=>match bU hJ xs,bU hJ ys with
  |some ns,some ms=>.ok (.bl (HT.lexLt ns ms)) h
  |_,_=>.bad
 |_,_=>.bad
theorem KJ:∀x y:List Int,HT.lexLt x y=cT x y
 | [],[]=>rfl
 | [],_::_=>rfl
 |_::_,[]=>rfl
 |a::x,b::y=>by
  rw[HT.lexLt_cons,cT,KJ x y]
  by_cases h:a=b <;> simp[h]
theorem KL:fO G (λx y H Q=>(iZ λi j=>.bl (decide (i<j))) x y H Q∨FJ G.K x y H Q) dF:=by
 intro E μ h H x y vx vy Q s rx ry o;unfold dF at o
 split at o
 ·rename_i i j;exact .inl (nF E μ h H (.int i) (.int j) vx vy Q s rx ry o)
 ·rename_i xs ys
  cases q1:bU hJ xs with
  |none=>rw[q1]at o;exact o.elim
  |some ns=>
   cases q2:bU hJ ys with
   |none=>rw[q1,q2]at o;exact o.elim
   |some ms=>rw[q1,q2]at o;obtain⟨a,us,rfl,ea,ra⟩:=rx;obtain⟨b,ws,rfl,eb,rb⟩:=ry;exact .inr ⟨a,b,ns,ms,rfl,rfl,SqT.of (by rw[ea,rQ ra q1]),SqT.of (by rw[eb,rQ rb q2]),o.val s rfl⟩
 ·exact o.elim
theorem BI (g:Good X G E k) (ha:aK X G E a ma) (hb:aK X G E b mb):aK X G E (.Compare a [.Lt] [b] pos) (m2 dF ma mb):=λhK=>qV (OpR.or zJ (FK (by have:=g.room.un;omega))) (by rw[hK];exact KL) ha hb (lY _) hK
theorem rZ (g:Good X G E k) (ha:aK X G E a ma) (hb:aK X G E b mb):fV X G E (.Compare a [.Lt] [b] pos) (mB (m2 dF ma mb)):=λhK=>nB (OpR.or zJ (FK (by have:=g.room.un;omega))) (by rw[hK];exact KL) ha hb (lY _) hK
def bK (j:Int):List Int:=(bf j.toNat).map λk:Nat=>(k:Int)
theorem KN:CallR X (.type "range") (λxs H Q=>∃j:Int,xs=[.int j]/\∀l,H l=none->Q (.ref l) (upd H l (.rng 0 j))):=by intro pins s σ H xs us Q I rv ⟨j,e,q⟩;subst e;obtain⟨u,rfl,ru⟩:=iF rv;obtain⟨t,rfl⟩:=ru;refine call_range_1 ⟨.ref s.heap.objs.size,_,I.laid (t':=s.toks+1+1) (o:=.rng 0 j) (λb ob q=>aj _ q) (ak _) ⟨_,_,_,ax _ rfl⟩,rfl,q _ (I.hok.fresh (ak _))⟩
theorem XM (rm:Room k X.A):CallR X (.type "list") (λxs H Q=>∃(l:ai) (j:Int),xs=[.ref l]/\H l=some (.rng 0 j)/\0<=j/\j<=1000/\∀D,H D=none->Q (.ref D) (upd H D (.lst ((bK j).map V.int)))):=by
 intro pins s σ H xs us Q I rv ⟨l,j,e,hl,h0,h1,q⟩;subst e;obtain⟨u,rfl,ru⟩:=iF rv;cases ru;obtain⟨t,u,v,hr⟩:=I.hok l _ hl;refine call_list_range (n:=j.toNat) (a:=0) (b:=j) (c:=1) rm.hd hr (small_one (by omega) (by omega) (by omega) (by omega)) ?_ (by omega) λh' tk acc c ke ho ia=>?_
 ·rw[Cj]
  split <;> omega
 ·have hv:Vals ((bK j).map V.int) acc.toList:=by
   have:∀(n:Nat) (as:List af),as.length=n->(∀(i:Nat) (v:af),as[i]?=some v->∃t,v=Ap (0+(i:Int)*1) t)->Vals (((bf n).map λk:Nat=>(k:Int)).map V.int) as:=λn=>by
    induction n with
    |zero=>intro as hl _;rw[si.mp hl];exact .nil
    |succ n ih=>
     intro as hl hi;have hne:as≠[]:=λz=>by rw[z]at hl;cases hl
     have e:=pq hne;rw[<-e,uc,jb,jb];have hlast:as[n]?=some (as.getLast hne):=by
      rw[Bf,ar (by omega)]
      congr 2;omega
     obtain⟨t,ht⟩:=hi n _ hlast;refine Vals.append (ih as.dropLast (by simp[hl]) λi v hv=>hi i v ?_) ?_
     ·rw[Bl]at hv
      split at hv
      ·exact hv
      ·cases hv
     ·refine .cons ?_ .nil;show RelV (.int (n:Int)) _;rw[ht];exact⟨t,by simp⟩
   refine this j.toNat acc.toList (by simpa using ia.1) λi v hv=>?_;exact ia.2 i v (by simpa using hv)
  refine⟨.ref s.heap.objs.size,_,I.laid (t':=tk) ke (ak _) (show ObjOk X.prog X.w _ _ _ (.lst ((bK j).map V.int)) from⟨?_,acc.toList,c,hv, ?_⟩),rfl,q _ (I.hok.fresh (ak _))⟩
  ·rw[bo,bK,bo,jx,ij];omega
  ·rw[ho]
def oG:Dv->Hs->Rs Dv
 | .int j,h=>if(decide (0<=j)&&decide (j<=1000))=true then .ok (.ref h.length) (h++[.lst ((bK j).map Dv.int)])else .bad
 |_,_=>.bad
theorem XN (g:Good X G E k) (hg:Gl X "list") (hm:X.mg "list" = none) (hg2:Gl X "range") (hm2:X.mg "range" = none) (ha:dZ X G E [e] aS)
  (he:aw [e] X.env=[(false,eval e X.env)]:=by rfl) (he2:aw [uw (.Name "range" p2) [e] [] pos2] X.env=[(false,eval (.Call (.Name "range" p2) [e] [] pos2) X.env)]:=by rfl):
  aK X G E (.Call (.Name "list" p) [.Call (.Name "range" p2) [e] [] pos2] [] pos) (aE (f1 oG) aS):=λhK=>
 PE.imp (mZ (XM g.room) hg hm qY (gW (mZ KN hg2 hm2 Bp (ha hK) (by decide) (by decide) he rfl) jA he2) (by decide) (by decide) he2 rfl) λσ H Q ⟨μ,ρ,h,rs,s,o⟩=>by
  refine iH rs s o λμ1 ds h1 vs H1 x1 rs1 s1 r1 o1=>?_;unfold f1 at o1
  split at o1
  ·rename_i d;obtain⟨v,rfl,rv⟩:=nJ r1
   cases d with
   |int j=>
    dsimp only[oG]at o1
    split at o1
    ·rename_i h0;rw[cy]at h0;have j0:0<=j:=by simpa using h0.1
     have j1:j<=1000:=by simpa using h0.2
     rw[RelD]at rv;subst rv;refine⟨j,rfl,λl hl=>?_⟩;have sm:=cG (o:=.rng 0 j) hl;refine⟨l,j,rfl,cK,j0,j1,λD hD=>?_⟩;exact nA (E:=E) (s1.same sm) (pF _) hD (λμ' H' v x'=>o1 μ' H' v ((Ext.same sm).trans x'))
    ·exact o1.elim
   |_=>exact o1.elim
  ·exact o1.elim
end
section
variable{mo me:M Dv}{ml mh:MO}
end
section
variable{X:Cx}{G:Cfg}{E:XK}{k:Nat}{e a b o:bu}{es:List bu}{mo me ma mb:M Dv}{aS:M (List Dv)}{p p2 pos pos2 apos cpos np:Pos}{y:Str}
theorem sub_tuple:isSubtype (.type "tuple") (.type "set")=pure false/\isSubtype (.type "tuple") (.type "frozenset")=pure false:=by constructor <;> (rw[isSubtype_type];kernel_rfl)
abbrev KO (X:Cx):List V->Hp->VK->Prop:=λxs H Q=>∃(p:ai) (vs:List V) (ks:List (List Int)),xs=[.ref p]/\H p=some (.tup vs)/\TupsAre H vs ks/\(dR cT ks).length<=76/\∀l o kb,H l=none->vX X.prog X.w l o kb->KbOk H kb ks->Q (.ref l) (upd H l (.frz o (.own 0)))
theorem XO (rm:Room k X.A):CallR X (.type "set") (KO X):=by
 intro pins s σ H xs us Q I rv ⟨p,vs,ks,e,hp,ht,hU,q⟩;subst e;obtain⟨u,rfl,ru⟩:=iF rv;cases ru;obtain⟨its,rits,pl,hz⟩:=I.tuple (SqT.of hp);have hits:=KC ht rits;have lp:=I.hok.lt hp;have hI:s.heap.IsTuple p (bT ks.length (eW vs)).toArray:=by rw[<-hits];exact pl
 have hsz:(bT ks.length (eW vs)).toArray.size=ks.length:=by rw[av,kE]
 have hne:p≠s.heap.objs.size+1:=bc (jy lp);have hb:(s.heap.push (bare X.w)).IsTuple p (bT ks.length (eW vs)).toArray:=yh (items:=(bT ks.length (eW vs)).toArray) hI _;have hs1:(s.heap.push (bare X.w)).objs.size=s.heap.objs.size+1:=Bz _ _;have W:=Walks.tuple (prog:=X.prog) (w:=X.w) (A:=X.A.in1.in1.in1) (show X.A.in1.in1.in1.handled=none from rm.hd) (s.heap.objs.size+1) p hne (bT ks.length (eW vs)).toArray;rw[hsz]at W;refine J8 (T := "tuple") (it:={ cls:=.type "tuple_iterator",data:=.fields #[.ref p,.int 0 0] }) (eW vs) (λi=>ks.getD i []) (dR cT ks) (by have:=rm.un;omega) hI.typeIs sub_tuple.1 sub_tuple.2 (by decide) (λB Q' E' hQ=>?_) W (λm=>?_) (λb hb=>?_) ⟨⟨{ cls:=.type "tuple_iterator",data:=.fields #[.ref p,.int 0 0] }, ?_,rfl,rfl⟩,yh (items:=(bT ks.length (eW vs)).toArray) hb _⟩ (λi v hv=>?_) hU (λi hi=>?_) (λj hj=>BG I (ht.at_ hj).2) λh' tk kb hS hup k=>?_
 ·refine oq hb ?_;rw[<-hs1]at hQ;exact hQ
 ·rcases ba.mp m with z|m
  ·exact pd _ z.symm
  ·exact jl lp (cw.mp m)
 ·rw[cw.mp hb];exact kd _
 ·rw[<-hs1];exact ax _ rfl
 ·have hi:i<ks.length:=by have:=(du.mp hv).1;rwa [hsz]at this
  have:(bT ks.length (eW vs))[i]?=some (.ref (eW vs i)):=by simp[bT,hi]
  rw[Cc,this]at hv;exact(cx hv).symm
 ·refine(pU stoL _ _).mpr ?_;show ks.getD i []∈ks;simp[hi]
 ·obtain⟨o,es,ep,t,P⟩:=hS;refine⟨.ref s.heap.objs.size,_,I.laid (t':=tk) (o:=.frz o (.own 0)) k (ak _) ⟨P.obj,o,P.obj⟩,rfl,q _ o kb (I.hok.fresh (ak _)) ⟨es,ep,t,λh e=>P.at' e⟩ ⟨λz hz=>?_,λz hz=>?_,λz hz=>?_⟩⟩
  ·obtain⟨j,hj,rfl⟩:=hup.from_ z hz;exact(ht.at_ hj).2
  ·obtain⟨j,hj,rfl⟩:=hup.from_ z hz;show ks.getD j []∈ks;simp[hj]
  ·obtain⟨j,hj,rfl⟩:=jh hz;have:=hup.all j hj;simpa[hj]using this
theorem XQ (rm:Room k X.A):CallR X (.type "set") (λxs H Q=>KD X xs H Q∨KO X xs H Q):=by
 intro pins s σ H xs us Q I rv h
 rcases h with h|h
 ·exact XD rm pins s σ H xs us Q I rv h
 ·exact XO rm pins s σ H xs us Q I rv h
def pX (x:Dv) (h:Hs):Option (List (List Int)):=match x with
 | .ref i=>match getL h i with
  |some xs=>bU pW xs
  |none=>none
 | .tup xs=>bU pW xs
 |_=>none
def pY (x:Dv) (h:Hs):Rs Dv:=match pX x h with
 |some ks=>if(vZ ks&&decide ((dR cT ks).length<64))=true then .ok (.ref h.length) (h++[.lst ((dR cT ks).map vY)])else .bad
 |none=>.bad
theorem XR (g:Good X G E k) (hg:Gl X "sorted") (hm:X.mg "sorted" = none) (hg2:Gl X "set") (hm2:X.mg "set" = none) (ha:dZ X G E [e] aS)
  (he:aw [e] X.env=[(false,eval e X.env)]:=by rfl) (he2:aw [uw (.Name "set" p2) [e] [] pos2] X.env=[(false,eval (.Call (.Name "set" p2) [e] [] pos2) X.env)]:=by rfl):
  aK X G E (.Call (.Name "sorted" p) [.Call (.Name "set" p2) [e] [] pos2] [] pos) (aE (f1 pY) aS):=λhK=>
 PE.imp (oX (XF g.room) hg hm VQ (gW (mZ (XQ g.room) hg2 hm2 KI (ha hK) (by decide) (by decide) he rfl) jA he2) (by decide) (by decide) he2 rfl) λσ H Q ⟨μ,ρ,h,rs,s,o⟩=>by
  refine iH rs s o λμ1 ds h1 vs H1 x1 rs1 s1 r1 o1=>?_;unfold f1 at o1
  split at o1
  ·rename_i d;obtain⟨v,rfl,rv⟩:=nJ r1;unfold pY at o1
   cases q:pX d h1 with
   |none=>rw[q]at o1;exact o1.elim
   |some ks=>
    rw[q]at o1;dsimp only at o1
    split at o1
    ·rename_i h0;rw[cy]at h0;have h64:(dR cT ks).length<64:=by simpa using h0.2
     have fin:∀(l:ai) (o:Obj) (kb:KB),H1 l=none->vX X.prog X.w l o kb->KbOk H1 kb ks->KG X [.ref l] (upd H1 l (.frz o (.own 0))) Q:=λl o kb hl so ko=>by have sm:=cG (o:=.frz o (.own 0)) hl;refine⟨l,o,kb,ks,rfl,cK,so,⟨λp hp=>sm _ _ (ko.tup p hp),ko.frm,ko.all⟩,XG h0.1,h64,λD vs' hD ht=>?_⟩;exact nA (E:=E) (s1.same sm) (KH ht) hD (λμ' H' v x'=>o1 μ' H' v ((Ext.same sm).trans x'))
     cases d with
     |ref i=>
      dsimp only[pX]at q
      cases q1:getL h1 i with
      |none=>rw[q1]at q;cases q
      |some xs=>rw[q1]at q;obtain⟨vs,e1,r2⟩:=s1.ob i _ (eG q1);obtain⟨_,rfl⟩:=rv;exact .inl ⟨_,vs,ks,rfl,e1,BH r2 q,by omega,fin⟩
     |tup xs=>obtain⟨a,vs,rfl,e1,r2⟩:=rv;exact .inr ⟨_,vs,ks,rfl,e1,BH r2 q,by omega,fin⟩
     |_=>cases q
    ·exact o1.elim
  ·exact o1.elim
end
theorem KQ {α β:Type}{f g:α->Option β}:∀l:List α,(∀x∈l,f x=g x)->l.filterMap f=l.filterMap g
 | [],_=>rfl
 |x::l,h=>by rw[cb,cb,h x (by simp),KQ l λy hy=>h y (by simp[hy])]
theorem XS (xs:Array af):((bf xs.size).filterMap λ(m:Nat)=>xs[((xs.size:Int) - 1+(m:Int)*(-1)).toNat]?).toArray=xs.toList.reverse.toArray:=by
 congr 1
 have e:((bf xs.size).filterMap λ(m:Nat)=>xs[((xs.size:Int) - 1+(m:Int)*(-1)).toNat]?)=(bf xs.size).filterMap λm=>xs.toList.reverse[m]?:=by
  refine KQ _ λm hm=>?_;have hm':m<xs.size:=bp.mp hm;rw[List.getElem?_reverse (by simpa using hm'),kz]
  congr 1
  simp;omega
 rw[e];have:∀(l:List af) (n:Nat),n<=l.length->(bf n).filterMap (λm=>l[m]?)=l.take n:=λl n=>by
  induction n with
  |zero=>intro _;simp
  |succ n ih=>intro h;rw[uc,List.filterMap_append,ih (by omega),oj (by omega)];simp[show n<l.length by omega]
 rw[this _ _ (by simp),oi (by simp)]
theorem XT {prog:bg}{w:cn}{A:cg}{Ee:af->ag->Prop}{s:ag}{sl:ai}{vs:af}{n:Nat}{Q:Int×Int×Nat->ag->Prop}(hs:s.heap.IsSliceOf sl .none .none vs) (pv:tw vs (some (-1)))
  (h:Q ((n:Int) - 1,-1,n) s):wpAny (model prog w) A (kh (.ref sl) (pure (n:Int))) Q Ee s:=by
 obtain⟨os,hos,hcs,hds⟩:=id hs;have e1:iz none none (-1) (n:Int)=((n:Int) - 1,-1):=by simp[iz]
 have e2:fw ((n:Int) - 1) (-1) (-1)=n:=by
  unfold fw;rw[if_neg (by decide)]
  split
  ·simp
  ·simp;omega
 unfold kh vp;refine aa (aa (dg hos hds (x:=.none) rfl (aa (dg hos hds (x:=.none) rfl (aa (dg hos hds (x:=vs) rfl (ah ?_)))))));refine aa (HT.slicePart_ pv ?_);show wpAny _ _ (if((-1:Int)==0)=true then _ else _) _ _ s;rw[if_neg (by decide)];refine aa (HT.slicePart_ .none (aa (HT.slicePart_ .none (aa (ah ?_)))));show wpAny _ _ (match iz none none (-1) (n:Int)with|(lo,hi)=>pure (lo,(-1:Int),fw lo hi (-1))) _ _ s;rw[e1];show wpAny _ _ (pure ((n:Int) - 1,(-1:Int),fw ((n:Int) - 1) (-1) (-1))) _ _ s;rw[e2];exact ah h
theorem XU {prog:bg}{w:cn}{A:cg}{Ee:af->ag->Prop}{s:ag}{t sl:ai}{items:Array af}{vs:af}{Q:af->ag->Prop}(ht:Bn s.heap t items) (hs:s.heap.IsSliceOf sl .none .none vs) (pv:tw vs (some (-1))) (hz:items.size<=ck)
  (h:Q (.ref s.heap.objs.size) { s with heap:=s.heap.push { cls:=.type "tuple",data:=.seq items.toList.reverse.toArray } }):wpAny (model prog w) A (getItem (.ref t) (.ref sl)) Q Ee s:=by
 obtain⟨os,hos,hcs,hds⟩:=id hs;have hTs:s.TypeIs (.ref sl) "slice" := ⟨os,hos,hcs⟩;have tt:=ht.typeIs;have szo:sizeOk (.seq items.toList.reverse.toArray):=by show items.toList.reverse.toArray.size<=ck;simpa using hz
 unfold getItem
 try with_reducible refine fg ?_
 first|refine aa (ah ?_)|skip
 refine aa (xw tt (by decide) (aa (da (name:=ik "__getitem__") tt de (ed de tt xg ?_ (wy _ _)))));refine aa (m:=slotArgs "__getitem__" 1 ⟨[.ref t,.ref sl],[]⟩) (ah (aa (Cn ht (aa (lh hTs ?_)))));rw[if_pos (by decide)];refine aa (XT hs pv ?_);show wpAny _ _ (if(((items.size:Int) - 1)==0&&(-1:Int)==1&&items.size==items.size)=true then _ else _) _ _ s;rw[if_neg (by simp),XS]
 first
  |exact aa (m:=fi _) (dm (ah ⟨_,rfl,ah h⟩) szo)
  |exact aa (m:=fi _) (dm (aa (ah (ah ⟨_,rfl,ah h⟩))) szo)
  |exact aa (aa (m:=fi _) (dm (ah (ah ⟨_,rfl,ah h⟩)) szo))
  |exact aa (aa (m:=fi _) (dm (ah ⟨_,rfl,ah h⟩) szo))
section
variable{X:Cx}{G:Cfg}{E:XK}{o:bu}{mo:M Dv}{ms:MO}{se:bu}{p2 pos:Pos}
def XW (K:aq) (te:TE) (ts:TO):TE:=λσ H Q=>te σ H λx H1=>ts σ H1 λl H2=>l=some (-1)/\∃a xs,x=.ref a/\SqT K H2 a xs/\∀p,H2 p=none->Q (.ref p) (upd H2 p (.tup xs.reverse))
theorem XX {te:TE}{ts:TO}(he:PE X o te) (hs:PO X (some se) ts):PE X (.Subscript o (.Slice none none (some se) p2) pos) (XW X.K te ts):=by
 intro pins s σ H Q I h;refine Subscript_ (aX (he pins s σ H _ I h) λv s1 ⟨x,H1,I1,r1,q1⟩=>?_);refine wpAny_Slice ?_;rw[Co];refine ah (ah (aX (hs pins s1 σ H1 _ I1 q1) λvs s3 ⟨l,H3,I3,pl,el,a,xs,ex,hx,q⟩=>?_));subst el;subst ex;cases r1;have I4:Inv X pins σ H3 { s3 with heap:=s3.heap.push { cls:=.type "slice",data:=.fields #[.none,.none,vs] } }:=I3.kept (t':=s3.toks) λb ob q=>aj _ q;obtain⟨its,r,ht,hz⟩:=I4.tuple hx;have hg:=XU (prog:=X.prog) (w:=X.w) (A:=X.A) (Ee:=X.xe) (Q:=EP X pins σ Q) ht (xq ..) pl (by rw[av,<-r.length];exact hz) ⟨.ref _,_,I4.laid (t':=s3.toks) (o:=.tup xs.reverse) (λb ob q=>aj _ q) (ak _) ⟨by rw[List.length_reverse];exact hz,its.reverse, ?_,IsTupX.new _ _⟩,rfl,q _ (I4.hok.fresh (ak _))⟩
 ·show wpAny (model X.prog X.w) X.A (subscriptTail o (.Slice none none (some se) p2) (.ref a) (.ref s3.heap.objs.size)) (EP X pins σ Q) X.xe { s3 with heap:=s3.heap.push { cls:=.type "slice",data:=.fields #[.none,.none,vs] } };exact tail_any (ops:=[.ref a,.ref s3.heap.objs.size]) ht.typeIs de.lookup hg (by with_unfolding_all rfl)
 ·have:∀{xs:List V}{us:List af},Vals xs us->Vals xs.reverse us.reverse:=λ{xs us} h=>by
   induction h with
   |nil=>exact .nil
   |cons h1 _ ih=>rw[qv,qv];exact Vals.append ih (.cons h1 .nil)
  exact this r
def BJ (x:Dv) (l:Option Int) (h:Hs):Rs Dv:=match x,l with
 | .tup xs,some (-1)=>.ok (.tup xs.reverse) h
 |_,_=>.bad
theorem RelDL.rev {μ:Nat->ai}{n:Nat}{H:Hp}:∀{ds:List Dv}{vs:List V},RelDL G μ n H ds vs->RelDL G μ n H ds.reverse vs.reverse
 | [],_,h=>by rw[RelDL]at h;subst h;exact RelDL.nil
 |d::ds,_,h=>by rw[RelDL]at h;obtain⟨v,r,rfl,h1,h2⟩:=h;rw[qv,qv];exact(RelDL.rev h2).append (RelDL.cons h1 RelDL.nil)
def wD (m:M Dv) (st:MO):M Dv:=λρ h=>(m ρ h).bind λx h1=>(st ρ h1).bind λl h2=>BJ x l h2
theorem XY (ho:aK X G E o mo) (hs:rN X G E (some se) ms):aK X G E (.Subscript o (.Slice none none (some se) p2) pos) (wD mo ms):=λhK=>
 PE.imp (XX (ho hK) (hs hK)) λσ H Q ⟨μ,ρ,h,rs,s,oo⟩=>eO rs s oo λμ1 x h1 vx H1 x1 rs1 s1 r1 o1=>by
  refine⟨μ1,ρ,h1,rs1,s1,(o1.bind (R1:=λ_ _ _ a b=>b=a)).mono λl' H2 ⟨μ2,l,h2,x2,s2,el,o2⟩=>?_⟩;subst el;unfold BJ at o2
  split at o2
  ·rename_i xs;obtain⟨a,vs,rfl,ea,ra⟩:=RelD.mono x2 _ _ r1;exact⟨rfl,a,vs,rfl,SqT.of ea,λp hp=>o2 μ2 _ _ (Ext.same (cG hp)) (s2.same (cG hp)) ⟨p,_,rfl,cK,RelDL.mono (Ext.same (cG hp)) _ _ (RelDL.rev ra)⟩⟩
  ·exact o2.elim
end
end L2.Mr
namespace L2.Mr.Com
open PySem PySem.Spec PyProof.Rows L2 L2.Mr
def wF:MS:=(aO (cM (m1 (bF oA) (aB 0)) (m1 mF (m1 (bF kA) (aB 0)))))
def F_q2:List Dv->Hs->Rs Dv:=aU 1 1 (wF)
def sD:MS:=(aO (cM (aE F_q2 (aA (aB 0) aC)) (jQ jZ jZ (aB 1) (aB 0) (aB 2))))
def F_qn:List Dv->Hs->Rs Dv:=aU 3 3 (sD)
def BK:MS:=(aO (mL fR (bW (aS nW (aA (aB 0) (aA (dO (aB 0) (cY (mC (.int 1))) dM) aC))) [none,none] (fJ 2 (cQ (aG 0) (cQ (aG 1) fP))) dJ (bS (m2 dF (aB 0) (aB 1))))))
def F_qz:List Dv->Hs->Rs Dv:=aU 1 1 (BK)
def wG:MS:=(aO (aE F_qn (aA (aB 1) (aA (mC (.int 0)) (aA (m2 eC (aB 0) (mC (.int 1))) aC)))))
def F_q1:List Dv->Hs->Rs Dv:=aU 2 2 (wG)
def sE:MS:=(aO (cM (m1 (bF gS) (aB 1)) (mL fR (bW (cI fQ (aB 1)) [none,some 0] (aG 0) dJ (bS (aE F_q1 (aA (aB 1) (aA (aB 0) aC))))))))
def F_qm:List Dv->Hs->Rs Dv:=aU 2 2 (sE)
def oH:MS:=(aO (cM (aE F_qm (aA (aB 0) (aA (aB 1) aC))) (m2 dB (aE (f1 bI) (aA (aB 1) aC)) (mC (.int 2)))))
def F_q6:List Dv->Hs->Rs Dv:=aU 2 2 (oH)
def wH:MS:=(aO (mL fR (bW (cI fQ (aB 1)) [none,some 0] (aG 0) dJ (bS (aE F_q6 (aA (aB 1) (aA (aB 0) aC)))))))
def F_qx:List Dv->Hs->Rs Dv:=aU 2 2 (wH)
def BL:MS:=(aO (mL rF (bW (cI fQ (aB 0)) [none,none] (fJ 2 (cQ (aG 0) (cQ (aG 1) fP))) dJ (bS (m2 dB (aB 0) (aB 1))))))
def F_qy:List Dv->Hs->Rs Dv:=aU 1 1 (BL)
def BM:MS:=(aO (mL fR (bW (cI fQ (aB 0)) [none,none,none,none,some 0] (fJ 2 (cQ (aG 0) (cQ (aG 1) fP))) dJ (lI (cI fQ (aB 4)) (fJ 2 (cQ (aG 2) (cQ (aG 3) fP))) (mB (m2 dB (aB 1) (aB 2))) (bS (m2 (cZ false) (aM (aA (aB 0) (aA (aB 3) aC))) (aB 4)))))))
def F_qg:List Dv->Hs->Rs Dv:=aU 1 1 (BM)
def mQ:MS:=(aL (aW (dU (cA (bG (m1 (bF gS) (aB 0)))) (mB (m2 cC (aE (f1 bI) (aA (aB 0) aC)) (mC (.int 2))))) (aO (mC (.bl false))) bH) (aL (aJ (aB 0) (fJ 2 (cQ (aG 1) (cQ (aG 2) fP)))) (aL (aW (dU (cA (bG (aE F_qn (aA (aB 1) (aA (mC (.int 1)) (aA (mC (.int 6)) aC)))))) (cA (bG (m1 (bF gS) (aB 2))))) (aO (mC (.bl false))) bH) (aL (aW (dU (cA (bG (aE F_qx (aA (aB 1) (aA (aB 2) aC))))) (cA (bG (aE F_qz (aA (aB 2) aC))))) (aO (mC (.bl false))) bH) (aO (cM (m1 mF (aE F_qy (aA (aB 2) aC))) (aE F_qg (aA (aB 2) aC))))))))
def F_q0:List Dv->Hs->Rs Dv:=aU 1 3 (mQ)
def wI (scr:List Int):MS:=(aL (aW (mB (m2 dF (aB 1) (aE (f1 (fI scr)) (aA (aB 0) aC)))) (aO (m2 (fH scr) (aB 0) (aB 1))) bH) (aO (mC (.int 0))))
def F_qc (scr:List Int):List Dv->Hs->Rs Dv:=aU 2 2 (wI scr)
def wJ (scr:List Int):MS:=(aL (aJ (aE (F_qc scr) (aA (aB 0) (aA (aB 1) aC))) (aG 2)) (aL (aW (mB (m2 vE (aB 2) (m2 mK (mC (.int 10)) (mC (.int 18))))) (aO (aR (aA (m2 eC (aB 2) (m2 mK (mC (.int 10)) (mC (.int 18)))) (aA (mC (.bl true)) aC)))) bH) (aO (aR (aA (m2 gR (aB 2) (mC (.int 2147483647))) (aA (mC (.bl false)) aC))))))
def F_qk (scr:List Int):List Dv->Hs->Rs Dv:=aU 2 3 (wJ scr)
def wK:MS:=(aL (aW (bG (m2 aQ (aB 0) (mC (.int 1)))) (aL (aJ (m2 gR (m2 aQ (aB 0) (mC (.int 0))) (aB 1)) (aG 2)) (aL (rG (aB 0) (mC (.int 0)) (m2 mM (m2 aQ (aB 0) (mC (.int 0))) (aB 1))) (aO (aB 2)))) bH) (aL (rG (aB 0) (mC (.int 0)) (m2 gR (m2 bD (m2 jY (m2 aQ (aB 0) (mC (.int 0))) (mC (.int 48271))) (mC (.int 29))) (mC (.int 2147483647)))) (aL (aJ (m2 gR (m2 bD (m2 bD (m2 jY (m2 aQ (aB 0) (mC (.int 0))) (m2 aQ (aB 0) (mC (.int 0)))) (m2 jY (mC (.int 39373)) (m2 aQ (aB 0) (mC (.int 0))))) (mC (.int 7))) (mC (.int 2147483629))) (aG 3)) (aL (aJ (m2 gR (m2 bD (m2 jY (aB 3) (aB 3)) (m2 jY (mC (.int 16807)) (aB 3))) (mC (.int 2147483587))) (aG 3)) (aO (m2 gR (m2 mM (aB 3) (mC (.int 8))) (aB 1)))))))
def F_qv:List Dv->Hs->Rs Dv:=aU 2 4 (wK)
def wL (Fs:List Dv->Hs->Rs Dv):MS:=(aL (aW (bG (m1 (bF rP) (aB 1))) (aL (aW (dU (mB (m2 cC (m1 (bF gS) (aB 0)) (m1 (bF gS) (aB 1)))) (mB (m2 cC (m1 (bF vF) (aB 0)) (m1 (bF vF) (aB 1))))) (aO (mC (.bl false))) bH) (aL (aW (mB (m2 cC (aE (f1 bI) (aA (aB 0) aC)) (aE (f1 bI) (aA (aB 1) aC)))) (aO (mC (.bl false))) bH) (aO (mL fR (bW (aS nW (aA (aB 0) (aA (aB 1) aC))) [none,none] (fJ 2 (cQ (aG 0) (cQ (aG 1) fP))) dJ (bS (aE Fs (aA (aB 0) (aA (aB 1) aC))))))))) bH) (aO (cM (m2 dB (aB 0) (aB 1)) (m2 dB (m1 (bF kA) (aB 0)) (m1 (bF kA) (aB 1))))))
def F_qu:Nat->List Dv->Hs->Rs Dv
 |0=>λ_ _=>.bad
 |n+1=>aU 2 2 (wL (F_qu n))
end L2.Mr.Com
namespace L2
open PySem PySem.Spec PyProof.Rows
section
variable{X:Cx}{D:ai}
end
section
variable{X:Cx}
end
end L2
namespace L2.Mr
open PySem PySem.Spec PyProof.Rows
section
variable{M:Aq}{A:cg}{E:af->ag->Prop}{s:ag}{base:cp}{env:Env}{outer:List Env}{L e T:ai}{C a0:af}{Q:Unit->ag->Prop}
end
section
variable{P:bg}{w:cn}{M:Aq}{A:cg}{E:af->ag->Prop}{s:ag}{H H0:Hp}{base:cp}{env:Env}{outer:List Env}{L e:ai}{C:af}{Q:Unit->ag->Prop}
end
section
variable{P:bg}{w:cn}{K:aq}{mg:Str->Option af}{base:cp}{N:List Str}{qual:Str}{scope:iu}{f:ai}{cdv:af}{A:cg}{outer:List Env}{s0:ag}{H0:Hp}{E0:XK}{G:Cfg}{E:XK}{k:Nat}
end
section
variable{G:Cfg}
end
section
variable{X:Cx}{G:Cfg}{E:XK}{elt tg iter:bu}{ifs:List bu}{sc:iu}{ps pos:Pos}{mi:M Src}{st:dC}{test:M Bool}{me:M Dv}{N:List Str}{cap:List (Option Nat)}
end
section
variable{P:bg}{w:cn}{K:aq}{mg:Str->Option af}{base:cp}{N:List Str}{qual:Str}{f:ai}{G:Cfg}{k:Nat}
end
end L2.Mr
namespace L2.Mr.Cod
open PySem PySem.Spec PyProof.Rows L2 L2.Mr L2.Mr.Com
def wN:MS:=(aW (cA (bG (aE F_q0 (aA (aB 0) aC)))) (uW 0 (aA (mC (.str "this is no order")) aC)) bH)
def F_qo:List Dv->Hs->Rs Dv:=aU 1 1 (wN)
def sF:MS:=(aL (aJ (m2 aQ (aB 0) (mC (.int 1))) (aG 3)) (aO (cM (m2 cC (aB 1) (aB 2)) (cM (m2 (cZ true) (aM (aA (aB 1) (aA (aB 2) aC))) (aB 3)) (m2 (cZ true) (aM (aA (aB 2) (aA (aB 1) aC))) (aB 3))))))
def F_qw:List Dv->Hs->Rs Dv:=aU 3 4 (sF)
def wO:MS:=(aL (aJ (aE (f1 oG) (aA (aB 1) aC)) (aG 2)) (aL (aJ (aR aC) (aG 3)) (aL (iB (mB (m2 cC (aB 2) (aR aC))) (eN (fT (aB 3) (rM (aB 2) (aE F_qv (aA (aB 0) (aA (aE (f1 bI) (aA (aB 2) aC)) aC)))))) 40) (aO (aE (f1 hZ) (aA (aB 3) aC))))))
def F_qi:List Dv->Hs->Rs Dv:=aU 2 4 (wO)
def wQ:MS:=(aL (aJ (aE (f1 jI) (aA (aB 1) aC)) (aG 2)) (aL (dS (aS cJ (aA (aB 0) aC)) (aG 3) (dS (aS cJ (aA (aB 0) aC)) (aG 4) (dS (aS cJ (aA (aB 0) aC)) (aG 5) (aW (eI (mB (m2 (cZ false) (aM (aA (aB 4) (aA (aB 3) aC))) (aB 2))) (eI (mB (m2 (cZ false) (aM (aA (aB 3) (aA (aB 5) aC))) (aB 2))) (mB (m2 (cZ true) (aM (aA (aB 4) (aA (aB 5) aC))) (aB 2))))) (eN (fT (aB 2) (aM (aA (aB 4) (aA (aB 5) aC))))) bH)))) (aO (aE (f1 hZ) (aA (aE (f1 pY) (aA (aB 2) aC)) aC)))))
def F_qf:List Dv->Hs->Rs Dv:=aU 2 6 (wQ)
def wR:MS:=(aL (aJ (m2 eC (aB 1) (m2 aQ (aR (aA (mC (.int 0)) (aA (mC (.int 0)) (aA (mC (.int 1)) (aA (mC (.int 0)) (aA (mC (.int 2)) (aA (mC (.int 1)) (aA (mC (.int 3)) (aA (m2 eC (aB 1) (mC (.int 1))) aC))))))))) (aE F_qv (aA (aB 0) (aA (mC (.int 8)) aC))))) (aG 2)) (aL (aJ (aE lF (aA (mC (.int 1)) (aA (aB 2) aC))) (aG 2)) (aL (aJ (aE F_qi (aA (aB 0) (aA (aB 2) aC))) (aG 3)) (aL (aJ (aE F_qv (aA (aB 0) (aA (mC (.int 5)) aC))) (aG 4)) (aL (aJ (bZ (bW (cI fQ (aB 3)) [none,some 0] (aG 0) dJ (bS (aE F_qv (aA (aB 1) (aA (mC (.int 3)) aC)))))) (aG 5)) (aL (aJ (aR aC) (aG 6)) (aL (dS (aS cJ (aA (aB 2) aC)) (aG 7) (dS (aS jD (aA (m2 bD (aB 7) (mC (.int 1))) (aA (aB 2) aC))) (aG 8) (aL (aJ (m2 dF (aE F_qv (aA (aB 0) (aA (mC (.int 4)) aC))) (m2 aQ (aR (aA (mC (.int 1)) (aA (mC (.int 2)) (aA (mC (.int 3)) aC)))) (m2 gR (aB 4) (mC (.int 3))))) (aG 9)) (aL (aW (mB (m2 dB (aB 4) (mC (.int 3)))) (aJ (m2 dB (m2 aQ (aB 5) (aB 7)) (m2 aQ (aB 5) (aB 8))) (aG 9)) bH) (aL (aW (mB (m2 dB (aB 4) (mC (.int 4)))) (aJ (m2 dF (m2 aQ (aB 5) (aB 7)) (m2 aQ (aB 5) (aB 8))) (aG 9)) bH) (aW (bG (aB 9)) (eN (fT (aB 6) (aM (aA (m2 aQ (aB 3) (aB 7)) (aA (m2 aQ (aB 3) (aB 8)) aC))))) bH)))))) (aO (aM (aA (aB 2) (aA (aE F_qf (aA (aB 2) (aA (aB 6) aC))) aC)))))))))))
def F_qj:List Dv->Hs->Rs Dv:=aU 2 10 (wR)
def wU:MS:=(aL (aJ (aR aC) (aG 1)) (aL (dS (aS cJ (aA (m2 aQ (aB 0) (mC (.int 0))) aC)) (aG 2) (dS (aS jD (aA (m2 bD (aB 2) (mC (.int 1))) (aA (m2 aQ (aB 0) (mC (.int 0))) aC))) (aG 3) (aW (eI (mB (m2 (cZ true) (aM (aA (aB 2) (aA (aB 3) aC))) (m2 aQ (aB 0) (mC (.int 1))))) (mB (m2 (cZ true) (aM (aA (aB 3) (aA (aB 2) aC))) (m2 aQ (aB 0) (mC (.int 1)))))) (eN (fT (aB 1) (aM (aA (aB 2) (aA (aB 3) aC))))) bH))) (aO (aB 1))))
def F_qh:List Dv->Hs->Rs Dv:=aU 1 4 (wU)
def wV:MS:=(aL (aJ (aR (aA (mC .non) (aA (aM aC) (aA (aM (aA (mC (.int 0)) (aA (aM aC) aC))) (aA (aM (aA (mC (.int 7)) (aA (aM aC) aC))) (aA (aM (aA (mC (.bl true)) (aA (aM aC) aC))) (aA (aM (aA (mC (.int 2)) (aA (aR (aA (aM (aA (mC (.int 0)) (aA (mC (.int 1)) aC))) aC)) aC))) (aA (aM (aA (mC (.int 2)) (aA (aM (aA (aM (aA (mC (.int 1)) (aA (mC (.int 0)) aC))) (aA (aM (aA (mC (.int 0)) (aA (mC (.int 1)) aC))) aC))) aC))) (aA (aM (aA (mC (.int 2)) (aA (aM (aA (aM (aA (mC (.int 0)) (aA (mC (.int 0)) aC))) aC)) aC))) (aA (aR (aA (mC (.int 2)) (aA (aM aC) aC))) aC)))))))))) (aG 1)) (aL (aJ (m2 bD (aB 1) (aR (aA (aM (aA (mC (.int 3)) (aA (aM (aA (aM (aA (mC (.int 0)) (aA (mC (.int 1)) aC))) (aA (aM (aA (mC (.int 1)) (aA (mC (.int 2)) aC))) aC))) aC))) (aA (aM (aA (mC (.int 2)) (aA (aM (aA (aM (aA (mC (.int 0)) (aA (mC (.int 1)) aC))) (aA (aM (aA (mC (.int 0)) (aA (mC (.int 1)) aC))) aC))) aC))) (aA (aM (aA (mC (.int 2)) (aA (aM (aA (aM (aA (mC (.int 0)) (aA (mC (.int 2)) aC))) aC)) aC))) (aA (aM (aA (mC (.int 2)) (aA (aM (aA (aM (aA (mC (.int 0)) (aA (mC (.bl true)) aC))) aC)) aC))) (aA (aM (aA (mC (.int 2)) aC)) (aA (aM (aA (mC (.int 2)) (aA (aM aC) (aA (aM aC) aC)))) aC)))))))) (aG 1)) (aL (aJ (m2 bD (aB 1) (aR (aA (aM (aA (mC (.int 3)) (aA (aM (aA (aM (aA (mC (.int 0)) (aA (mC (.int 2)) aC))) (aA (aM (aA (mC (.int 0)) (aA (mC (.int 1)) aC))) aC))) aC))) (aA (mC (.str "2: 0<1")) (aA (mC .edc) (aA (aM (aA (mC (.int 2)) (aA (aM (aA (aM (aA (mC (.int 0)) (aA (mC (.int 1)) (aA (mC (.int 1)) aC)))) aC)) aC))) (aA (aM (aA (mC (.int 2)) (aA (aM (aA (aM (aA (mC (.int 0)) (aA (mC (.int 1)) aC))) (aA (aM (aA (mC (.int 1)) (aA (mC (.int 0)) aC))) aC))) aC))) aC))))))) (aG 1)) (aO (m2 aQ (aB 1) (aE F_qv (aA (aB 0) (aA (mC (.int 20)) aC))))))))
def F_qb:List Dv->Hs->Rs Dv:=aU 1 2 (wV)
end L2.Mr.Cod
namespace L2.Mr
open PySem PySem.Spec PyProof.Rows L2
section
variable{X:Cx}{G:Cfg}{E:XK}{pos:Pos}
end
def mR:M Dv:=λ_ _=>.bad
def wW (f:bu->M Dv):List bu->M (List Dv)
 | []=>aC
 |e::es=>aA (f e) (wW f es)
def lO (lk:Str->Option Nat):Nat->bu->M Dv
 |0,_=>mR
 |n+1,e=>match e with
  | .Constant c _ _=>match c with
   | .int i=>mC (.int i)
   | .bool b=>mC (.bl b)
   | .none=>mC .non
   | .str x=>mC (.str x)
   |_=>mR
  | .Tuple es _ _=>aM (wW (lO lk n) es)
  | .List es _=>aR (wW (lO lk n) es)
  | .Dict [] [] _=>mC .edc
  | .Name x _=>match lk x with
   |some i=>aB i
   |none=>mR
  | .UnaryOp .USub a _=>m1 gZ (lO lk n a)
  |_=>mR
def KR (e:bu):Prop:=∀es env,aw (e::es) env=(false,eval e env)::aw es env
section
variable{X:Cx}{G:Cfg}{E:XK}{lk:Str->Option Nat}
theorem wX {e:bu}:aK X G E e mR:=λ_ pins s σ H Q _ ⟨_,_,_,_,_,o⟩=>o.elim
theorem XZ {e:bu}{es:List bu}{ms:M (List Dv)}:dZ X G E (e::es) (aA mR ms):=λ_ pos pins s σ H Q _ ⟨_,_,_,_,_,o⟩=>o.elim
theorem BN {f:bu->M Dv}(hf:∀e,aK X G E e (f e)/\(KR e∨f e=mR)):∀es,dZ X G E es (wW f es)
 | []=>aN
 |e::es=>by
  obtain⟨a,b|b⟩:=hf e
  ·exact aF a (BN hf es) (b es X.env)
  ·show dZ X G E (e::es) (aA (f e) _);rw[b];exact XZ
theorem wY (hv:∀x i pos,lk x=some i->aK X G E (.Name x pos) (aB i)):∀n e,aK X G E e (lO lk n e)/\(KR e∨lO lk n e=mR)
 |0,_=>⟨wX,.inr rfl⟩
 |n+1,e=>by
  unfold lO
  split
  ·split
   ·exact⟨aT,.inl λ_ _=>rfl⟩
   ·exact⟨gA,.inl λ_ _=>rfl⟩
   ·exact⟨uF,.inl λ_ _=>rfl⟩
   ·exact⟨uG,.inl λ_ _=>rfl⟩
   ·exact⟨wX,.inr rfl⟩
  ·exact⟨fB (BN (wY hv n) _),.inl λ_ _=>rfl⟩
  ·exact⟨fF (BN (wY hv n) _),.inl λ_ _=>rfl⟩
  ·exact⟨IC,.inl λ_ _=>rfl⟩
  ·rename_i x pos
   split
   ·rename_i i q;exact⟨hv x i pos q,.inl λ_ _=>rfl⟩
   ·exact⟨wX,.inr rfl⟩
  ·exact⟨pP (wY hv n _).1,.inl λ_ _=>rfl⟩
  ·exact⟨wX,.inr rfl⟩
theorem lQ (n:Nat) {e:bu}{m:M Dv}(h:lO (λ_=>none) n e=m:=by rfl):aK X G E e m:=h▸(wY (λ_ _ _ h=>by cases h) n e).1
end
structure SW (X:Cx) (G:Cfg) (E:XK) (st:gv) (m:MS):Prop where
 ok:iJ X G E st m
structure SWs (X:Cx) (G:Cfg) (E:XK) (st:List gv) (m:MS):Prop where
 ok:iK X G E st m
section
variable{X:Cx}{G:Cfg}{E:XK}{st:gv}{rest:List gv}{m u:MS}{pos:Pos}
theorem BO (a:SW X G E st m) (b:SWs X G E rest u):SWs X G E (st::rest) (aL m u):=⟨bB a.ok b.ok⟩
theorem X0 (a:SW X G E st m):SWs X G E [st] m:=⟨bC a.ok⟩
theorem X1 (n:Nat) {i:Nat}{x:Str}{pos':Pos}{e:bu}{me:M Dv}(hN:X.N.Nodup) (hi:X.N[i]?=some x) (hx:lW X.env.scope x) (h:lO (λ_=>none) n e=me:=by rfl) (hs:swapsWith e (some (.Name x pos')) pos.line X.env=pure false:=by rfl) (hf:X.fn x=true∨X.env.scope.names.lookup x=some .local:=by first|exact .inl rfl|exact .inr rfl|assumption):
  SW X G E (.Assign [.Name x pos'] e pos) (aJ me (aG i)):=⟨cD hN hi hx (lQ n h) hs hf⟩
theorem KS (n:Nat) {i:Nat}{x:Str}{pos' p2 p3:Pos}{e:bu}{me:M Dv}(hN:X.N.Nodup) (hi:X.N[i]?=some x) (hx:lW X.env.scope x) (hv:aK X G E (.Name x p2) (aB i)) (h:lO (λ_=>none) n e=me:=by rfl) (hs:swapsWith (.BinOp (.Name x p2) .Add e p3) (some (.Name x pos')) pos.line X.env=pure false:=by rfl) (hf:X.fn x=true∨X.env.scope.names.lookup x=some .local:=by first|exact .inl rfl|exact .inr rfl|assumption):
  SW X G E (.Assign [.Name x pos'] (.BinOp (.Name x p2) .Add e p3) pos) (aJ (m2 bD (aB i) me) (aG i)):=⟨cD hN hi hx (eE hv (lQ n h)) hs hf⟩
end
section
variable{P:bg}{w:cn}{K:aq}{mg:Str->Option af}{base:cp}{G:Cfg}{N:List Str}{f:ai}{k:Nat}
theorem X2 {x qual:Str}{st:gv}{fd:bq}{ps:List Str}{mb:MS}(Fn:Fun K x qual st f fd) (S:FnScope N ps (aV st)) (hK:K=G.K)
  (hbody:∀(cdv:af) (A:cg) (outer:List Env) (s:ag) (H:Hp) (E₀ E:XK),Good (fU (bL P w base) P w K mg base N qual (aV st) f cdv A outer s H E₀) G E k->SWs (fU (bL P w base) P w K mg base N qual (aV st) f cdv A outer s H E₀) G E (jP st) mb):
  FnOk P w K mg base (bL P w base) (k+1) f fd ps (cF G (aU ps.length N.length mb)):=cX Fn S hK λcdv A outer s H E₀ E g=>(hbody cdv A outer s H E₀ E g).ok
end
open PySem PySem.Spec PyProof.Rows SR
def kT (ns:List Int):Nat:=(firstMet (λi=>ns.getD i 0) ns.length).length
section
variable{prog:bg}{w:cn}{A:cg}{E:af->ag->Prop}{s:ag}
theorem X3 {l:ai}{T:String}{it:Obj}{n:Nat}{P:Nat->af->Prop}{St:Nat->cp->Prop}{fp wr:List ai}(ky:Nat->Int) {Q:af->ag->Prop}
  (hT:s.TypeIs (.ref l) T) (n1:isSubtype (.type T) (.type "set")=pure false) (n2:isSubtype (.type T) (.type "frozenset")=pure false) (n3:(nc T==nc "dict")=false)
  (hi:∀(B:cg) (Q':af->ag->Prop) (E':af->ag->Prop),Q' (.ref (s.heap.objs.size+1)) { s with heap:=(s.heap.push (bare w)).push it }->wpAny (model prog w) B (pyIter (.ref l)) Q' E' { s with heap:=s.heap.push (bare w) })
  (W:Walks prog w A.in1.in1.in1 (s.heap.objs.size+1) fp wr n P St) (hfp:s.heap.objs.size∉fp) (hwr:∀b∈wr,s.heap.objs.size<b) (h0:St 0 ((s.heap.push (bare w)).push it))
  (hval:∀i v,P i v->∃t,v=.int (ky i) t) (hn:n+1<scanBound)
  (q:∀(h':cp) (tk:Nat),h'.SetOf (intKind prog w) s.heap.objs.size (λk=>(firstMet ky n).any (·==k)) (firstMet ky n).length->(∀b o,s.heap.get? b=some o->h'.get? b=some o)->Q (.ref s.heap.objs.size) { s with heap:=h',toks:=tk }):
  wpAny (model prog w) A (call (.type "set") [.ref l]) Q E s:=by
 refine J7 (N:=λx s1=>x=.ref s.heap.objs.size/\s1={ s with heap:=s.heap.push (bare w) }) (J6 _ ⟨rfl,rfl⟩) ?_
 rintro x s1 ⟨rfl,rfl⟩
 have up:∀b o,s.heap.get? b=some o->(s.heap.push (bare w)).get? b=some o:=λb o e=>aj _ e;have hb:(s.heap.push (bare w)).get? s.heap.objs.size=some (bare w):=ax _ rfl;have hS:mw { s with heap:=s.heap.push (bare w) } (.ref s.heap.objs.size) "set" := ⟨_,hb,rfl⟩;refine⟨hS,qf F.called_set.init.plain F.entry_set_init (check_set_init_1 hS ?_)⟩;obtain⟨ol,el,cl⟩:=hT;have hl1:mw { s with heap:=s.heap.push (bare w) } (.ref l) T:=⟨ol,up l ol el,cl⟩
 have hb2:((s.heap.push (bare w)).push it).get? s.heap.objs.size=some (bare w):=aj _ hb;have run:∀(R:xi->ag->Prop),(∀h' tk,h'.SetOf (intKind prog w) s.heap.objs.size (λk=>(firstMet ky n).any (·==k)) (firstMet ky n).length->(∀b o,s.heap.get? b=some o->h'.get? b=some o)->R (.ok (.ret .none)) { s with heap:=h',toks:=tk })->
   codeAny (model prog w) A.in1.in1 (.builtin "set.update.loop" ⟨[.ref s.heap.objs.size,.ref (s.heap.objs.size+1)],[]⟩) R { s with heap:=(s.heap.push (bare w)).push it }:=λR hR=>by
  refine codeAny_set_update_loopS W.toS s.heap.objs.size hfp ky hval hn n 0 _ rfl (jc _) h0 (SetOf_congr ((setObjOf_fresh (knd:=intKind prog w) _).setOf hb2 (by unfold scanBound;omega)) (λ_=>rfl) rfl) λs' hm hS'=>?_;rw[Moved.eq_with hm];refine hR s'.heap s'.toks hS' λb o e=>?_;have hlt:=ao e;exact hm.heap b o (λm=>(ba.mp m).elim (bc hlt) λm=>Ca hlt (hwr b m)) (aj _ (up b o e))
 unfold km.«set.__init__» noKeywords ud;generalize hPI:pyIter=PI;unfold bare at hb
 wp_walk
 subst hPI;refine hi _ _ _ ?_;refine aa (wd (run _ λh' tk S keep=>?_));exact ah (ah ⟨rfl,q h' tk S keep⟩)
end
section
variable{X:Cx}{G:Cfg}{E:XK}{k:Nat}{e:bu}{aS:M (List Dv)}{p p2 pos pos2:Pos}
abbrev X4:List V->Hp->VK->Prop:=λxs H Q=>∃(p:ai) (ns:List Int),xs=[.ref p]/\H p=some (.tup (ns.map V.int))/\ns.length<1000/\∀l S,H l=none->Q (.ref l) (upd H l (.set S (kT ns)))
theorem X5 (hc:X.calm=true):CallR X (.type "set") X4:=by
 intro pins s σ H xs us Q I rv ⟨p,ns,e,hp,hz,q⟩;subst e;obtain⟨u,rfl,ru⟩:=iF rv;cases ru;obtain⟨its,rits,pl,_⟩:=I.tuple (SqT.of hp);have lp:=I.hok.lt hp;have hn:its.toArray.size=ns.length:=by have:=rits.length;simp at this ⊢;omega
 have hI:s.heap.IsTuple p its.toArray:=pl;have hne:p≠s.heap.objs.size+1:=bc (jy lp);have hb:(s.heap.push (bare X.w)).IsTuple p its.toArray:=yh (items:=its.toArray) hI _;have hs1:(s.heap.push (bare X.w)).objs.size=s.heap.objs.size+1:=Bz _ _;have W:=Walks.tuple (prog:=X.prog) (w:=X.w) (A:=X.A.in1.in1.in1) (show X.A.in1.in1.in1.handled=none from I.ok.hd hc) (s.heap.objs.size+1) p hne its.toArray;rw[hn]at W;refine X3 (T := "tuple") (it:={ cls:=.type "tuple_iterator",data:=.fields #[.ref p,.int 0 0] }) (λi=>ns.getD i 0) hI.typeIs sub_tuple.1 sub_tuple.2 (by decide) (λB Q' E' hQ=>?_) W (λm=>?_) (λb hb=>?_) ⟨⟨{ cls:=.type "tuple_iterator",data:=.fields #[.ref p,.int 0 0] }, ?_,rfl,rfl⟩,yh (items:=its.toArray) hb _⟩ (λi v hv=>VP rits hv) (by unfold scanBound;omega) λh' tk hS kk=>?_
 ·refine oq hb ?_;rw[<-hs1]at hQ;exact hQ
 ·rcases ba.mp m with z|m
  ·exact pd _ z.symm
  ·exact jl lp (cw.mp m)
 ·rw[cw.mp hb];exact kd _
 ·rw[<-hs1];exact ax _ rfl
 ·exact⟨.ref s.heap.objs.size,_,I.laid (t':=tk) (o:=.set _ (kT ns)) kk (ak _) hS,rfl,q _ _ (I.hok.fresh (ak _))⟩
abbrev X6:List V->Hp->VK->Prop:=λxs H Q=>∃(l:ai) (S:Int->Bool) (n:Nat),xs=[.ref l]/\H l=some (.set S n)/\Q (.int n) H
theorem X7:CallR X (.builtin "len") X6:=by intro pins s σ H xs us Q I rv ⟨l,S,n,e,hl,q⟩;subst e;obtain⟨u,rfl,ru⟩:=iF rv;cases ru;obtain⟨o,es,ep,t,ho,hex,hd,_,_,hsz,hf,en⟩:s.heap.SetOf (intKind X.prog X.w) l S n:=I.hok l _ hl;refine call_len_set ho hex hd hf (by unfold scanBound at hsz;omega) ?_;rw[en];exact⟨.int n,H,I.tok _,⟨_,rfl⟩,q⟩
def kF:Dv->Hs->Rs Dv
 | .tup xs,h=>match bU hJ xs with
  |some ns=>if ns.length<1000 then .ok (.int (kT ns)) h else .bad
  |none=>.bad
 |_,_=>.bad
theorem KU (hc:X.calm=true) (hg:Gl X "len") (hm:X.mg "len" = none) (hg2:Gl X "set") (hm2:X.mg "set" = none) (ha:dZ X G E [e] aS)
  (he:aw [e] X.env=[(false,eval e X.env)]:=by rfl) (he2:aw [uw (.Name "set" p2) [e] [] pos2] X.env=[(false,eval (.Call (.Name "set" p2) [e] [] pos2) X.env)]:=by rfl):
  aK X G E (.Call (.Name "len" p) [.Call (.Name "set" p2) [e] [] pos2] [] pos) (aE (f1 kF) aS):=λhK=>
 PE.imp (oX X7 hg hm ye (gW (mZ (X5 hc) hg2 hm2 KI (ha hK) (by decide) (by decide) he rfl) jA he2) (by decide) (by decide) he2 rfl) λσ H Q ⟨μ,ρ,h,rs,s,o⟩=>by
  refine iH rs s o λμ1 ds h1 vs H1 x1 rs1 s1 r1 o1=>?_;unfold f1 at o1
  split at o1
  ·rename_i d;obtain⟨v,rfl,rv⟩:=nJ r1
   cases d with
   |tup xs=>
    dsimp only[kF]at o1
    cases q:bU hJ xs with
    |none=>rw[q]at o1;exact o1.elim
    |some ns=>
     rw[q]at o1;dsimp only at o1
     split at o1
     ·rename_i h0;obtain⟨a,vs,rfl,e1,r2⟩:=rv;refine⟨a,ns,rfl,by rw[e1,rQ r2 q],h0,λl S hl=>⟨l,S,_,rfl,cK, ?_⟩⟩;exact o1 μ1 _ _ (Ext.same (cG hl)) (s1.same (cG hl)) rfl
     ·exact o1.elim
   |_=>exact o1.elim
  ·exact o1.elim
end
theorem KW (ns:List Int):∀i,i<=ns.length->∀k,k∈firstMet (λi=>ns.getD i 0) i↔k∈ns.take i
 |0,_,k=>by simp[firstMet_zero]
 |i+1,h,k=>by
  have ih:=KW ns i (by omega);have hi:i<ns.length:=by omega
  rw[firstMet_succ];unfold step_dedup;rw[oj hi]
  by_cases c:(firstMet (λi=>ns.getD i 0) i).any (·==ns.getD i 0)=true
  ·rw[if_pos c];simp only[mn,beq_iff_eq,exists_eq_right]at c;rw[ih,br];refine⟨.inl,λz=>z.elim id λz=>?_⟩;have:k=ns[i]:=by simpa using z
   rw[this];have:=(ih _).mp c;simpa[hi]using this
  ·rw[if_neg c,br,br,ih];simp[hi]
theorem KY (ns:List Int):kT ns=ns.length↔ns.Nodup:=by
 have key:∀i,i<=ns.length->((firstMet (λi=>ns.getD i 0) i).length=i↔(ns.take i).Nodup):=by
  intro i
  induction i with
  |zero=>intro _;simp[firstMet_zero]
  |succ i ih=>
   intro h;have hi:i<ns.length:=by omega
   have ih:=ih (by omega);have le:=firstMet_length_le (λi=>ns.getD i 0) i;rw[firstMet_succ,step_length,oj hi,List.nodup_append];have hm:((firstMet (λi=>ns.getD i 0) i).any (·==ns.getD i 0)=true)↔ns[i]∈ns.take i:=by rw[<-KW ns i (by omega)];simp[hi]
   by_cases c:(firstMet (λi=>ns.getD i 0) i).any (·==ns.getD i 0)=true
   ·rw[if_pos c];refine⟨λz=>by omega,λz=>?_⟩;exact absurd rfl (z.2.2 _ (hm.mp c) _ (cw.mpr rfl))
   ·rw[if_neg c];refine⟨λz=>⟨ih.mp (by omega),by simp,λa ha b hb e=>?_⟩,λz=>by rw[ih.mpr z.1]⟩;have:b=ns[i]:=by simpa using hb
    subst this;subst e;exact c (hm.mpr ha)
 have:=key ns.length (ak _);rw[List.take_length]at this;exact this
open PySem PySem.Spec PyProof.Rows
abbrev mS (h:cp) (z TI TO:ai) (f0:af) (b:Bool):Prop:=h.get? z=some { cls:=.type "zip",data:=.fields #[f0,.bool b,.bool false,.ref TI,.ref TO] }
def BP (z i j:ai) (h h':cp):Prop:=∀b o,b≠z->b≠i->b≠j->h.get? b=some o->h'.get? b=some o
section
variable{prog:bg}{w:cn}{A:cg}{E:af->ag->Prop}{s:ag}{z TI TO i j u v T:ai}{xs ys:List af}{st su:Nat->cp->Prop}{f1:Bool}
theorem X8 {a:ai}{Q:Option Obj->ag->Prop}(h:Q (s.heap.get? a) s):wpAny (model prog w) A (loadIfAlive a) Q E s:=λ_ _ _=>h
theorem KZ {Q:Bool->ag->Prop}(hz:mS s.heap z TI TO (rawInt T) f1) (hT:∃o,s.heap.get? T=some o)
  (k:∀h',ig z s.heap h'->mS h' z TI TO (rawInt T) true->Q false { s with heap:=h' }):wpAny (model prog w) A (kn (.ref z)) Q E s:=by
 obtain⟨o,ho⟩:=hT;refine aa (dg hz rfl (x:=rawInt T) rfl ?_);show wpAny _ _ (loadIfAlive (T:Int).toNat >>= _) _ _ _;refine aa (X8 ?_);rw[fe,ho];show wpAny _ _ (field (.ref z) 1 >>= _) _ _ _;refine aa (dg hz rfl (x:=.bool f1) rfl ?_)
 cases f1 with
 |true=>exact ah (k s.heap (ph ..) hz)
 |false=>show wpAny _ _ (setField (.ref z) 1 (.bool true) >>= _) _ _ _;exact aa (ja hz (by simp) λg1 z1 b1=>ah (k g1 b1 z1))
theorem X9 {n:Nat}{x y:af}{Q:af->ag->Prop}(F4:Four z TI TO i j u v) (P:Draws prog w i u xs st) (R:Draws prog w j v ys su) (hz:mS s.heap z TI TO (rawInt T) f1) (hTI:ju s.heap TI (.ref i) (.ref j)) (hT:∃o,s.heap.get? T=some o)
  (p:st n s.heap) (r:su n s.heap) (hx:xs[n]?=some x) (hy:ys[n]?=some y)
  (k:∀h' T',s.heap.objs.size<=T'->mS h' z TI TO (rawInt T) true->ju h' TI (.ref i) (.ref j)->st (n+1) h'->su (n+1) h'->ju h' T' x y->BP z i j s.heap h'->Q (.ref T') { s with heap:=h' }):
  wpAny (model prog w) A (km.«zip.__next__» ⟨[.ref z],[]⟩) (λfin s'=>∃v,fin=.done (.ret v)/\Q v s') E s:=by
 refine aa (ah (aa (dg hz rfl (x:=.bool false) rfl (aa (dg hz rfl (x:=.ref TI) rfl (aa (gr hTI rfl ?_)))))));refine aa (KZ hz hT λg1 b1 z1=>?_);rw[if_neg (by decide)];refine aa ?_;rw[<-qg];show wpAny _ _ (forIn [dh i,dh j] _ _) _ _ _;rw[jg];refine aa (aa (fg ?_));show wpAny _ _ (cq (.ref i) >>= _) _ _ _;refine aa (P.item A n x _ _ _ hx (P.keep n _ _ p λb o hb q=>b1.extBut _ _ (eR hb (cm F4.b) F4.u1) q) λg2 p2 b2=>ah (ah ?_));dsimp only;rw[jg];refine aa (aa (fg ?_));show wpAny _ _ (cq (.ref j) >>= _) _ _ _;have r2:su n g2:=R.keep n _ _ r λb o hb q=>b2.extBut _ _ (eR hb (cm F4.f) F4.v3) (b1.extBut _ _ (eR hb (cm F4.c) F4.v1) q);refine aa (R.item A n y _ _ _ hy r2 λg3 r3 b3=>ah (ah ?_));dsimp only;rw[List.forIn_nil];refine ah ?_;refine aa (Bv (hsz:=by show 2<=ck;decide) (ah ⟨_,rfl, ?_⟩));have z3:mS g3 z TI TO (rawInt T) true:=b3.extBut _ _ F4.c (b2.extBut _ _ F4.b z1);have sz:g3.objs.size=s.heap.objs.size:=by rw[b3.1,b2.1,b1.1]
 have all3:BP z i j s.heap g3:=λc o c1 c2 c3 q=>b3.extBut _ _ c3 (b2.extBut _ _ c2 (b1.extBut _ _ c1 q));have p3:st (n+1) g3:=P.keep _ _ _ p2 λb o hb q=>b3.extBut _ _ (eR hb F4.f F4.u4) q;have kp:∀(ob:Obj) b o,g3.get? b=some o->(g3.push ob).get? b=some o:=λob b o q=>aj _ q;refine k _ g3.objs.size (by rw[sz];exact ak _) (kp _ _ _ z3) (kp _ _ _ (all3 _ _ F4.g F4.k F4.l hTI)) (P.keep _ _ _ p3 λb o _ q=>kp _ b o q) (R.keep _ _ _ r3 λb o _ q=>kp _ b o q) (ax _ rfl) λb o c1 c2 c3 q=>kp _ b o (all3 b o c1 c2 c3 q)
theorem YA {n:Nat}{Q:PySem.Fin->ag->Prop}(hh:A.handled=none) (F4:Four z TI TO i j u v) (P:Draws prog w i u xs st) (R:Draws prog w j v ys su) (hz:mS s.heap z TI TO (rawInt T) f1) (hTI:ju s.heap TI (.ref i) (.ref j)) (hT:∃o,s.heap.get? T=some o)
  (p:st n s.heap) (r:su n s.heap) (hend:xs[n]?=none∨ys[n]?=none)
  (k:∀h' e,BP z i j s.heap h'->(∃o,h'.get? e=some o/\o.cls=.type "StopIteration")->E (.ref e) { s with heap:=h' }):
  wpAny (model prog w) A (km.«zip.__next__» ⟨[.ref z],[]⟩) Q E s:=by
 refine aa (ah (aa (dg hz rfl (x:=.bool false) rfl (aa (dg hz rfl (x:=.ref TI) rfl (aa (gr hTI rfl ?_)))))));refine aa (KZ hz hT λg1 b1 z1=>?_);rw[if_neg (by decide)];refine aa ?_;rw[<-qg];show wpAny _ _ (forIn [dh i,dh j] _ _) _ _ _;rw[jg];refine aa (aa (fg ?_));show wpAny _ _ (cq (.ref i) >>= _) _ _ _;have p1:st n g1:=P.keep n _ _ p λb o hb q=>b1.extBut _ _ (eR hb (cm F4.b) F4.u1) q
 cases hx:xs[n]? with
 |none=>exact aa (P.done A n _ _ _ hh hx p1 λg2 e b2 he=>k g2 e (λc u c1 c2 c3 q=>b2 _ _ c2 (b1.extBut _ _ c1 q)) he)
 |some x=>
  have hy:ys[n]?=none:=by
   rcases hend with q|q
   ·rw[hx]at q;cases q
   ·exact q
  refine aa (P.item A n x _ _ _ hx p1 λg2 p2 b2=>ah (ah ?_));dsimp only;rw[jg];refine aa (aa (fg ?_));show wpAny _ _ (cq (.ref j) >>= _) _ _ _;have r2:su n g2:=R.keep n _ _ r λb o hb q=>b2.extBut _ _ (eR hb (cm F4.f) F4.v3) (b1.extBut _ _ (eR hb (cm F4.c) F4.v1) q);exact aa (R.done A n _ _ _ hh hy r2 λg4 e b4 he=>k g4 e (λc u c1 c2 c3 q=>b4 _ _ c3 (b2.extBut _ _ c2 (b1.extBut _ _ c1 q))) he)
end
structure ZAt (z TI TO i j t u:ai) (n:Nat) (h:cp):Prop where
 zp:uy h z TI TO .none∨∃(T:ai) (b:Bool),mS h z TI TO (rawInt T) b/\∃o,h.get? T=some o
 ti:ju h TI (.ref i) (.ref j)
 to:∃a b,ju h TO a b
 i1:h.IsTupleIter i t n
 i2:h.IsTupleIter j u n
theorem ZAt.isZ {z TI TO i j t u:ai}{n:Nat}{h:cp}(za:ZAt z TI TO i j t u n h):∃o,h.get? z=some o/\o.cls=.type "zip":=by rcases za.zp with e|⟨_,_,e,_⟩ <;> exact⟨_,e,rfl⟩
theorem ZAt.keep {z TI TO i j t u:ai}{n:Nat}{h h':cp}(za:ZAt z TI TO i j t u n h) (S:ai) (hS:∀b∈[z,TI,TO,i,j],b≠S) (k:∀b o,b≠S->h.get? b=some o->h'.get? b=some o) (there:∃o,h'.get? S=some o):ZAt z TI TO i j t u n h':=by
 obtain⟨zp,ti,⟨a,b,to⟩,⟨o1,e1,r1⟩,⟨o2,e2,r2⟩⟩:=za;refine⟨?_,k _ _ (hS _ (by simp)) ti,⟨a,b,k _ _ (hS _ (by simp)) to⟩,⟨o1,k _ _ (hS _ (by simp)) e1,r1⟩,⟨o2,k _ _ (hS _ (by simp)) e2,r2⟩⟩
 rcases zp with e|⟨T,f,e,o,ho⟩
 ·exact .inl (k _ _ (hS _ (by simp)) e)
 ·refine .inr ⟨T,f,k _ _ (hS _ (by simp)) e, ?_⟩
  by_cases hT:T=S
  ·rw[hT];exact there
  ·exact⟨o,k _ _ hT ho⟩
section
variable{X:Cx}{pins:List (ai×Obj)}{σ:St}{H:Hp}{s:ag}{B:cg}{z TI TO i j t u:ai}{vs ws:List V}{n:Nat}
theorem YB {v w':V}{Q:Option af->ag->Prop}{E:af->ag->Prop}(F4:Four z TI TO i j t u) (I:Inv X pins σ H s) (hq:H t=some (.tup vs)) (hr:H u=some (.tup ws)) (za:ZAt z TI TO i j t u n s.heap) (hv:vs[n]?=some v) (hw:ws[n]?=some w')
  (hf:∀b∈[z,TO,i,j],cL X pins H b)
  (k:∀h' T,s.heap.objs.size<=T->Inv X pins σ (upd H T (.tup [v,w'])) { s with heap:=h' }->ZAt z TI TO i j t u (n+1) h'->(∀b o,b∉[z,TO,i,j]->s.heap.get? b=some o->h'.get? b=some o)->Q (some (.ref T)) { s with heap:=h' }):
  wpAny (model X.prog X.w) B (pyNext (.ref z)) Q E s:=by
 obtain⟨its,rv,p1,z1⟩:=I.tuple (SqT.of (K:=X.K) hq);obtain⟨jts,rw',p2,z2⟩:=I.tuple (SqT.of (K:=X.K) hr);obtain⟨x,hx,rx⟩:=rv.get hv;obtain⟨y,hy,ry⟩:=rw'.get hw;obtain⟨oz,ez,cz⟩:=za.isZ;obtain⟨zp,ti,⟨a,b,to⟩,i1,i2⟩:=za;have hT:s.TypeIs (.ref z) "zip" := ⟨_,ez,cz⟩;have fin:∀h' T,s.heap.objs.size<=T->(∃(T':ai) (b:Bool),mS h' z TI TO (rawInt T') b/\∃o,h'.get? T'=some o)->ju h' TI (.ref i) (.ref j)->(∃a b,ju h' TO a b)->(h'.IsTupleIter i t (n+1))->(h'.IsTupleIter j u (n+1))->ju h' T x y->(∀b o,b∉[z,TO,i,j]->s.heap.get? b=some o->h'.get? b=some o)->Q (some (.ref T)) { s with heap:=h' }:=λh' T hnew a1 a2 a3 a4 a5 a6 bt=>by
  refine k h' T hnew (Inv.turns (T:=T) (vs:=[v,w']) (its:=[x,y]) I hf bt (λb hb=>?_) hnew (.cons rx (.cons ry .nil)) (by show 2<=ck;decide) ⟨_,a6,rfl,rfl,_,rfl⟩) ⟨.inr a1,a2,a3,a4,a5⟩ bt;obtain⟨_,_,e1,_⟩:=a1;obtain⟨_,_,e2⟩:=a3;obtain⟨o3,e3,_⟩:=a4;obtain⟨o4,e4,_⟩:=a5;simp at hb
  rcases hb with rfl|rfl|rfl|rfl
  ·exact⟨_,e1⟩
  ·exact⟨_,e2⟩
  ·exact⟨_,e3⟩
  ·exact⟨_,e4⟩
 unfold pyNext
 rcases zp with zp|⟨T0,f0,zp,hT0⟩
 ·refine aa (md (da (name:=ik "__next__") hT F.slot_zip_next (ed F.slot_zip_next hT F.entry_zip_next
   (HF F4 (jF (items:=its.toArray) F4.u3) (jF (items:=jts.toArray) F4.v4) zp ti to ⟨i1,p1⟩ ⟨i2,p2⟩ (by simpa using hx) (by simpa using hy) λh' T hnew a1 a2 a3 a4 a5 a6 bt=>ah ?_) (F.args_zip_next_1 _))))
  exact fin h' T hnew ⟨T,false,a1,_,a6⟩ a2 ⟨_,_,a3⟩ a4.1 a5.1 a6 λb o hb q=>by simp at hb;exact bt b o hb.1 hb.2.1 hb.2.2.1 hb.2.2.2 q
 ·refine aa (md (da (name:=ik "__next__") hT F.slot_zip_next (ed F.slot_zip_next hT F.entry_zip_next
   (X9 F4 (jF (items:=its.toArray) F4.u3) (jF (items:=jts.toArray) F4.v4) zp ti hT0 ⟨i1,p1⟩ ⟨i2,p2⟩ (by simpa using hx) (by simpa using hy) λh' T hnew a1 a2 a4 a5 a6 bt=>ah ?_) (F.args_zip_next_1 _))))
  refine fin h' T hnew ⟨T0,true,a1, ?_⟩ a2 ⟨_,_,bt _ _ (cm F4.a) F4.d F4.e to⟩ a4.1 a5.1 a6 λb o hb q=>by simp at hb;exact bt b o hb.1 hb.2.2.1 hb.2.2.2 q
  obtain⟨o,ho⟩:=hT0
  by_cases h1:T0=z
  ·rw[h1];exact⟨_,a1⟩
  by_cases h2:T0=i
  ·obtain⟨o3,e3,_⟩:=a4.1;rw[h2];exact⟨_,e3⟩
  by_cases h3:T0=j
  ·obtain⟨o3,e3,_⟩:=a5.1;rw[h3];exact⟨_,e3⟩
  exact⟨o,bt _ _ h1 h2 h3 ho⟩
theorem YC {Q:Option af->ag->Prop}{E:af->ag->Prop}(hh:B.handled=none) (F4:Four z TI TO i j t u) (I:Inv X pins σ H s) (hq:H t=some (.tup vs)) (hr:H u=some (.tup ws)) (za:ZAt z TI TO i j t u n s.heap) (hend:vs.length<=n∨ws.length<=n)
  (hf:∀b∈[z,TO,i,j],cL X pins H b)
  (k:∀h',Inv X pins σ H { s with heap:=h' }->(∀b o,b∉[z,TO,i,j]->s.heap.get? b=some o->h'.get? b=some o)->Q none { s with heap:=h' }):
  wpAny (model X.prog X.w) B (pyNext (.ref z)) Q E s:=by
 obtain⟨its,rv,p1,z1⟩:=I.tuple (SqT.of (K:=X.K) hq);obtain⟨jts,rw',p2,z2⟩:=I.tuple (SqT.of (K:=X.K) hr);have l1:=rv.length;have l2:=rw'.length;obtain⟨oz,ez,cz⟩:=za.isZ;obtain⟨zp,ti,⟨a,b,to⟩,i1,i2⟩:=za;have hT:s.TypeIs (.ref z) "zip" := ⟨_,ez,cz⟩;have fin:∀h' e,(∀b o,b∉[z,TO,i,j]->s.heap.get? b=some o->h'.get? b=some o)->(∃o,h'.get? e=some o/\o.cls=.type "StopIteration")->wpAny (model X.prog X.w) B (do if <-isInstance (.ref e) (.type "StopIteration")then pure none else throw (.ref e)) Q E { s with heap:=h' }:=λh' e bt ⟨o,he,hcl⟩=>aa (uj (T := "StopIteration") (b:=true) ⟨o,he,hcl⟩ Bw (ah (k h' (Inv.turns0 I hf bt) bt)));have he:its.toArray.toList[n]?=none∨jts.toArray.toList[n]?=none:=by
  rcases hend with q|q
  ·exact .inl (by simp;omega)
  ·exact .inr (by simp;omega)
 unfold pyNext
 rcases zp with zp|⟨T0,f0,zp,hT0⟩
 ·refine aa (md (da (name:=ik "__next__") hT F.slot_zip_next (ed F.slot_zip_next hT F.entry_zip_next
   (HG (show B.in1.handled=none from hh) F4 (jF (items:=its.toArray) F4.u3) (jF (items:=jts.toArray) F4.v4) zp ti to ⟨i1,p1⟩ ⟨i2,p2⟩ he λh' e bt ho=>?_) (F.args_zip_next_1 _))))
  exact fin h' e (λb o hb q=>by simp at hb;exact bt b o hb.1 hb.2.1 hb.2.2.1 hb.2.2.2 q) ho
 ·refine aa (md (da (name:=ik "__next__") hT F.slot_zip_next (ed F.slot_zip_next hT F.entry_zip_next
   (YA (show B.in1.handled=none from hh) F4 (jF (items:=its.toArray) F4.u3) (jF (items:=jts.toArray) F4.v4) zp ti hT0 ⟨i1,p1⟩ ⟨i2,p2⟩ he λh' e bt ho=>?_) (F.args_zip_next_1 _))))
  exact fin h' e (λb o hb q=>by simp at hb;exact bt b o hb.1 hb.2.2.1 hb.2.2.2 q) ho
end
theorem YD:typeLookup (.type "zip") "__len__" = pure none:=by rw[Be,vm];kernel_rfl
theorem YE:typeLookup (.type "zip") "__length_hint__" = pure none:=by rw[Be,vm];kernel_rfl
def Prs (H:Hp) (vs ws us:List V):Prop:=∀(k:Nat) (x:V),us[k]?=some x->∃T v w,x=.ref T/\vs[k]?=some v/\ws[k]?=some w/\H T=some (.tup [v,w])
theorem Prs.mono {H H':Hp}{vs ws us:List V}(p:Prs H vs ws us) (sm:Same H H'):Prs H' vs ws us:=λk x e=>let ⟨T,v,w,a,b,c,d⟩:=p k x e;⟨T,v,w,a,b,c,sm _ _ d⟩
abbrev lR (acc:List af) (c:Nat):Obj:={ cls:=.type "list",dict:=none,data:=.seq acc.toArray c,slots:=#[] }
section
variable{X:Cx}{pins:List (ai×Obj)}{σ:St}{B:cg}{z TI TO i j t u S:ai}{vs ws:List V}{H0:Hp}
theorem YF {res:af}{R:xi->ag->Prop}(hh:B.handled=none) (F4:Four z TI TO i j t u) (hS:∀b∈[z,TI,TO,i,j],b≠S) (hz:vs.length<=1000) (hq:H0 t=some (.tup vs)) (hr:H0 u=some (.tup ws))
  (hR:∀s' H' us acc c,Inv X pins σ H' s'->Same H0 H'->cL X pins H' S->us.length=min vs.length ws.length->s'.heap.get? S=some (lR acc c)->Vals us acc->Prs H' vs ws us->R (.ok (.ret res)) s'):
  ∀(m:Nat) (s:ag) (H:Hp) (us:List V) (acc:List af) (c:Nat),min vs.length ws.length - us.length=m->us.length<=min vs.length ws.length->Inv X pins σ H s->Same H0 H->(∀b∈[S,z,TO,i,j],cL X pins H b)->ZAt z TI TO i j t u us.length s.heap->
   s.heap.get? S=some (lR acc c)->Vals us acc->Prs H vs ws us->codeAny (model X.prog X.w) B (.builtin "list.extend.loop" ⟨[.ref S,.ref z,res],[]⟩) R s:=by
 have nS:S∉[z,TO,i,j]:=λm=>by
  simp at m
  rcases m with q|q|q|q <;> exact hS _ (by simp) q.symm
 intro m
 induction m with
 |zero=>intro s H us acc c hm hl I sm hf za eS rv pr;refine jn F.entry_extend_loop ?_;rw[iq F.plain_extend_loop _];show wpAny _ B.in1 (pyNext (.ref z) >>= _) _ _ s;refine aa (YC (show B.in1.handled=none from hh) F4 I (sm _ _ hq) (sm _ _ hr) za (by omega) (λb hb=>hf b (ay _ hb)) λh' I' bt=>?_);exact ah (hR _ H us acc c I' sm (hf S (by simp)) (by omega) (bt _ _ nS eS) rv pr)
 |succ m ih=>
  intro s H us acc c hm hl I sm hf za eS rv pr;have l1:us.length<vs.length:=by omega
  have l2:us.length<ws.length:=by omega
  have la:=rv.length;refine jn F.entry_extend_loop ?_;rw[iq F.plain_extend_loop _];show wpAny _ B.in1 (pyNext (.ref z) >>= _) _ _ s;refine aa (YB F4 I (sm _ _ hq) (sm _ _ hr) za (ar l1) (ar l2) (λb hb=>hf b (ay _ hb)) λh' T hnew I' za' bt=>?_);have nT:H T=none:=I.hok.fresh hnew;have sT:S≠T:=bc (au (ao eS) hnew);have eS':h'.get? S=some (lR acc c):=bt _ _ nS eS;show wpAny _ B.in1 (updateSeq S (·.push (.ref T)) >>= _) _ _ _;refine aa (ve eS' rfl (ah ⟨xa F.plain_extend_loop _, ?_⟩) (by show acc.toArray.size<=ck;rw[av,ij];omega) (by show(acc.toArray.push (.ref T)).size<=ck+1;rw[Array.size_push,av,ij];omega));obtain⟨c',e2⟩:∃c',(h'.update S (gn (·.push (dh T)))).get? S=some (lR (acc++[dh T]) c'):=by
   have q:=ql eS' (·.push (dh T));have e2:acc.toArray.push (dh T)=(acc++[dh T]).toArray:=by simp
   rw[e2]at q;exact⟨_,q⟩
  have oth:∀b o,b≠S->h'.get? b=some o->(h'.update S (gn (·.push (dh T)))).get? b=some o:=λb o hb q=>(ji _ _ (cm hb)).trans q;have smT:Same H (upd H T (.tup [vs[us.length],ws[us.length]])):=cG nT;have hf':∀b∈[S,z,TO,i,j],cL X pins (upd H T (.tup [vs[us.length],ws[us.length]])) b:=λb hb=>by
   obtain⟨g0,g1,g2,g3,g4,g5⟩:=hf b hb;refine⟨?_,g1,g2,g3,g4,g5⟩;have lt:b<s.heap.objs.size:=by
    obtain⟨oz,ez,_⟩:=za.isZ;obtain⟨_,_,⟨_,_,to⟩,⟨_,q1,_⟩,⟨_,q2,_⟩⟩:=za;simp at hb
    rcases hb with rfl|rfl|rfl|rfl|rfl
    ·exact ao eS
    ·exact ao ez
    ·exact ao to
    ·exact ao q1
    ·exact ao q2
   rw[bO (bc (au lt hnew))];exact g0
  have I2:Inv X pins σ (upd H T (.tup [vs[us.length],ws[us.length]])) { s with heap:=h'.update S (gn (·.push (dh T))) }:=by obtain⟨g0,g1,g2,g3,g4,g5⟩:=hf' S (by simp);exact I'.turned (t':=s.toks) oth g0 g1 g3 g4 g5
  have hlen:(us++[V.ref T]).length=us.length+1:=by simp
  refine ih _ _ (us++[.ref T]) (acc++[.ref T]) c' (by rw[hlen];omega) (by rw[hlen];omega) I2 (λb o q=>smT b o (sm b o q)) hf' (by rw[hlen];exact za'.keep S hS oth ⟨_,e2⟩) e2 (rv.append (.cons (show RelV (V.ref T) (dh T) from rfl) .nil)) λk x e=>?_
  by_cases hk:k<us.length
  ·rw[dy hk]at e;exact(pr.mono smT) k x e
  ·rw[gg (by omega)]at e;have hk2:k=us.length:=by have:=(az.mp e).1;simp at this;omega
   subst hk2;simp at e;subst e;exact⟨T,_,_,rfl,ar l1,ar l2,cK⟩
theorem YG {H:Hp}{s:ag}{Q:VK}(hh:X.A.handled=none) (F4:Four z TI TO i j t u) (I:Inv X pins σ H s) (hq:H t=some (.tup vs)) (hr:H u=some (.tup ws)) (za:ZipAt z TI TO i j t u 0 s.heap) (hf:∀b∈[z,TI,TO,i,j],cL X pins H b) (hz:vs.length<=1000)
  (q:∀H' us D,Same H H'->H' D=none->us.length=min vs.length ws.length->Prs H' vs ws us->Q (.ref D) (upd H' D (.lst us))):
  wpAny (model X.prog X.w) X.A (call (.type "list") [.ref z]) (EP X pins σ Q) X.xe s:=by
 refine callType_codes (Q₁:=λobj s₁=>obj=.ref s.heap.objs.size/\s₁={ s with heap:=s.heap.push { cls:=.type "list",data:=.seq #[] } }) F.called_list (F.typeCall_list_1 _) F.entry_list_init
  (code_list_new _ ⟨rfl,rfl⟩) λobj s₁ h₁=>?_
 obtain⟨rfl,rfl⟩:=h₁;generalize hS0:s.heap.objs.size=S;have lt:∀b∈[z,TI,TO,i,j],b<s.heap.objs.size:=λb hb=>by
  obtain⟨zp,ti,⟨_,_,to⟩,⟨_,q1,_⟩,⟨_,q2,_⟩⟩:=za;simp at hb
  rcases hb with rfl|rfl|rfl|rfl|rfl
  ·exact ao zp
  ·exact ao ti
  ·exact ao to
  ·exact ao q1
  ·exact ao q2
 have hSn:∀b∈[z,TI,TO,i,j],b≠S:=λb hb=>by rw[<-hS0];exact bc (lt b hb)
 have hS:(s.heap.push { cls:=.type "list",data:=.seq #[] }).get? S=some (lR [] 0):=by rw[<-hS0];exact ax _ rfl
 have kp:∀b o,s.heap.get? b=some o->(s.heap.push { cls:=.type "list",data:=.seq #[] }).get? b=some o:=λb o e=>aj _ e;have fS:cL X pins H S:=by rw[<-hS0];exact I.fpOk (ak _) (I.hok.fresh (ak _))
 have I1:Inv X pins σ H { s with heap:=s.heap.push { cls:=.type "list",data:=.seq #[] } }:=I.kept (t':=s.toks) kp;have za1:ZAt z TI TO i j t u 0 (s.heap.push { cls:=.type "list",data:=.seq #[] }):=by obtain⟨zp,ti,⟨a,b,to⟩,⟨o1,q1,r1⟩,⟨o2,q2,r2⟩⟩:=za;exact⟨.inl (kp _ _ zp),kp _ _ ti,⟨a,b,kp _ _ to⟩,⟨o1,kp _ _ q1,r1⟩,⟨o2,kp _ _ q2,r2⟩⟩
 have zz1:uy (s.heap.push { cls:=.type "list",data:=.seq #[] }) z TI TO .none:=kp _ _ za.zp;generalize s.heap.push { cls:=.type "list",data:=.seq #[] }=g at hS I1 za1 zz1;refine⟨⟨_,hS,rfl⟩,F.args_list_init_2 _ _, ?_⟩;show wpAny _ _ (do let old <-xh (.ref S);wx (.ref S) (λ_=>#[]);letGo old.toList.reverse;jf (.ref S) (.ref z) .none) _ _ _;refine aa ?_;unfold xh;refine aa (gr hS rfl (ah ?_));show wpAny _ _ (updateSeq S (λ_=>#[]) >>= λ_=>letGo (#[]:Array af).toList.reverse >>= λ_=>jf (.ref S) (.ref z) .none) _ _ _;have step:∀(g:cp) (c:Nat) (f:Array af->Array af) (l l':List af),(f l.toArray=l'.toArray)->g.get? S=some (lR l c)->Inv X pins σ H { s with heap:=g }->ZAt z TI TO i j t u 0 g->uy g z TI TO .none->
   ∃c',(g.update S (gn f)).get? S=some (lR l' c')/\Inv X pins σ H { s with heap:=g.update S (gn f) }/\ZAt z TI TO i j t u 0 (g.update S (gn f))/\uy (g.update S (gn f)) z TI TO .none:=λg c f l l' hf' e I za zz=>by
  have q:=ql e f;rw[hf']at q;have oth:∀b o,b≠S->g.get? b=some o->(g.update S (gn f)).get? b=some o:=λb o hb q=>(ji _ _ (cm hb)).trans q;obtain⟨g0,g1,g2,g3,g4,g5⟩:=fS;exact⟨_,q,I.turned (t':=s.toks) oth g0 g1 g3 g4 g5,za.keep S hSn oth ⟨_,q⟩,oth _ _ (hSn z (by simp)) zz⟩
 obtain⟨c1,e1,J1,y1,x1⟩:=step g 0 (λ_=>#[]) [] [] rfl hS I1 za1 zz1;refine aa (ve hS rfl (aa (Bb ?_)));generalize g.update S (gn λ_=>#[])=g1 at e1 J1 y1 x1;unfold jf;obtain⟨oz,ez,cz⟩:=y1.isZ;have hT:mw { s with heap:=g1 } (.ref z) "zip" := ⟨_,ez,cz⟩;refine aa (lh hT ?_);have h1:ll (.ref S) (.ref z)=false:=by simp[ll,cm (hSn z (by simp))]
 have h2:(nc "zip" == nc "list")=false:=by decide
 have h3:(nc "zip" == nc "tuple")=false:=by decide
 simp only[h1,h2,h3,Bool.or_false,bj,if_false];refine aa (Al x1 ?_);refine aa (fg ?_);unfold vn;refine aa (uz hT YD ?_);show wpAny _ _ (specialOf (dh z) (ik "__length_hint__") >>= _) _ _ _;refine aa (uz hT YE ?_);refine ah ?_;show wpAny _ _ (rule "list.extend.makes-room" >>= λ_=>qj (.ref S) >>= λ_=>again (.builtin "list.extend.loop" ⟨[.ref S,.ref z,.none],[]⟩)) _ _ _;refine aa (rn (aa ?_));show wpAny _ _ (updateSeq S (·.push .none) >>= λ_=>updateSeq S (·.pop)) _ _ _;obtain⟨c2,e2,J2,y2,x2⟩:=step g1 c1 (·.push .none) [] [.none] rfl e1 J1 y1 x1;refine aa (ve e1 rfl ?_);generalize g1.update S (gn (·.push .none))=g2 at e2 J2 y2 x2;obtain⟨c3,e3,J3,y3,x3⟩:=step g2 c2 (·.pop) [.none] [] rfl e2 J2 y2 x2;refine ve e2 rfl (ah ⟨xa F.plain_extend_loop _, ?_⟩);generalize g2.update S (gn (·.pop))=g3 at e3 J3 y3 x3;refine YF (res:=.none) (H0:=H) (B:=X.A.in1) hh F4 hSn hz hq hr (λs' H' us acc c I' sm f' hl e rv pr=>?_) _ { s with heap:=g3 } H [] [] c3 rfl (jc _) J3 (λ_ _ e=>e) (λb hb=>?_) y3 e3 .nil (λk x e=>by simp at e)
 ·have la:=rv.length;refine⟨rfl,.ref S,upd H' S (.lst us),I'.adopt f' (by rw[<-hS0];exact I.sz) ⟨by rw[ij];omega,acc,c,rv,e⟩,rfl,q H' us S sm f'.1 hl pr⟩
 ·rcases ba.mp hb with rfl|hb
  ·exact fS
  ·exact hf b (by simp at hb ⊢;rcases hb with z|z|z|z <;> simp[z])
end
section
variable{X:Cx}{G:Cfg}{E:XK}{a b:bu}{ta:TA}{ms:M (List Dv)}{p p2 pos pos2:Pos}
def YH (ta:TA):TE:=λσ H Q=>ta σ H λxs H1=>∃t u vs ws,xs=[.ref t,.ref u]/\H1 t=some (.tup vs)/\H1 u=some (.tup ws)/\vs.length<=1000/\∀H' us D,Same H1 H'->H' D=none->us.length=min vs.length ws.length->Prs H' vs ws us->Q (.ref D) (upd H' D (.lst us))
theorem YI (hc:X.calm=true) (hgl:Gl X "list") (hml:X.mg "list" = none) (hg:Gl X "zip") (hm:X.mg "zip" = none) (ha:PA X [a,b] ta) (hs:aw [a,b] X.env=[(false,eval a X.env),(false,eval b X.env)]:=by rfl) (hs2:aw [b] X.env=[(false,eval b X.env)]:=by rfl)
  (hs3:aw [uw (.Name "zip" p2) [a,b] [] pos2] X.env=[(false,eval (.Call (.Name "zip" p2) [a,b] [] pos2) X.env)]:=by rfl):
  PE X (.Call (.Name "list" p) [.Call (.Name "zip" p2) [a,b] [] pos2] [] pos) (YH ta):=by
 intro pins s σ H Q I h;refine lg (lX I hgl hml qY (ic ?_ hs3 rfl));rw[hs3];show wpAny _ _ (spliced [(false,eval (.Call (.Name "zip" p2) [a,b] [] pos2) X.env)]) _ _ s;refine Ck (Call_ (lX I hg hm HJ (ic (aX (ha pos2 pins s σ H _ I h) λus s1 ⟨vs,H1,I1,r1,q1⟩=>?_) (by rw[hs,hs2]) (by rw[hs2];rfl))));obtain⟨t,u,xs,ys,e,hq,hr,hz,q⟩:=q1;subst e;obtain⟨u1,u2,rfl,e1,e2⟩:=oW r1;cases e1;cases e2;obtain⟨its,rv,p1,_⟩:=I1.tuple (SqT.of (K:=X.K) hq);obtain⟨jts,rw',p2,_⟩:=I1.tuple (SqT.of (K:=X.K) hr);refine callType_new F.called_zip (by decide) (F.typeCall_zip_2 _ _) (F.newCall_zip_2 _ _) (λobj=>F.args_object_init_3 obj _ _) F.entry_zip_new (HI its.toArray jts.toArray) ⟨p1,p2,λh' z nz=>?_⟩;obtain⟨TI,TO,i,j,za,f4,fresh,kp⟩:=nz;refine⟨⟨_,za.zp,rfl⟩,Calls.spliced_nil ?_⟩;have I2:Inv X pins σ H1 { s1 with heap:=h' }:=I1.kept (t':=s1.toks) kp;exact YG (I2.ok.hd hc) f4 I2 hq hr za (λb hb=>I1.fpOk (fresh b hb) (I1.hok.fresh (fresh b hb))) hz q
def sG (xs ys:List Dv):List Dv:=(xs.zip ys).map λq=>.tup [q.1,q.2]
def wZ:List Dv->Hs->Rs Dv
 | [.tup xs,.tup ys],h=>if xs.length<=1000 then .ok (.ref h.length) (h++[.lst (sG xs ys)])else .bad
 |_,_=>.bad
theorem RelDL.of_get {μ:Nat->ai}{n:Nat}{H:Hp}:∀{ds:List Dv}{vs:List V},ds.length=vs.length->(∀(k:Nat) d v,ds[k]?=some d->vs[k]?=some v->RelD G μ n H d v)->RelDL G μ n H ds vs
 | [],[],_,_=>RelDL.nil
 | [],_::_,e,_=>by cases e
 |_::_,[],e,_=>by cases e
 |d::ds,v::vs,e,h=>RelDL.cons (h 0 d v rfl rfl) (RelDL.of_get (by simpa using e) λk d' v' e1 e2=>h (k+1) d' v' (by simpa using e1) (by simpa using e2))
theorem YJ (hc:X.calm=true) (hgl:Gl X "list") (hml:X.mg "list" = none) (hg:Gl X "zip") (hm:X.mg "zip" = none) (ha:dZ X G E [a,b] ms) (hs:aw [a,b] X.env=[(false,eval a X.env),(false,eval b X.env)]:=by rfl) (hs2:aw [b] X.env=[(false,eval b X.env)]:=by rfl)
  (hs3:aw [uw (.Name "zip" p2) [a,b] [] pos2] X.env=[(false,eval (.Call (.Name "zip" p2) [a,b] [] pos2) X.env)]:=by rfl):
  aK X G E (.Call (.Name "list" p) [.Call (.Name "zip" p2) [a,b] [] pos2] [] pos) (aE wZ ms):=λhK=>
 PE.imp (YI hc hgl hml hg hm (ha hK) hs hs2 hs3) λσ H Q ⟨μ,ρ,h,rs,s,o⟩=>iH rs s o λμ1 ds h1 vs H1 x1 rs1 s1 r1 o1=>by
  unfold wZ at o1
  split at o1
  ·rename_i xs ys
   split at o1
   ·rename_i hl;obtain⟨v,v',rfl,rv,rv'⟩:=uO r1;obtain⟨t,us,rfl,e,r⟩:=rv;obtain⟨u,ws,rfl,e',r'⟩:=rv';have l1:=r.length;have l2:=r'.length;refine⟨t,u,us,ws,rfl,e,e',by omega,λH' qs D sm hD hlen pr=>?_⟩;have x2:Ext μ1 h1.length H1 μ1 h1.length H':=Ext.same sm;refine nA (E:=E) (s1.same sm) (RelDL.of_get (by simp[sG];omega) λk d v e1 e2=>?_) hD (λμ' H2 v x3=>o1 μ' H2 v (x2.trans x3));obtain⟨T,v1,w1,rfl,ev,ew,eT⟩:=pr k v e2;unfold sG at e1;rw[di]at e1
    cases q:(xs.zip ys)[k]? with
    |none=>rw[q]at e1;cases e1
    |some xy=>rw[q]at e1;cases e1;obtain⟨qx,qy⟩:=mr.mp q;obtain⟨v2,ev2,rv2⟩:=(RelDL.mono x2 _ _ r).get qx;obtain⟨w2,ew2,rw2⟩:=(RelDL.mono x2 _ _ r').get qy;rw[ev]at ev2;cases ev2;rw[ew]at ew2;cases ew2;exact⟨T,_,rfl,eT,RelDL.cons rv2 (RelDL.cons rw2 RelDL.nil)⟩
   ·exact o1.elim
  ·exact o1.elim
end
open PySem.SeqAt PySem.MeetsSeq PySem.MeetsSeq2 PySem.MeetsSeq3
theorem K0:∀(n:Nat) (as:List af),as.length=n->(∀(i:Nat) (v:af),as[i]?=some v->∃t,v=Ap (0+(i:Int)*1) t)->Vals (((bf n).map λk:Nat=>(k:Int)).map V.int) as
 |0,as,hl,_=>by rw[si.mp hl];exact .nil
 |n+1,as,hl,hi=>by
  have hne:as≠[]:=λz=>by rw[z]at hl;cases hl
  rw[<-pq hne,uc,jb,jb];have hlast:as[n]?=some (as.getLast hne):=by
   rw[Bf,ar (by omega)]
   congr 2;omega
  obtain⟨t,ht⟩:=hi n _ hlast;refine Vals.append (K0 n as.dropLast (by simp[hl]) λi v hv=>hi i v ?_) (.cons ?_ .nil)
  ·rw[Bl]at hv
   split at hv
   ·exact hv
   ·cases hv
  ·rw[ht];exact⟨t,by simp⟩
section
variable{prog:bg}{w:cn}{A:cg}{Ee:af->ag->Prop}{s:ag}
theorem YK {r:ai}{j:Int}{t u v:Tok}{Q:List af->ag->Prop}(hh:A.handled=none) (hr:IsRange s.heap r 0 j 1 t u v) (h0:0<=j) (h1:j<=1000)
  (q:∀h' tk as,oF s.heap h'->s.heap.objs.size<=h'.objs.size->Vals ((bK j).map V.int) as->Q as { s with heap:=h',toks:=tk }):wpAny (model prog w) A (collect (.ref r)) Q Ee s:=by
 have up:oF s.heap (s.heap.push (seqObj "list" #[] 0)):=λb o e=>aj _ e;have hS:(s.heap.push (seqObj "list" #[] 0)).get? s.heap.objs.size=some (seqObj "list" #[] 0):=ax _ rfl;have sz:we 0 j 1=(j.toNat:Int):=by rw[Cj];split <;> omega
 unfold collect;refine aa (wd (jn entry_proto_collect' ?_));rw[iq F.plain_proto_collect _];refine aa (m:=newList []) (xc (ah ⟨vq _ (by decide +kernel),jn entry_list_iadd' ?_⟩));rw[iq F.plain_list_iadd _];have fin:∀s',(∃h' tk acc c,s'=({ s with heap:=h',toks:=tk }:ag)/\(∀b o,b≠s.heap.objs.size->(s.heap.push (seqObj "list" #[] 0)).get? b=some o->h'.get? b=some o)/\h'.get? s.heap.objs.size=some (lR acc c)/\ItemsOf (λi v=>∃t,v=.int (0+i*1) t) acc.toArray j.toNat)->
   wpAny (model prog w) A (load s.heap.objs.size >>= λo=>match o.data with | .seq xs _=>pure xs.toList|_=>unsupported "internal:collect") Q Ee s':=by
  rintro s' ⟨h',tk,acc,c,rfl,ke,e,ia⟩
  refine aa (wpAny_load e (ah ?_));refine q h' tk acc (λb o z=>ke b o (bc (ao z)) (up b o z)) (gq (ao e)) (K0 j.toNat acc (by simpa using ia.1) λi v hv=>ia.2 i v (by simpa using hv))
 refine ka (wpAny_extend_range (s:={ s with heap:=s.heap.push (seqObj "list" #[] 0) }) (A:=A) (R:=λr s'=>r=.ok (.ret (.ref s.heap.objs.size))/\∃h' tk acc c,s'=({ s with heap:=h',toks:=tk }:ag)/\(∀b o,b≠s.heap.objs.size->(s.heap.push (seqObj "list" #[] 0)).get? b=some o->h'.get? b=some o)/\h'.get? s.heap.objs.size=some (lR acc c)/\ItemsOf (λi v=>∃t,v=.int (0+i*1) t) acc.toArray j.toNat)
  hh (up r _ hr) (small_one (by omega) (by omega) (by omega) (by omega)) sz (by omega) s.heap.objs.size (.ref s.heap.objs.size) 0 hS λh' tk acc c ke e ia=>⟨rfl,h',tk,acc.toList,c,rfl,ke,by simpa using e,by simpa using ia⟩) (λf s' h=>?_) (λe s' h=>absurd h.1 (by simp))
 cases f with
 |done f=>obtain⟨e,h⟩:=h;cases e;exact fin s' h
 |again c'=>exact⟨h.1,ni h.2 λr s'' hr=>by obtain⟨rfl,h⟩:=hr;exact fin s'' h⟩
theorem YL {r:ai}{j:Int}{t u v:Tok}(h0:0<=j) (h1:j<=1000):Meets (km.«tuple.__new__» ⟨[.type "tuple",.ref r],[]⟩)
  (λA R s=>A.handled=none/\IsRange s.heap r 0 j 1 t u v/\∀h' tk as,oF s.heap h'->s.heap.objs.size<=h'.objs.size->Vals ((bK j).map V.int) as->R (.ok (.ret (.ref h'.objs.size))) { s with heap:=h'.push { cls:=.type "tuple",data:=.seq as.toArray },toks:=tk }):=
 .of_wp λprog w A R s ⟨hh,hr,q⟩=>by
  have c1:=sub_tuple_self;have c2:=init_tuple_lookup;have c3:=madeHere_tuple;have hT:s.TypeIs (.ref r) "range" := ⟨_,hr,rfl⟩
  wp_walk using lh hT,YK (A:=A.in1) (show A.in1.handled=none from hh) hr h0 h1
  intro h' tk as kk sz hv;have la:=hv.length;refine aa (m:=fi _) (dm (ah ⟨_,rfl,q h' tk as kk sz hv⟩) ?_);show as.toArray.size<=ck;rw[av,<-la,bo,bK,bo,jx,ij];omega
end
section
variable{X:Cx}{G:Cfg}{E:XK}{k:Nat}{e:bu}{aS:M (List Dv)}{p p2 pos pos2:Pos}
theorem YM (rm:Room k X.A):CallR X (.type "tuple") (λxs H Q=>∃(l:ai) (j:Int),xs=[.ref l]/\H l=some (.rng 0 j)/\0<=j/\j<=1000/\∀D,H D=none->Q (.ref D) (upd H D (.tup ((bK j).map V.int)))):=by intro pins s σ H xs us Q I rv ⟨l,j,e,hl,h0,h1,q⟩;subst e;obtain⟨u,rfl,ru⟩:=iF rv;cases ru;obtain⟨t,u,v,hr⟩:=I.hok l _ hl;refine callType_new F.called_tuple (by decide) (F.typeCall_tuple_1 _) (F.newCall_tuple_1 _) (λobj=>F.args_object_init_2 obj _) F.entry_tuple_new (YL h0 h1) ⟨rm.hd,hr,λh' tk as kk sz hv=>⟨⟨_,ax _ rfl,rfl⟩, ?_⟩⟩;refine⟨.ref h'.objs.size,_,I.laid (t':=tk) (λb o z=>aj _ (kk b o z)) sz (show ObjOk X.prog X.w _ _ _ (.tup ((bK j).map V.int)) from⟨?_,as,hv,⟨_,ax _ rfl,rfl,rfl,_,rfl⟩⟩),rfl,q _ (I.hok.fresh sz)⟩;rw[bo,bK,bo,jx,ij];omega
def mT:Dv->Hs->Rs Dv
 | .int j,h=>if(decide (0<=j)&&decide (j<=1000))=true then .ok (.tup ((bK j).map Dv.int)) h else .bad
 |_,_=>.bad
theorem YN (g:Good X G E k) (hg:Gl X "tuple") (hm:X.mg "tuple" = none) (hg2:Gl X "range") (hm2:X.mg "range" = none) (ha:dZ X G E [e] aS)
  (he:aw [e] X.env=[(false,eval e X.env)]:=by rfl) (he2:aw [uw (.Name "range" p2) [e] [] pos2] X.env=[(false,eval (.Call (.Name "range" p2) [e] [] pos2) X.env)]:=by rfl):
  aK X G E (.Call (.Name "tuple" p) [.Call (.Name "range" p2) [e] [] pos2] [] pos) (aE (f1 mT) aS):=λhK=>
 PE.imp (mZ (YM g.room) hg hm uL (gW (mZ KN hg2 hm2 Bp (ha hK) (by decide) (by decide) he rfl) jA he2) (by decide) (by decide) he2 rfl) λσ H Q ⟨μ,ρ,h,rs,s,o⟩=>by
  refine iH rs s o λμ1 ds h1 vs H1 x1 rs1 s1 r1 o1=>?_;unfold f1 at o1
  split at o1
  ·rename_i d;obtain⟨v,rfl,rv⟩:=nJ r1
   cases d with
   |int j=>
    dsimp only[mT]at o1
    split at o1
    ·rename_i h0;rw[cy]at h0;have j0:0<=j:=by simpa using h0.1
     have j1:j<=1000:=by simpa using h0.2
     rw[RelD]at rv;subst rv;refine⟨j,rfl,λl hl=>?_⟩;have sm:=cG (o:=.rng 0 j) hl;refine⟨l,j,rfl,cK,j0,j1,λD hD=>?_⟩;have sm2:=cG (o:=.tup ((bK j).map V.int)) hD;exact o1 μ1 _ _ ((Ext.same sm).trans (Ext.same sm2)) ((s1.same sm).same sm2) ⟨D,_,rfl,cK,pF _⟩
    ·exact o1.elim
   |_=>exact o1.elim
  ·exact o1.elim
end
end L2.Mr
namespace L2.Mr.K60
open PySem PySem.Spec PyProof.Rows L2 L2.Mr L2.Mr.Cod
open L2.Mr.Com
def tblV:List (Nat×Bool):=[(0,true),(12,true)]
def tbl0:List (Nat×Bool):=[(0,true),(12,false)]
def tbl1:List (Nat×Bool):=[(0,false),(12,false)]
def tbl2:List (Nat×Bool):=[(0,false),(12,false)]
def tbl3:List (Nat×Bool):=[(0,false),(12,false)]
def tbl4:List (Nat×Bool):=[(0,false),(12,false)]
def tbl5:List (Nat×Bool):=[(0,false),(12,false)]
def tbl6:List (Nat×Bool):=[(0,false),(12,false)]
def tbl7:List (Nat×Bool):=[(0,false),(12,false)]
def tbl8:List (Nat×Bool):=[(0,false),(12,false)]
def tbl9:List (Nat×Bool):=[(0,false),(12,false)]
def tbl10:List (Nat×Bool):=[(0,false),(12,false)]
def tbl11:List (Nat×Bool):=[(0,false),(12,false)]
def tbl12:List (Nat×Bool):=[(0,false),(12,true)]
def tbl13:List (Nat×Bool):=[(0,false),(12,false)]
def BQ:MS:=(aO (m1 gZ (m2 mM (m1 gZ (aB 0)) (aB 1))))
def F_qq:List Dv->Hs->Rs Dv:=aU 2 2 (BQ)
def xA:MS:=(aO (uI (m2 (cZ false) (aM (aA (aB 1) (aA (aB 2) aC))) (m2 aQ (aB 0) (mC (.int 1)))) (aE F_qw (aA (aB 0) (aA (aB 1) (aA (aB 2) aC))))))
def F_q3:List Dv->Hs->Rs Dv:=aU 3 3 (xA)
def BR:MS:=(aO (aE wZ (aA (aB 0) (aA (m2 bD (dO (aB 0) (cY (mC (.int 1))) dM) (dO (aB 0) dM (cY (mC (.int 1))))) aC))))
def F_q5:List Dv->Hs->Rs Dv:=aU 1 1 (BR)
def sH:MS:=(aL (eN (aE F_qo (aA (aB 0) aC))) (aL (aW (dU (cA (bG (aE F_qm (aA (m2 aQ (aB 0) (mC (.int 0))) (aA (aB 1) aC))))) (dU (mB (m2 dF (aE (f1 bI) (aA (aB 1) aC)) (mC (.int 2)))) (mB (m2 cC (aE (f1 kF) (aA (aB 1) aC)) (aE (f1 bI) (aA (aB 1) aC)))))) (aO (mC (.bl false))) bH) (aO (mL fR (bW (cI fK (aE F_q5 (aA (aB 1) aC))) [none,none,some 0] (fJ 2 (cQ (aG 0) (cQ (aG 1) fP))) dJ (bS (aE F_q3 (aA (aB 2) (aA (aB 0) (aA (aB 1) aC))))))))))
def F_q7:List Dv->Hs->Rs Dv:=aU 2 2 (sH)
def xB:MS:=(aL (aJ (aE (f1 bI) (aA (bZ (bW (cI fK (aE F_q5 (aA (aB 1) aC))) [none,some 0] (aG 0) (mB (m2 (cZ false) (aB 0) (m2 aQ (aB 1) (mC (.int 1))))) (bS (aB 0)))) aC)) (aG 2)) (aO (aE F_qq (aA (aB 2) (aA (m2 eC (aE (f1 bI) (aA (aB 1) aC)) (aB 2)) aC)))))
def F_q4:List Dv->Hs->Rs Dv:=aU 2 3 (xB)
def oI:MS:=(aL (aW (cA (bG (aE F_q7 (aA (aB 0) (aA (aB 1) aC))))) (uW 12 (aA (mC (.str "this is no ring of the order")) aC)) bH) (aO (aE F_q4 (aA (aB 0) (aA (aB 1) aC)))))
def F_qp:List Dv->Hs->Rs Dv:=aU 2 2 (oI)
def xC:MS:=(aO (cM (m2 cC (aB 1) (aB 2)) (m2 (cZ true) (aM (aA (aB 2) (aA (aB 1) aC))) (m2 aQ (aB 0) (mC (.int 1))))))
def F_qs:List Dv->Hs->Rs Dv:=aU 3 3 (xC)
def xD:MS:=(aL (aJ (aR (aA (aE F_qv (aA (aB 0) (aA (m2 aQ (aB 1) (mC (.int 0))) aC))) aC)) (aG 2)) (aL (dS (aS cJ (aA (m2 aQ (aB 1) (mC (.int 0))) aC)) (aG 3) (aL (aJ (bZ (bW (aS cJ (aA (m2 aQ (aB 1) (mC (.int 0))) aC)) [none,some 2] (aG 0) (mB (m2 (cZ true) (aB 0) (aB 1))) (bS (aB 0)))) (aG 4)) (aL (aJ (bZ (bW (cI fK (aB 4)) [none,some 1,some 2] (aG 0) (bG (aE F_qs (aA (aB 1) (aA (m2 aQ (aB 2) (m1 gZ (mC (.int 1)))) (aA (aB 0) aC))))) (bS (aB 0)))) (aG 4)) (aW (eI (mB (m2 cC (aB 4) (aR aC))) (mB (m2 nY (aE F_qv (aA (aB 0) (aA (mC (.int 4)) aC))) (mC (.int 0))))) (eN (fT (aB 2) (m2 aQ (aB 4) (aE F_qv (aA (aB 0) (aA (aE (f1 bI) (aA (aB 4) aC)) aC)))))) bH)))) (aO (aE (f1 hZ) (aA (aB 2) aC)))))
def F_qt:List Dv->Hs->Rs Dv:=aU 2 5 (xD)
def xE:MS:=(aL (aJ (aE F_qv (aA (aB 0) (aA (m2 bD (aE (f1 bI) (aA (aB 1) aC)) (mC (.int 1))) aC))) (aG 3)) (aL (aJ (m2 aQ (aR (aA (mC (.int 0)) (aA (aB 2) (aA (m1 gZ (mC (.int 1))) (aA (mC (.bl true)) (aA (mC .non) (aA (mC (.str "0")) (aA (aM (aA (mC (.int 0)) aC)) (aA (m2 mK (mC (.int 10)) (mC (.int 29))) (aA (m2 eC (aB 2) (mC (.int 1))) (aA (aR (aA (mC (.int 0)) aC)) aC))))))))))) (aE F_qv (aA (aB 0) (aA (mC (.int 10)) aC)))) (aG 4)) (aL (aJ (aR (aA (m2 bD (m2 bD (dO (aB 1) dM (cY (aB 3))) (aM (aA (aB 4) aC))) (dO (aB 1) (cY (m2 bD (aB 3) (mC (.int 1)))) dM)) (aA (m2 bD (m2 bD (dO (aB 1) dM (cY (aB 3))) (aM (aA (aB 4) aC))) (dO (aB 1) (cY (aB 3)) dM)) (aA (m2 bD (dO (aB 1) dM (cY (aB 3))) (dO (aB 1) (cY (m2 bD (aB 3) (mC (.int 1)))) dM)) aC)))) (aG 5)) (aL (aJ (m2 bD (aB 5) (aR (aA (aE (f1 jI) (aA (aB 1) aC)) (aA (wD (aB 1) (cY (m1 gZ (mC (.int 1))))) (aA (mC .non) (aA (mC .edc) (aA (mC (.int 0)) (aA (m2 bD (dO (aB 1) (cY (mC (.int 1))) dM) (dO (aB 1) dM (cY (mC (.int 1))))) aC)))))))) (aG 5)) (aO (m2 aQ (aB 5) (m2 aQ (aR (aA (mC (.int 0)) (aA (mC (.int 0)) (aA (mC (.int 0)) (aA (mC (.int 0)) (aA (mC (.int 1)) (aA (mC (.int 2)) (aA (mC (.int 3)) (aA (mC (.int 4)) (aA (mC (.int 5)) (aA (mC (.int 6)) (aA (mC (.int 7)) (aA (mC (.int 8)) aC))))))))))))) (aE F_qv (aA (aB 0) (aA (mC (.int 12)) aC))))))))))
def F_qr:List Dv->Hs->Rs Dv:=aU 3 6 (xE)
def BS:MS:=(aO (cM (m1 (bF oA) (aB 0)) (m1 mF (m1 (bF kA) (aB 0)))))
def F_ql:List Dv->Hs->Rs Dv:=aU 1 1 (BS)
def pZ:MS:=(aL (aW (dU (cA (bG (m1 (bF gS) (aB 1)))) (mB (m2 dF (aE (f1 bI) (aA (aB 1) aC)) (mC (.int 2))))) (aO (mC (.bl false))) bH) (aL (aW (dU (cA (bG (mL fR (bW (cI fQ (aB 1)) [none,some 0] (aG 0) dJ (bS (cM (aE F_ql (aA (aB 0) aC)) (jQ jZ vD (mC (.int 0)) (aB 0) (m2 aQ (aB 1) (mC (.int 0)))))))))) (mB (m2 dF (aE (f1 kF) (aA (aB 1) aC)) (aE (f1 bI) (aA (aB 1) aC))))) (aO (mC (.bl false))) bH) (aO (m2 dB (bZ (bW (aS cJ (aA (aE (f1 bI) (aA (aB 1) aC)) aC)) [none,some 0,some 1] (aG 0) (cA (bG (aE F_qs (aA (aB 1) (aA (m2 aQ (aB 2) (m2 eC (aB 0) (mC (.int 1)))) (aA (m2 aQ (aB 2) (aB 0)) aC)))))) (bS (aB 0)))) (aR aC)))))
def F_qd:List Dv->Hs->Rs Dv:=aU 2 2 (pZ)
def xF:MS:=(aL (aJ (aE (f1 bI) (aA (bZ (bW (aS cJ (aA (aE (f1 bI) (aA (aB 1) aC)) aC)) [none,some 0,some 1] (aG 0) (mB (m2 (cZ false) (aM (aA (m2 aQ (aB 2) (m2 eC (aB 0) (mC (.int 1)))) (aA (m2 aQ (aB 2) (aB 0)) aC))) (m2 aQ (aB 1) (mC (.int 1))))) (bS (aB 0)))) aC)) (aG 2)) (aL (aJ (m2 eC (aE (f1 bI) (aA (aB 1) aC)) (aB 2)) (aG 3)) (aL (aJ (mC (.int 0)) (aG 4)) (aL (iB (mB (m2 dF (m2 jY (aB 4) (aB 3)) (aB 2))) (aJ (m2 bD (aB 4) (mC (.int 1))) (aG 4)) 40) (aO (aB 4))))))
def F_qa:List Dv->Hs->Rs Dv:=aU 2 5 (xF)
def hW:MS:=(aL (aJ (aR (aA (m1 (bF (dD none tbl0)) (aB 1)) (aA (m1 (bF (dD none tbl1)) (aB 1)) (aA (m1 (bF (dD none tbl2)) (aB 1)) aC)))) (aG 3)) (aL (aJ (m2 bD (aB 3) (aR (aA (m1 (bF (dD none tbl3)) (aB 1)) (aA (m1 (bF (dD none tbl4)) (aB 1)) (aA (m1 (bF (dD none tbl5)) (aB 1)) aC))))) (aG 3)) (aL (aJ (m2 bD (aB 3) (aR (aA (m1 (bF (dD none tbl6)) (aB 1)) (aA (m1 (bF (dD none tbl7)) (aB 1)) (aA (m1 (bF (dD none tbl8)) (aB 1)) aC))))) (aG 3)) (aL (aJ (m2 bD (aB 3) (aR (aA (m1 (bF (dD none tbl9)) (aB 1)) (aA (m1 (bF (dD none tbl10)) (aB 1)) (aA (m1 (bF (dD none tbl11)) (aB 1)) aC))))) (aG 3)) (aL (aJ (m2 bD (aB 3) (aR (aA (m1 (bF (dD none tbl12)) (aB 1)) (aA (m1 (bF (dD none tbl13)) (aB 1)) aC)))) (aG 3)) (aL (aW (cA (bG (m1 (bF (dD none tblV)) (aB 1)))) (aO (mC .non)) bH) (aO (bZ (bW (aS cJ (aA (mC (.int 14)) aC)) [none,some 3] (aG 0) (bG (m2 aQ (aB 1) (aB 0))) (bS (aB 0)))))))))))
def qA:M Dv:=(aE F_qp (aA (aB 0) (aA (aB 1) aC)))
def sJ:M Dv:=(aE F_q7 (aA (aB 0) (aA (aM aC) aC)))
def sL:M Dv:=(aE F_qp (aA (aB 0) (aA (aM aC) aC)))
def xG (scr:List Int):MS:=(aL (aJ (aE (F_qk scr) (aA (aB 0) (aA (aB 1) aC))) (aG 2)) (aL (aJ (aE F_qj (aA (aB 2) (aA (mC (.int 6)) aC))) (aG 3)) (aL (aJ (bZ (bW (aS cJ (aA (mC (.int 4)) aC)) [none,some 2,some 3] (aG 0) dJ (bS (aE F_qt (aA (aB 1) (aA (aB 2) aC)))))) (aG 4)) (aL (aJ (m2 bD (aB 4) (bZ (bW (cI fK (dO (aE F_qh (aA (aB 3) aC)) dM (cY (mC (.int 2))))) [none] (aG 0) dJ (bS (aE (f1 hZ) (aA (aB 0) aC)))))) (aG 4)) (aL (aJ (aR aC) (aG 5)) (aL (dS (aS cJ (aA (mC (.int 6)) aC)) (aG 6) (aL (aJ (m2 aQ (aB 4) (aE F_qv (aA (aB 2) (aA (aE (f1 bI) (aA (aB 4) aC)) aC)))) (aG 7)) (eN (fT (aB 5) (aE F_qr (aA (aB 2) (aA (aB 7) (aA (m2 aQ (aB 3) (mC (.int 0))) aC)))))))) (aL (aJ (m2 bD (m2 bD (aB 4) (aB 5)) (aR (aA (aE (f1 mT) (aA (m2 aQ (aB 3) (mC (.int 0))) aC)) (aA (aM aC) aC)))) (aG 4)) (aL (dS (cI fK (aB 4)) (aG 8) (aL (aJ (aE F_qd (aA (aB 3) (aA (aB 8) aC))) (aG 9)) (aL (aW (cA (bG (aE (F_qu 6) (aA (aE F_q7 (aA (aB 3) (aA (aB 8) aC))) (aA (aB 9) aC))))) (aO (mC (.bl false))) bH) (aL (aW (bG (aB 9)) (aL (aJ (aE F_qa (aA (aB 3) (aA (aB 8) aC))) (aG 10)) (aW (cA (bG (aE (F_qu 6) (aA (aE F_qp (aA (aB 3) (aA (aB 8) aC))) (aA (aB 10) aC))))) (aO (mC (.bl false))) bH)) bH) (aW (eI (cA (bG (aB 9))) (mB (m2 cC (iO [3,8] 4 14 hW qA) (aR (aA (mC (.int 12)) aC))))) (aO (mC (.bl false))) bH))))) (aL (aJ (aE F_qb (aA (aB 2) aC)) (aG 11)) (aL (aW (mB (m2 cC (iO [11] 4 14 hW sJ) (aR (aA (mC (.int 0)) aC)))) (aO (mC (.bl false))) bH) (aW (mB (m2 cC (iO [11] 4 14 hW sL) (aR (aA (mC (.int 0)) aC)))) (aO (mC (.bl false))) bH)))))))))))
def K1 (scr:List Int):MS:=(dS (aS cJ (aA (aE lF (aA (mC (.int 1)) (aA (aE pG (aA (aE (f1 (fI scr)) (aA (aB 0) aC)) (aA (mC (.int 8)) aC))) aC))) aC)) (aG 1) (xG scr))
def YO:MS:=(aO (mC (.bl true)))
def xH (scr:List Int):MS:=(aL (K1 scr) YO)
def F_q8 (scr:List Int):List Dv->Hs->Rs Dv:=aU 1 12 (xH scr)
def cU (i:Nat):gv:=ae.main.body.getD i (.Pass ⟨0,0,0,0⟩)
abbrev BU:gv:=cU 17
abbrev BV:gv:=cU 18
abbrev xI:gv:=cU 19
abbrev BW:gv:=cU 20
abbrev BX:gv:=cU 23
abbrev xJ:gv:=cU 24
abbrev BY:gv:=cU 25
abbrev xK:gv:=cU 26
abbrev xM:gv:=cU 27
abbrev xN:gv:=cU 28
abbrev BZ:gv:=cU 29
abbrev CA:gv:=cU 30
abbrev CB:gv:=cU 31
abbrev CC:gv:=cU 33
abbrev CD:gv:=cU 34
abbrev xO:gv:=cU 35
abbrev xP:gv:=cU 36
abbrev CF:gv:=cU 37
abbrev CG:gv:=cU 39
abbrev CH:gv:=cU 40
abbrev CI:gv:=cU 41
abbrev CJ:gv:=cU 42
abbrev CK:gv:=cU 43
abbrev xQ:gv:=cU 44
abbrev CL:gv:=cU 45
abbrev sM:gv:=cU 46
abbrev CM:gv:=cU 47
abbrev CN:gv:=cU 48
abbrev CO:gv:=cU 49
abbrev sN:gv:=cU 50
abbrev xR:gv:=cU 51
abbrev xS:gv:=cU 52
abbrev oJ:gv:=cU 53
abbrev CP:gv:=cU 54
abbrev mU:gv:=cU 55
structure Ad where
 f_q2:ai
 fd_q2:bq
 f_qn:ai
 fd_qn:bq
 f_qz:ai
 fd_qz:bq
 f_qq:ai
 fd_qq:bq
 f_q1:ai
 fd_q1:bq
 f_qm:ai
 fd_qm:bq
 f_q6:ai
 fd_q6:bq
 f_qx:ai
 fd_qx:bq
 f_qy:ai
 fd_qy:bq
 f_qg:ai
 fd_qg:bq
 f_q0:ai
 fd_q0:bq
 f_qo:ai
 fd_qo:bq
 f_qw:ai
 fd_qw:bq
 f_q3:ai
 fd_q3:bq
 f_q5:ai
 fd_q5:bq
 f_q7:ai
 fd_q7:bq
 f_q4:ai
 fd_q4:bq
 f_qp:ai
 fd_qp:bq
 f_qc:ai
 fd_qc:bq
 f_qk:ai
 fd_qk:bq
 f_qv:ai
 fd_qv:bq
 f_qi:ai
 fd_qi:bq
 f_qf:ai
 fd_qf:bq
 f_qj:ai
 fd_qj:bq
 f_qs:ai
 fd_qs:bq
 f_qt:ai
 fd_qt:bq
 f_qh:ai
 fd_qh:bq
 f_qr:ai
 fd_qr:bq
 f_ql:ai
 fd_ql:bq
 f_qd:ai
 fd_qd:bq
 f_qu:ai
 fd_qu:bq
 f_qa:ai
 fd_qa:bq
 f_qe:ai
 fd_qe:bq
 f_qb:ai
 fd_qb:bq
 f_q8:ai
 fd_q8:bq
 c_NoOrder:ai
 c_NoNumber:ai
 c_NoPairs:ai
 c_Round:ai
 c_NoThing:ai
 c_NoRow:ai
 c_TooMany:ai
 c_TooFew:ai
 c_NoText:ai
 c_NoLine:ai
 c_NoDeed:ai
 c_NoSeating:ai
 c_NoRing:ai
 c_NoSizes:ai
 t_MOST_THINGS:Tok
 NE:ai
 cc:ai
 P:ai
structure Tx (K:aq) (mg:Str->Option af) (G:Cfg) (A:Ad):Prop where
 hK:K=G.K
 F_q2:Fun K "is_whole" "is_whole" BU A.f_q2 A.fd_q2
 B_q2:Binds K A.fd_q2 ["thing"] []
 m_q2:mg "is_whole" = some (.ref A.f_q2)
 F_qn:Fun K "is_between" "is_between" BV A.f_qn A.fd_qn
 B_qn:Binds K A.fd_qn ["thing","low","high"] []
 m_qn:mg "is_between" = some (.ref A.f_qn)
 F_qz:Fun K "is_rising" "is_rising" xI A.f_qz A.fd_qz
 B_qz:Binds K A.fd_qz ["parts"] []
 m_qz:mg "is_rising" = some (.ref A.f_qz)
 F_qq:Fun K "rounded_up" "rounded_up" BW A.f_qq A.fd_qq
 B_qq:Binds K A.fd_qq ["number","by"] []
 m_qq:mg "rounded_up" = some (.ref A.f_qq)
 F_q1:Fun K "is_thing" "is_thing" BX A.f_q1 A.fd_q1
 B_q1:Binds K A.fd_q1 ["many","thing"] []
 m_q1:mg "is_thing" = some (.ref A.f_q1)
 F_qm:Fun K "are_things" "are_things" xJ A.f_qm A.fd_qm
 B_qm:Binds K A.fd_qm ["many","thing"] []
 m_qm:mg "are_things" = some (.ref A.f_qm)
 F_q6:Fun K "is_pair" "is_pair" BY A.f_q6 A.fd_q6
 B_q6:Binds K A.fd_q6 ["many","thing"] []
 m_q6:mg "is_pair" = some (.ref A.f_q6)
 F_qx:Fun K "are_pairs" "are_pairs" xK A.f_qx A.fd_qx
 B_qx:Binds K A.fd_qx ["many","things"] []
 m_qx:mg "are_pairs" = some (.ref A.f_qx)
 F_qy:Fun K "has_alike" "has_alike" xM A.f_qy A.fd_qy
 B_qy:Binds K A.fd_qy ["pairs"] []
 m_qy:mg "has_alike" = some (.ref A.f_qy)
 F_qg:Fun K "is_complete" "is_complete" xN A.f_qg A.fd_qg
 B_qg:Binds K A.fd_qg ["pairs"] []
 m_qg:mg "is_complete" = some (.ref A.f_qg)
 F_q0:Fun K "is_order" "is_order" BZ A.f_q0 A.fd_q0
 B_q0:Binds K A.fd_q0 ["thing"] []
 m_q0:mg "is_order" = some (.ref A.f_q0)
 F_qo:Fun K "need_order" "need_order" CA A.f_qo A.fd_qo
 B_qo:Binds K A.fd_qo ["order"] []
 m_qo:mg "need_order" = some (.ref A.f_qo)
 F_qw:Fun K "are_loose" "are_loose" CB A.f_qw A.fd_qw
 B_qw:Binds K A.fd_qw ["order","one","other"] []
 m_qw:mg "are_loose" = some (.ref A.f_qw)
 F_q3:Fun K "may_step" "may_step" CC A.f_q3 A.fd_q3
 B_q3:Binds K A.fd_q3 ["order","one","other"] []
 m_q3:mg "may_step" = some (.ref A.f_q3)
 F_q5:Fun K "steps_of" "steps_of" CD A.f_q5 A.fd_q5
 B_q5:Binds K A.fd_q5 ["ring"] []
 m_q5:mg "steps_of" = some (.ref A.f_q5)
 F_q7:Fun K "is_ring" "is_ring" xO A.f_q7 A.fd_q7
 B_q7:Binds K A.fd_q7 ["order","thing"] []
 m_q7:mg "is_ring" = some (.ref A.f_q7)
 F_q4:Fun K "shown_by" "shown_by" xP A.f_q4 A.fd_q4
 B_q4:Binds K A.fd_q4 ["order","ring"] []
 m_q4:mg "shown_by" = some (.ref A.f_q4)
 F_qp:Fun K "ring_shows" "ring_shows" CF A.f_qp A.fd_qp
 B_qp:Binds K A.fd_qp ["order","ring"] []
 m_qp:mg "ring_shows" = some (.ref A.f_qp)
 F_qc:Fun K "_law_cell_at" "_law_cell_at" CG A.f_qc A.fd_qc
 B_qc:Binds K A.fd_qc ["_law_script","_law_k"] []
 m_qc:mg "_law_cell_at" = some (.ref A.f_qc)
 F_qk:Fun K "_law_state" "_law_state" CH A.f_qk A.fd_qk
 B_qk:Binds K A.fd_qk ["_law_script","_law_k"] []
 m_qk:mg "_law_state" = some (.ref A.f_qk)
 F_qv:Fun K "_law_take" "_law_take" CI A.f_qv A.fd_qv
 B_qv:Binds K A.fd_qv ["_law_state_here","_law_many"] []
 m_qv:mg "_law_take" = some (.ref A.f_qv)
 F_qi:Fun K "_law_mixed" "_law_mixed" CJ A.f_qi A.fd_qi
 B_qi:Binds K A.fd_qi ["_law_state_here","_law_many"] []
 m_qi:mg "_law_mixed" = some (.ref A.f_qi)
 F_qf:Fun K "_law_closed" "_law_closed" CK A.f_qf A.fd_qf
 B_qf:Binds K A.fd_qf ["_law_many","_law_pairs"] []
 m_qf:mg "_law_closed" = some (.ref A.f_qf)
 F_qj:Fun K "_law_order" "_law_order" xQ A.f_qj A.fd_qj
 B_qj:Binds K A.fd_qj ["_law_state_here","_law_most"] []
 m_qj:mg "_law_order" = some (.ref A.f_qj)
 F_qs:Fun K "_law_goes" "_law_goes" CL A.f_qs A.fd_qs
 B_qs:Binds K A.fd_qs ["_law_order_here","_law_a","_law_b"] []
 m_qs:mg "_law_goes" = some (.ref A.f_qs)
 F_qt:Fun K "_law_ring" "_law_ring" sM A.f_qt A.fd_qt
 B_qt:Binds K A.fd_qt ["_law_state_here","_law_order_here"] []
 m_qt:mg "_law_ring" = some (.ref A.f_qt)
 F_qh:Fun K "_law_loose" "_law_loose" CM A.f_qh A.fd_qh
 B_qh:Binds K A.fd_qh ["_law_order_here"] []
 m_qh:mg "_law_loose" = some (.ref A.f_qh)
 F_qr:Fun K "_law_bent" "_law_bent" CN A.f_qr A.fd_qr
 B_qr:Binds K A.fd_qr ["_law_state_here","_law_thing","_law_many"] []
 m_qr:mg "_law_bent" = some (.ref A.f_qr)
 F_ql:Fun K "_law_whole" "_law_whole" CO A.f_ql A.fd_ql
 B_ql:Binds K A.fd_ql ["_law_thing"] []
 m_ql:mg "_law_whole" = some (.ref A.f_ql)
 F_qd:Fun K "_law_is_ring" "_law_is_ring" sN A.f_qd A.fd_qd
 B_qd:Binds K A.fd_qd ["_law_order_here","_law_thing"] []
 m_qd:mg "_law_is_ring" = some (.ref A.f_qd)
 F_qu:Fun K "_law_same" "_law_same" xR A.f_qu A.fd_qu
 B_qu:Binds K A.fd_qu ["_law_found","_law_due"] []
 m_qu:mg "_law_same" = some (.ref A.f_qu)
 F_qa:Fun K "_law_ring_shows" "_law_ring_shows" xS A.f_qa A.fd_qa
 B_qa:Binds K A.fd_qa ["_law_order_here","_law_ring_here"] []
 m_qa:mg "_law_ring_shows" = some (.ref A.f_qa)
 F_qe:Fun K "_law_refused" "_law_refused" oJ A.f_qe A.fd_qe
 B_qe:Binds K A.fd_qe ["_law_call"] []
 m_qe:mg "_law_refused" = some (.ref A.f_qe)
 F_qb:Fun K "_law_bad_order" "_law_bad_order" CP A.f_qb A.fd_qb
 B_qb:Binds K A.fd_qb ["_law_state_here"] []
 m_qb:mg "_law_bad_order" = some (.ref A.f_qb)
 F_q8:Fun K "law" "law" mU A.f_q8 A.fd_q8
 B_q8:Binds K A.fd_q8 ["_law_script"] []
 m_q8:mg "law" = some (.ref A.f_q8)
 z_ValueError:mg "ValueError" = none
 z_all:mg "all" = none
 z_any:mg "any" = none
 z_bool:mg "bool" = none
 z_int:mg "int" = none
 z_isinstance:mg "isinstance" = none
 z_len:mg "len" = none
 z_list:mg "list" = none
 z_max:mg "max" = none
 z_min:mg "min" = none
 z_range:mg "range" = none
 z_set:mg "set" = none
 z_sorted:mg "sorted" = none
 z_tuple:mg "tuple" = none
 z_zip:mg "zip" = none
 c_MOST_THINGS:mg "MOST_THINGS" = some (.int 6 A.t_MOST_THINGS)
 n_NoOrder:mg "NoOrder" = some (.ref A.c_NoOrder)
 n_NoNumber:mg "NoNumber" = some (.ref A.c_NoNumber)
 n_NoPairs:mg "NoPairs" = some (.ref A.c_NoPairs)
 n_Round:mg "Round" = some (.ref A.c_Round)
 n_NoThing:mg "NoThing" = some (.ref A.c_NoThing)
 n_NoRow:mg "NoRow" = some (.ref A.c_NoRow)
 n_TooMany:mg "TooMany" = some (.ref A.c_TooMany)
 n_TooFew:mg "TooFew" = some (.ref A.c_TooFew)
 n_NoText:mg "NoText" = some (.ref A.c_NoText)
 n_NoLine:mg "NoLine" = some (.ref A.c_NoLine)
 n_NoDeed:mg "NoDeed" = some (.ref A.c_NoDeed)
 n_NoSeating:mg "NoSeating" = some (.ref A.c_NoSeating)
 n_NoRing:mg "NoRing" = some (.ref A.c_NoRing)
 n_NoSizes:mg "NoSizes" = some (.ref A.c_NoSizes)
 ns_NoOrder:vk K ff "NoOrder" = some (some (.ref A.c_NoOrder))
 x_NoOrder:uq K A.c_NoOrder uV "ValueError.__new__" = true
 ce_NoOrder:A.c_NoOrder=G.cl 0
 ns_NoRing:vk K ff "NoRing" = some (some (.ref A.c_NoRing))
 x_NoRing:uq K A.c_NoRing uV "ValueError.__new__" = true
 ce_NoRing:A.c_NoRing=G.cl 12
 ktV:∀c b,tblV.lookup c=some b->cu G.K (.ref (G.cl c)) (.type "ValueError")=some b/\ExK G.K (G.cl c)
 kt0:∀c b,tbl0.lookup c=some b->cu G.K (.ref (G.cl c)) (.ref A.c_NoOrder)=some b/\ExK G.K (G.cl c)
 kt1:∀c b,tbl1.lookup c=some b->cu G.K (.ref (G.cl c)) (.ref A.c_NoNumber)=some b/\ExK G.K (G.cl c)
 kt2:∀c b,tbl2.lookup c=some b->cu G.K (.ref (G.cl c)) (.ref A.c_NoPairs)=some b/\ExK G.K (G.cl c)
 kt3:∀c b,tbl3.lookup c=some b->cu G.K (.ref (G.cl c)) (.ref A.c_Round)=some b/\ExK G.K (G.cl c)
 kt4:∀c b,tbl4.lookup c=some b->cu G.K (.ref (G.cl c)) (.ref A.c_NoThing)=some b/\ExK G.K (G.cl c)
 kt5:∀c b,tbl5.lookup c=some b->cu G.K (.ref (G.cl c)) (.ref A.c_NoRow)=some b/\ExK G.K (G.cl c)
 kt6:∀c b,tbl6.lookup c=some b->cu G.K (.ref (G.cl c)) (.ref A.c_TooMany)=some b/\ExK G.K (G.cl c)
 kt7:∀c b,tbl7.lookup c=some b->cu G.K (.ref (G.cl c)) (.ref A.c_TooFew)=some b/\ExK G.K (G.cl c)
 kt8:∀c b,tbl8.lookup c=some b->cu G.K (.ref (G.cl c)) (.ref A.c_NoText)=some b/\ExK G.K (G.cl c)
 kt9:∀c b,tbl9.lookup c=some b->cu G.K (.ref (G.cl c)) (.ref A.c_NoLine)=some b/\ExK G.K (G.cl c)
 kt10:∀c b,tbl10.lookup c=some b->cu G.K (.ref (G.cl c)) (.ref A.c_NoDeed)=some b/\ExK G.K (G.cl c)
 kt11:∀c b,tbl11.lookup c=some b->cu G.K (.ref (G.cl c)) (.ref A.c_NoSeating)=some b/\ExK G.K (G.cl c)
 kt12:∀c b,tbl12.lookup c=some b->cu G.K (.ref (G.cl c)) (.ref A.c_NoRing)=some b/\ExK G.K (G.cl c)
 kt13:∀c b,tbl13.lookup c=some b->cu G.K (.ref (G.cl c)) (.ref A.c_NoSizes)=some b/\ExK G.K (G.cl c)
 n_NearError:mg "NearError" = some (.ref A.NE)
 e1:jv K (.ref A.NE) (.type "BaseException")=some true
 e2:jv K (.type "type") (.type "tuple")=some false
 e3:xl K (.ref A.NE) (.ref A.NE)=some true
 e4:∀c,c<14->jv K (.ref (G.cl c)) (.ref A.NE)=some true
 lq:(("law" : Str) ++ ".<locals>.") ++ "<lambda>" = G.lq
 tab:G.tab=some A.P
 code:A.fd_q8.code=.ref A.cc
theorem K2:(["one","other"]:List Str).Nodup:=by decide +kernel
theorem YQ:(["part","many"]:List Str).Nodup:=by decide +kernel
theorem YR:(["thing","many"]:List Str).Nodup:=by decide +kernel
theorem K4:(["a","b"]:List Str).Nodup:=by decide +kernel
theorem xT:(["a","b","middle","c","pairs"]:List Str).Nodup:=by decide +kernel
theorem K5:(["thing","many","pairs"]:List Str).Nodup:=by decide +kernel
theorem YS:(["order","one","other","pairs"]:List Str).Nodup:=by decide +kernel
theorem K6:(["one","other","order"]:List Str).Nodup:=by decide +kernel
theorem YT:(["order","ring","up"]:List Str).Nodup:=by decide +kernel
theorem YU:(["step","order"]:List Str).Nodup:=by decide +kernel
theorem YV:(["_law_script","_law_k","_law_cell"]:List Str).Nodup:=by decide +kernel
theorem CQ:(["_law_state_here","_law_many","_law_found","_law_stirred"]:List Str).Nodup:=by decide +kernel
theorem K7:(["_law_state_here","_law_many","_law_left","_law_found"]:List Str).Nodup:=by decide +kernel
theorem xU:(["_law_many","_law_pairs","_law_found","_law_middle","_law_a","_law_b"]:List Str).Nodup:=by decide +kernel
theorem kG:(["_law_state_here","_law_most","_law_many","_law_row","_law_way","_law_kind","_law_pairs","_law_at","_law_later","_law_linked"]:List Str).Nodup:=by decide +kernel
theorem YW:(["_law_thing","_law_state_here"]:List Str).Nodup:=by decide +kernel
theorem xV:(["_law_state_here","_law_order_here","_law_found","_law_turn","_law_some"]:List Str).Nodup:=by decide +kernel
theorem YX:(["_law_one","_law_found"]:List Str).Nodup:=by decide +kernel
theorem YY:(["_law_one","_law_order_here","_law_found"]:List Str).Nodup:=by decide +kernel
theorem CS:(["_law_order_here","_law_found","_law_a","_law_b"]:List Str).Nodup:=by decide +kernel
theorem xW:(["_law_state_here","_law_thing","_law_many","_law_at","_law_odd","_law_some"]:List Str).Nodup:=by decide +kernel
theorem YZ:(["_law_one","_law_order_here"]:List Str).Nodup:=by decide +kernel
theorem Y0:(["_law_at","_law_order_here","_law_thing"]:List Str).Nodup:=by decide +kernel
theorem K8:(["_law_one","_law_other"]:List Str).Nodup:=by decide +kernel
theorem xX:(["_law_order_here","_law_ring_here","_law_up","_law_aside","_law_number"]:List Str).Nodup:=by decide +kernel
theorem Y1:(["_law_at","_law_order_here","_law_ring_here"]:List Str).Nodup:=by decide +kernel
theorem sO:(["_law_call","_law_error","e","_law_marks"]:List Str).Nodup:=by decide +kernel
theorem Y2:(["_law_k","_law_marks"]:List Str).Nodup:=by decide +kernel
theorem CT:(["_law_state_here","_law_some"]:List Str).Nodup:=by decide +kernel
theorem iT:(["_law_script","_law_k","_law_state_here","_law_order_here","_law_rings","_law_bent_here","_law_turn","_law_ring_here","_law_thing","_law_good","_law_due","_law_none"]:List Str).Nodup:=by decide +kernel
theorem Y3:(["_law_turn","_law_state_here","_law_order_here"]:List Str).Nodup:=by decide +kernel
theorem Y4:(["_law_pair"]:List Str).Nodup:=by decide +kernel
section
variable{P:bg}{w:cn}{K:aq}{mg:Str->Option af}{base:cp}{G:Cfg}{A:Ad}
theorem Y5:FnScope ["thing"] ["thing"] (aV BU):=⟨rfl,rfl,rfl,by decide +kernel,rfl,by decide +kernel,by decide +kernel⟩
theorem Y6 (T:Tx K mg G A):FnOk P w K mg base (bL P w base) 1 A.f_q2 A.fd_q2 ["thing"] (cF G F_q2):=cX (k:=0) (N:=["thing"]) (mb:=wF) T.F_q2 Y5 T.hK λcdv Ar outer s H E₀ E g=>(bC (bQ (jS (IE rfl T.z_isinstance rfl T.z_int (aD 0)) (jR (AG (vG rfl T.z_isinstance rfl T.z_bool (aD 0)))))))
theorem Y7:FnScope ["thing","low","high"] ["thing","low","high"] (aV BV):=⟨rfl,rfl,rfl,by decide +kernel,rfl,by decide +kernel,by decide +kernel⟩
theorem K9 (T:Tx K mg G A):FnOk P w K mg base (bL P w base) 2 A.f_qn A.fd_qn ["thing","low","high"] (cF G F_qn):=cX (k:=1) (N:=["thing","low","high"]) (mb:=sD) T.F_qn Y7 T.hK λcdv Ar outer s H E₀ E g=>(bC (bQ (jS (bP g (Y6 T) (by decide) rfl T.m_q2 T.F_q2.kp T.B_q2 (aF (aD 0) aN)) (jR (UR (aD 1) (aD 0) (aD 2))))))
theorem Y8:FnScope ["parts"] ["parts"] (aV xI):=⟨rfl,rfl,rfl,by decide +kernel,rfl,by decide +kernel,by decide +kernel⟩
theorem Y9 (T:Tx K mg G A):FnOk P w K mg base (bL P w base) 1 A.f_qz A.fd_qz ["parts"] (cF G F_qz):=cX (k:=0) (N:=["parts"]) (mb:=BK) T.F_qz Y8 T.hK λcdv Ar outer s H E₀ E g=>(bC (bQ (nV g.calm rfl T.z_all (jE g.calm (gI (N:=["one","other"]) (cap:=[none,none]) (os:=(aV xI)) (oN:=["parts"]) rfl rfl rfl (by decide +kernel) rfl (by decide +kernel) (by decide +kernel) (by decide +kernel)) (HK rfl T.z_zip (aF (aD 0) (aF (jM (aD 0) (iQ aT) jG) aN))) (λs H ex=>(nM (eV g).calm (iA (cP (i:=0) K2 rfl (by first|exact .inl rfl|exact .inr rfl)) (iA (cP (i:=1) K2 rfl (by first|exact .inl rfl|exact .inr rfl)) nL)))) (λs H ex=>jX) (λs H ex=>(BI (eV g) (aD 0) (aD 1)))))))
theorem ZA:FnScope ["number","by"] ["number","by"] (aV BW):=⟨rfl,rfl,rfl,by decide +kernel,rfl,by decide +kernel,by decide +kernel⟩
theorem ZC (T:Tx K mg G A):FnOk P w K mg base (bL P w base) 1 A.f_qq A.fd_qq ["number","by"] (cF G F_qq):=cX (k:=0) (N:=["number","by"]) (mb:=BQ) T.F_qq ZA T.hK λcdv Ar outer s H E₀ E g=>(bC (bQ (pP (A4 (pP (aD 0)) (aD 1)))))
theorem ZD:FnScope ["many","thing"] ["many","thing"] (aV BX):=⟨rfl,rfl,rfl,by decide +kernel,rfl,by decide +kernel,by decide +kernel⟩
theorem ZE (T:Tx K mg G A):FnOk P w K mg base (bL P w base) 3 A.f_q1 A.fd_q1 ["many","thing"] (cF G F_q1):=cX (k:=2) (N:=["many","thing"]) (mb:=wG) T.F_q1 ZD T.hK λcdv Ar outer s H E₀ E g=>(bC (bQ (bP g (K9 T) (by decide) rfl T.m_qn T.F_qn.kp T.B_qn (aF (aD 1) (aF aT (aF (lL (aD 0) aT) aN))))))
theorem ZF:FnScope ["many","thing"] ["many","thing"] (aV xJ):=⟨rfl,rfl,rfl,by decide +kernel,rfl,by decide +kernel,by decide +kernel⟩
theorem LA (T:Tx K mg G A):FnOk P w K mg base (bL P w base) 4 A.f_qm A.fd_qm ["many","thing"] (cF G F_qm):=cX (k:=3) (N:=["many","thing"]) (mb:=sE) T.F_qm ZF T.hK λcdv Ar outer s H E₀ E g=>(bC (bQ (jS (pR rfl T.z_isinstance rfl T.z_tuple (aD 1)) (jR (nV g.calm rfl T.z_all (jE g.calm (gI (N:=["part","many"]) (cap:=[none,some 0]) (os:=(aV xJ)) (oN:=["many","thing"]) rfl rfl rfl (by decide +kernel) rfl (by decide +kernel) (by decide +kernel) (by decide +kernel)) (nO (aD 1)) (λs H ex=>(cP (i:=0) YQ rfl (by first|exact .inl rfl|exact .inr rfl))) (λs H ex=>jX) (λs H ex=>(bP (eV g) (ZE T) (by decide) rfl T.m_q1 T.F_q1.kp T.B_q1 (aF (aD 1) (aF (aD 0) aN))))))))))
theorem ZG:FnScope ["many","thing"] ["many","thing"] (aV BY):=⟨rfl,rfl,rfl,by decide +kernel,rfl,by decide +kernel,by decide +kernel⟩
theorem ZH (T:Tx K mg G A):FnOk P w K mg base (bL P w base) 5 A.f_q6 A.fd_q6 ["many","thing"] (cF G F_q6):=cX (k:=4) (N:=["many","thing"]) (mb:=oH) T.F_q6 ZG T.hK λcdv Ar outer s H E₀ E g=>(bC (bQ (jS (bP g (LA T) (by decide) rfl T.m_qm T.F_qm.kp T.B_qm (aF (aD 0) (aF (aD 1) aN))) (jR (pQ g (gC rfl T.z_len (aF (aD 1) aN)) aT)))))
theorem ZI:FnScope ["many","things"] ["many","things"] (aV xK):=⟨rfl,rfl,rfl,by decide +kernel,rfl,by decide +kernel,by decide +kernel⟩
theorem ZJ (T:Tx K mg G A):FnOk P w K mg base (bL P w base) 6 A.f_qx A.fd_qx ["many","things"] (cF G F_qx):=cX (k:=5) (N:=["many","things"]) (mb:=wH) T.F_qx ZI T.hK λcdv Ar outer s H E₀ E g=>(bC (bQ (nV g.calm rfl T.z_all (jE g.calm (gI (N:=["thing","many"]) (cap:=[none,some 0]) (os:=(aV xK)) (oN:=["many","things"]) rfl rfl rfl (by decide +kernel) rfl (by decide +kernel) (by decide +kernel) (by decide +kernel)) (nO (aD 1)) (λs H ex=>(cP (i:=0) YR rfl (by first|exact .inl rfl|exact .inr rfl))) (λs H ex=>jX) (λs H ex=>(bP (eV g) (ZH T) (by decide) rfl T.m_q6 T.F_q6.kp T.B_q6 (aF (aD 1) (aF (aD 0) aN))))))))
theorem ZK:FnScope ["pairs"] ["pairs"] (aV xM):=⟨rfl,rfl,rfl,by decide +kernel,rfl,by decide +kernel,by decide +kernel⟩
theorem ZL (T:Tx K mg G A):FnOk P w K mg base (bL P w base) 1 A.f_qy A.fd_qy ["pairs"] (cF G F_qy):=cX (k:=0) (N:=["pairs"]) (mb:=BL) T.F_qy ZK T.hK λcdv Ar outer s H E₀ E g=>(bC (bQ (TN g.calm rfl T.z_any (jE g.calm (gI (N:=["a","b"]) (cap:=[none,none]) (os:=(aV xM)) (oN:=["pairs"]) rfl rfl rfl (by decide +kernel) rfl (by decide +kernel) (by decide +kernel) (by decide +kernel)) (nO (aD 0)) (λs H ex=>(nM (eV g).calm (iA (cP (i:=0) K4 rfl (by first|exact .inl rfl|exact .inr rfl)) (iA (cP (i:=1) K4 rfl (by first|exact .inl rfl|exact .inr rfl)) nL)))) (λs H ex=>jX) (λs H ex=>(pQ (eV g) (aD 0) (aD 1)))))))
theorem ZM:FnScope ["pairs"] ["pairs"] (aV xN):=⟨rfl,rfl,rfl,by decide +kernel,rfl,by decide +kernel,by decide +kernel⟩
theorem ZN (T:Tx K mg G A):FnOk P w K mg base (bL P w base) 1 A.f_qg A.fd_qg ["pairs"] (cF G F_qg):=cX (k:=0) (N:=["pairs"]) (mb:=BM) T.F_qg ZM T.hK λcdv Ar outer s H E₀ E g=>(bC (bQ (nV g.calm rfl T.z_all (SG g.calm (gI (N:=["a","b","middle","c","pairs"]) (cap:=[none,none,none,none,some 0]) (os:=(aV xN)) (oN:=["pairs"]) rfl rfl rfl (by decide +kernel) rfl (by decide +kernel) (by decide +kernel) (by decide +kernel)) (nO (aD 0)) (λs H ex=>(nM (eV g).calm (iA (cP (i:=0) xT rfl (by first|exact .inl rfl|exact .inr rfl)) (iA (cP (i:=1) xT rfl (by first|exact .inl rfl|exact .inr rfl)) nL)))) (λs H ex=>jX) (λs H ex=>(nO (aD 4))) (λs H ex=>(nM (eV g).calm (iA (cP (i:=2) xT rfl (by first|exact .inl rfl|exact .inr rfl)) (iA (cP (i:=3) xT rfl (by first|exact .inl rfl|exact .inr rfl)) nL)))) (λs H ex=>(nQ (A0 (eV g) (aD 1) (aD 2)))) (λs H ex=>(II (eV g) (fB (aF (aD 0) (aF (aD 3) aN))) (aD 4)))))))
theorem ZO:FnScope ["thing","many","pairs"] ["thing"] (aV BZ):=⟨rfl,rfl,rfl,by decide +kernel,rfl,by decide +kernel,by decide +kernel⟩
theorem ZP (T:Tx K mg G A):FnOk P w K mg base (bL P w base) 7 A.f_q0 A.fd_q0 ["thing"] (cF G F_q0):=cX (k:=6) (N:=["thing","many","pairs"]) (mb:=mQ) T.F_q0 ZO T.hK λcdv Ar outer s H E₀ E g=>(bB (dX (SndW.t (mE (gY (fG (pR rfl T.z_isinstance rfl T.z_tuple (aD 0)))) (nE (kP g (gC rfl T.z_len (aF (aD 0) aN)) aT)))) (bC (bQ gA)) dW) (bB (SD (aD 0) (nM g.calm (iA (cP (i:=1) K5 rfl (by first|exact .inl rfl|exact .inr rfl)) (iA (cP (i:=2) K5 rfl (by first|exact .inl rfl|exact .inr rfl)) nL)))) (bB (dX (SndW.t (mE (gY (fG (bP g (K9 T) (by decide) rfl T.m_qn T.F_qn.kp T.B_qn (aF (aD 1) (aF aT (aF (UL rfl T.c_MOST_THINGS) aN)))))) (nE (gY (fG (pR rfl T.z_isinstance rfl T.z_tuple (aD 2))))))) (bC (bQ gA)) dW) (bB (dX (SndW.t (mE (gY (fG (bP g (ZJ T) (by decide) rfl T.m_qx T.F_qx.kp T.B_qx (aF (aD 1) (aF (aD 2) aN))))) (nE (gY (fG (bP g (Y9 T) (by decide) rfl T.m_qz T.F_qz.kp T.B_qz (aF (aD 2) aN))))))) (bC (bQ gA)) dW) (bC (bQ (jS (AG (bP g (ZL T) (by decide) rfl T.m_qy T.F_qy.kp T.B_qy (aF (aD 2) aN))) (jR (bP g (ZN T) (by decide) rfl T.m_qg T.F_qg.kp T.B_qg (aF (aD 2) aN))))))))))
theorem ZQ:FnScope ["order"] ["order"] (aV CA):=⟨rfl,rfl,rfl,by decide +kernel,rfl,by decide +kernel,by decide +kernel⟩
theorem ZR (T:Tx K mg G A):FnOk P w K mg base (bL P w base) 8 A.f_qo A.fd_qo ["order"] (cF G F_qo):=cX (k:=7) (N:=["order"]) (mb:=wN) T.F_qo ZQ T.hK λcdv Ar outer s H E₀ E g=>(bC (dX (gY (fG (bP g (ZP T) (by decide) rfl T.m_q0 T.F_q0.kp T.B_q0 (aF (aD 0) aN)))) (bC (G3 g rfl T.n_NoOrder T.ns_NoOrder T.x_NoOrder T.ce_NoOrder (aF uG aN))) dW))
theorem ZS:FnScope ["order","one","other","pairs"] ["order","one","other"] (aV CB):=⟨rfl,rfl,rfl,by decide +kernel,rfl,by decide +kernel,by decide +kernel⟩
theorem ZT (T:Tx K mg G A):FnOk P w K mg base (bL P w base) 1 A.f_qw A.fd_qw ["order","one","other"] (cF G F_qw):=cX (k:=0) (N:=["order","one","other","pairs"]) (mb:=sF) T.F_qw ZS T.hK λcdv Ar outer s H E₀ E g=>(bB (cD (i:=3) YS rfl (by first|exact .inl rfl|exact .inr rfl) (cE (aD 0) aT)) (bC (bQ (jS (ID g (aD 1) (aD 2)) (jS (A5 g (fB (aF (aD 1) (aF (aD 2) aN))) (aD 3)) (jR (A5 g (fB (aF (aD 2) (aF (aD 1) aN))) (aD 3))))))))
theorem ZU:FnScope ["order","one","other"] ["order","one","other"] (aV CC):=⟨rfl,rfl,rfl,by decide +kernel,rfl,by decide +kernel,by decide +kernel⟩
theorem ZV (T:Tx K mg G A):FnOk P w K mg base (bL P w base) 2 A.f_q3 A.fd_q3 ["order","one","other"] (cF G F_q3):=cX (k:=1) (N:=["order","one","other"]) (mb:=xA) T.F_q3 ZU T.hK λcdv Ar outer s H E₀ E g=>(bC (bQ (RQ (II g (fB (aF (aD 1) (aF (aD 2) aN))) (cE (aD 0) aT)) (jR (bP g (ZT T) (by decide) rfl T.m_qw T.F_qw.kp T.B_qw (aF (aD 0) (aF (aD 1) (aF (aD 2) aN))))))))
theorem ZW:FnScope ["ring"] ["ring"] (aV CD):=⟨rfl,rfl,rfl,by decide +kernel,rfl,by decide +kernel,by decide +kernel⟩
theorem LB (T:Tx K mg G A):FnOk P w K mg base (bL P w base) 1 A.f_q5 A.fd_q5 ["ring"] (cF G F_q5):=cX (k:=0) (N:=["ring"]) (mb:=BR) T.F_q5 ZW T.hK λcdv Ar outer s H E₀ E g=>(bC (bQ (YJ g.calm rfl T.z_list rfl T.z_zip (aF (aD 0) (aF (eE (jM (aD 0) (iQ aT) jG) (jM (aD 0) jG (iQ aT))) aN)))))
theorem ZX:FnScope ["order","thing"] ["order","thing"] (aV xO):=⟨rfl,rfl,rfl,by decide +kernel,rfl,by decide +kernel,by decide +kernel⟩
theorem CU (T:Tx K mg G A):FnOk P w K mg base (bL P w base) 9 A.f_q7 A.fd_q7 ["order","thing"] (cF G F_q7):=cX (k:=8) (N:=["order","thing"]) (mb:=sH) T.F_q7 ZX T.hK λcdv Ar outer s H E₀ E g=>(bB (nK (bP g (ZR T) (by decide) rfl T.m_qo T.F_qo.kp T.B_qo (aF (aD 0) aN))) (bB (dX (SndW.t (mE (gY (fG (bP g (LA T) (by decide) rfl T.m_qm T.F_qm.kp T.B_qm (aF (cE (aD 0) aT) (aF (aD 1) aN))))) (mE (rZ g (gC rfl T.z_len (aF (aD 1) aN)) aT) (nE (kP g (KU g.calm rfl T.z_len rfl T.z_set (aF (aD 1) aN)) (gC rfl T.z_len (aF (aD 1) aN))))))) (bC (bQ gA)) dW) (bC (bQ (nV g.calm rfl T.z_all (jE g.calm (gI (N:=["one","other","order"]) (cap:=[none,none,some 0]) (os:=(aV xO)) (oN:=["order","thing"]) rfl rfl rfl (by decide +kernel) rfl (by decide +kernel) (by decide +kernel) (by decide +kernel)) (rA (bP g (LB T) (by decide) rfl T.m_q5 T.F_q5.kp T.B_q5 (aF (aD 1) aN))) (λs H ex=>(nM (eV g).calm (iA (cP (i:=0) K6 rfl (by first|exact .inl rfl|exact .inr rfl)) (iA (cP (i:=1) K6 rfl (by first|exact .inl rfl|exact .inr rfl)) nL)))) (λs H ex=>jX) (λs H ex=>(bP (eV g) (ZV T) (by decide) rfl T.m_q3 T.F_q3.kp T.B_q3 (aF (aD 2) (aF (aD 0) (aF (aD 1) aN)))))))))))
theorem ZY:FnScope ["order","ring","up"] ["order","ring"] (aV xP):=⟨rfl,rfl,rfl,by decide +kernel,rfl,by decide +kernel,by decide +kernel⟩
theorem ZZ (T:Tx K mg G A):FnOk P w K mg base (bL P w base) 2 A.f_q4 A.fd_q4 ["order","ring"] (cF G F_q4):=cX (k:=1) (N:=["order","ring","up"]) (mb:=xB) T.F_q4 ZY T.hK λcdv Ar outer s H E₀ E g=>(bB (cD (i:=2) YT rfl (by first|exact .inl rfl|exact .inr rfl) (gC rfl T.z_len (aF (rD (jE g.calm (gI (N:=["step","order"]) (cap:=[none,some 0]) (os:=(aV xP)) (oN:=["order","ring","up"]) rfl rfl rfl (by decide +kernel) rfl (by decide +kernel) (by decide +kernel) (by decide +kernel)) (rA (bP g (LB T) (by decide) rfl T.m_q5 T.F_q5.kp T.B_q5 (aF (aD 1) aN))) (λs H ex=>(cP (i:=0) YU rfl (by first|exact .inl rfl|exact .inr rfl))) (λs H ex=>(nQ (vI (eV g) (aD 0) (cE (aD 1) aT)))) (λs H ex=>(aD 0)))) aN))) (bC (bQ (bP g (ZC T) (by decide) rfl T.m_qq T.F_qq.kp T.B_qq (aF (aD 2) (aF (lL (gC rfl T.z_len (aF (aD 1) aN)) (aD 2)) aN))))))
theorem Z0:FnScope ["order","ring"] ["order","ring"] (aV CF):=⟨rfl,rfl,rfl,by decide +kernel,rfl,by decide +kernel,by decide +kernel⟩
theorem CV (T:Tx K mg G A):FnOk P w K mg base (bL P w base) 10 A.f_qp A.fd_qp ["order","ring"] (cF G F_qp):=cX (k:=9) (N:=["order","ring"]) (mb:=oI) T.F_qp Z0 T.hK λcdv Ar outer s H E₀ E g=>(bB (dX (gY (fG (bP g (CU T) (by decide) rfl T.m_q7 T.F_q7.kp T.B_q7 (aF (aD 0) (aF (aD 1) aN))))) (bC (G3 g rfl T.n_NoRing T.ns_NoRing T.x_NoRing T.ce_NoRing (aF uG aN))) dW) (bC (bQ (bP g (ZZ T) (by decide) rfl T.m_q4 T.F_q4.kp T.B_q4 (aF (aD 0) (aF (aD 1) aN))))))
theorem Z1:FnScope ["_law_script","_law_k"] ["_law_script","_law_k"] (aV CG):=⟨rfl,rfl,rfl,by decide +kernel,rfl,by decide +kernel,by decide +kernel⟩
theorem Z2 (T:Tx K mg G A):FnOk P w K mg base (bL P w base) 1 A.f_qc A.fd_qc ["_law_script","_law_k"] (cF G (F_qc G.scr)):=cX (k:=0) (N:=["_law_script","_law_k"]) (mb:=(wI G.scr)) T.F_qc Z1 T.hK λcdv Ar outer s H E₀ E g=>(bB (dX (rZ g (aD 1) (GO rfl T.z_len (aF (aD 0) aN))) (bC (bQ (RY (aD 0) (aD 1)))) dW) (bC (bQ aT)))
theorem Z3:FnScope ["_law_script","_law_k","_law_cell"] ["_law_script","_law_k"] (aV CH):=⟨rfl,rfl,rfl,by decide +kernel,rfl,by decide +kernel,by decide +kernel⟩
theorem Z4 (T:Tx K mg G A):FnOk P w K mg base (bL P w base) 2 A.f_qk A.fd_qk ["_law_script","_law_k"] (cF G (F_qk G.scr)):=cX (k:=1) (N:=["_law_script","_law_k","_law_cell"]) (mb:=(wJ G.scr)) T.F_qk Z3 T.hK λcdv Ar outer s H E₀ E g=>(bB (cD (i:=2) YV rfl (by first|exact .inl rfl|exact .inr rfl) (bP g (Z2 T) (by decide) rfl T.m_qc T.F_qc.kp T.B_qc (aF (aD 0) (aF (aD 1) aN)))) (bB (dX (UQ (aD 2) (AZ aT aT)) (bC (bQ (fF (aF (lL (aD 2) (AZ aT aT)) (aF gA aN))))) dW) (bC (bQ (fF (aF (nZ (aD 2) aT) (aF gA aN)))))))
theorem Z5:FnScope ["_law_state_here","_law_many","_law_found","_law_stirred"] ["_law_state_here","_law_many"] (aV CI):=⟨rfl,rfl,rfl,by decide +kernel,rfl,by decide +kernel,by decide +kernel⟩
theorem iU (T:Tx K mg G A):FnOk P w K mg base (bL P w base) 1 A.f_qv A.fd_qv ["_law_state_here","_law_many"] (cF G F_qv):=cX (k:=0) (N:=["_law_state_here","_law_many","_law_found","_law_stirred"]) (mb:=wK) T.F_qv Z5 T.hK λcdv Ar outer s H E₀ E g=>(bB (dX (fG (cE (aD 0) aT)) (bB (cD (i:=2) CQ rfl (by first|exact .inl rfl|exact .inr rfl) (nZ (cE (aD 0) aT) (aD 1))) (bB (HE (aD 0) aT (A4 (cE (aD 0) aT) (aD 1))) (bC (bQ (aD 2))))) dW) (bB (HE (aD 0) aT (nZ (eE (pO (cE (aD 0) aT) aT) aT) aT)) (bB (cD (i:=3) CQ rfl (by first|exact .inl rfl|exact .inr rfl) (nZ (eE (eE (pO (cE (aD 0) aT) (cE (aD 0) aT)) (pO aT (cE (aD 0) aT))) aT) aT)) (bB (cD (i:=3) CQ rfl (by first|exact .inl rfl|exact .inr rfl) (nZ (eE (pO (aD 3) (aD 3)) (pO aT (aD 3))) aT)) (bC (bQ (nZ (A4 (aD 3) aT) (aD 1))))))))
theorem Z6:FnScope ["_law_state_here","_law_many","_law_left","_law_found"] ["_law_state_here","_law_many"] (aV CJ):=⟨rfl,rfl,rfl,by decide +kernel,rfl,by decide +kernel,by decide +kernel⟩
theorem Z7 (T:Tx K mg G A):FnOk P w K mg base (bL P w base) 2 A.f_qi A.fd_qi ["_law_state_here","_law_many"] (cF G F_qi):=cX (k:=1) (N:=["_law_state_here","_law_many","_law_left","_law_found"]) (mb:=wO) T.F_qi Z6 T.hK λcdv Ar outer s H E₀ E g=>(bB (cD (i:=2) K7 rfl (by first|exact .inl rfl|exact .inr rfl) (XN g rfl T.z_list rfl T.z_range (aF (aD 1) aN))) (bB (cD (i:=3) K7 rfl (by first|exact .inl rfl|exact .inr rfl) (fF aN)) (bB (HZ 40 g.own (kP g (aD 2) (fF aN)) (bC (nK (pL (aD 3) (UJ (aD 2) (bP g (iU T) (by decide) rfl T.m_qv T.F_qv.kp T.B_qv (aF (aD 0) (aF (gC rfl T.z_len (aF (aD 2) aN)) aN)))))))) (bC (bQ (uP rfl T.z_tuple (aF (aD 3) aN)))))))
theorem Z8:FnScope ["_law_many","_law_pairs","_law_found","_law_middle","_law_a","_law_b"] ["_law_many","_law_pairs"] (aV CK):=⟨rfl,rfl,rfl,by decide +kernel,rfl,by decide +kernel,by decide +kernel⟩
theorem Z9 (T:Tx K mg G A):FnOk P w K mg base (bL P w base) 1 A.f_qf A.fd_qf ["_law_many","_law_pairs"] (cF G F_qf):=cX (k:=0) (N:=["_law_many","_law_pairs","_law_found","_law_middle","_law_a","_law_b"]) (mb:=wQ) T.F_qf Z8 T.hK λcdv Ar outer s H E₀ E g=>(bB (cD (i:=2) xU rfl (by first|exact .inl rfl|exact .inr rfl) (IG rfl T.z_list (aF (aD 1) aN))) (bB (jV g.own g.calm (iL rfl T.z_range (aF (aD 0) aN)) (cP (i:=3) xU rfl (by first|exact .inl rfl|exact .inr rfl)) (bC (jV g.own g.calm (iL rfl T.z_range (aF (aD 0) aN)) (cP (i:=4) xU rfl (by first|exact .inl rfl|exact .inr rfl)) (bC (jV g.own g.calm (iL rfl T.z_range (aF (aD 0) aN)) (cP (i:=5) xU rfl (by first|exact .inl rfl|exact .inr rfl)) (bC (dX (SndW.t (qW (vI g (fB (aF (aD 4) (aF (aD 3) aN))) (aD 2)) (qW (vI g (fB (aF (aD 3) (aF (aD 5) aN))) (aD 2)) (uH (vJ g (fB (aF (aD 4) (aF (aD 5) aN))) (aD 2)))))) (bC (nK (pL (aD 2) (fB (aF (aD 4) (aF (aD 5) aN)))))) dW))))))) (bC (bQ (uP rfl T.z_tuple (aF (XR g rfl T.z_sorted rfl T.z_set (aF (aD 2) aN)) aN))))))
theorem a9:FnScope ["_law_state_here","_law_most","_law_many","_law_row","_law_way","_law_kind","_law_pairs","_law_at","_law_later","_law_linked"] ["_law_state_here","_law_most"] (aV xQ):=⟨rfl,rfl,rfl,by decide +kernel,rfl,by decide +kernel,by decide +kernel⟩
theorem b9 (T:Tx K mg G A):FnOk P w K mg base (bL P w base) 3 A.f_qj A.fd_qj ["_law_state_here","_law_most"] (cF G F_qj):=cX (k:=2) (N:=["_law_state_here","_law_most","_law_many","_law_row","_law_way","_law_kind","_law_pairs","_law_at","_law_later","_law_linked"]) (mb:=wR) T.F_qj a9 T.hK λcdv Ar outer s H E₀ E g=>(bB (cD (i:=2) kG rfl (by first|exact .inl rfl|exact .inr rfl) (lL (aD 1) (cE (fF (aF aT (aF aT (aF aT (aF aT (aF aT (aF aT (aF aT (aF (lL (aD 1) aT) aN))))))))) (bP g (iU T) (by decide) rfl T.m_qv T.F_qv.kp T.B_qv (aF (aD 0) (aF aT aN)))))) (bB (cD (i:=2) kG rfl (by first|exact .inl rfl|exact .inr rfl) (GQ g.calm rfl T.z_max (aF aT (aF (aD 2) aN)))) (bB (cD (i:=3) kG rfl (by first|exact .inl rfl|exact .inr rfl) (bP g (Z7 T) (by decide) rfl T.m_qi T.F_qi.kp T.B_qi (aF (aD 0) (aF (aD 2) aN)))) (bB (cD (i:=4) kG rfl (by first|exact .inl rfl|exact .inr rfl) (bP g (iU T) (by decide) rfl T.m_qv T.F_qv.kp T.B_qv (aF (aD 0) (aF aT aN)))) (bB (vM (i:=5) kG rfl g.calm (gI (N:=["_law_thing","_law_state_here"]) (cap:=[none,some 0]) (os:=(aV xQ)) (oN:=["_law_state_here","_law_most","_law_many","_law_row","_law_way","_law_kind","_law_pairs","_law_at","_law_later","_law_linked"]) rfl rfl rfl (by decide +kernel) rfl (by decide +kernel) (by decide +kernel) (by decide +kernel)) (nO (aD 3)) (λs H ex=>(cP (i:=0) YW rfl (by first|exact .inl rfl|exact .inr rfl))) (λs H ex=>jX) (λs H ex=>(bP (eV g) (iU T) (by decide) rfl T.m_qv T.F_qv.kp T.B_qv (aF (aD 1) (aF aT aN))))) (bB (cD (i:=6) kG rfl (by first|exact .inl rfl|exact .inr rfl) (fF aN)) (bB (jV g.own g.calm (iL rfl T.z_range (aF (aD 2) aN)) (cP (i:=7) kG rfl (by first|exact .inl rfl|exact .inr rfl)) (bC (jV g.own g.calm (GS rfl T.z_range (aF (eE (aD 7) aT) (aF (aD 2) aN))) (cP (i:=8) kG rfl (by first|exact .inl rfl|exact .inr rfl)) (bB (cD (i:=9) kG rfl (by first|exact .inl rfl|exact .inr rfl) (BI g (bP g (iU T) (by decide) rfl T.m_qv T.F_qv.kp T.B_qv (aF (aD 0) (aF aT aN))) (cE (lQ 2) (nZ (aD 4) aT)))) (bB (dX (A0 g (aD 4) aT) (bC (cD (i:=9) kG rfl (by first|exact .inl rfl|exact .inr rfl) (pQ g (cE (aD 5) (aD 7)) (cE (aD 5) (aD 8))))) dW) (bB (dX (A0 g (aD 4) aT) (bC (cD (i:=9) kG rfl (by first|exact .inl rfl|exact .inr rfl) (BI g (cE (aD 5) (aD 7)) (cE (aD 5) (aD 8))))) dW) (bC (dX (fG (aD 9)) (bC (nK (pL (aD 6) (fB (aF (cE (aD 3) (aD 7)) (aF (cE (aD 3) (aD 8)) aN)))))) dW)))))))) (bC (bQ (fB (aF (aD 2) (aF (bP g (Z9 T) (by decide) rfl T.m_qf T.F_qf.kp T.B_qf (aF (aD 2) (aF (aD 6) aN))) aN))))))))))))
theorem c6:FnScope ["_law_order_here","_law_a","_law_b"] ["_law_order_here","_law_a","_law_b"] (aV CL):=⟨rfl,rfl,rfl,by decide +kernel,rfl,by decide +kernel,by decide +kernel⟩
theorem LC (T:Tx K mg G A):FnOk P w K mg base (bL P w base) 1 A.f_qs A.fd_qs ["_law_order_here","_law_a","_law_b"] (cF G F_qs):=cX (k:=0) (N:=["_law_order_here","_law_a","_law_b"]) (mb:=xC) T.F_qs c6 T.hK λcdv Ar outer s H E₀ E g=>(bC (bQ (jS (ID g (aD 1) (aD 2)) (jR (A5 g (fB (aF (aD 2) (aF (aD 1) aN))) (cE (aD 0) aT))))))
theorem c7:FnScope ["_law_state_here","_law_order_here","_law_found","_law_turn","_law_some"] ["_law_state_here","_law_order_here"] (aV sM):=⟨rfl,rfl,rfl,by decide +kernel,rfl,by decide +kernel,by decide +kernel⟩
theorem c8 (T:Tx K mg G A):FnOk P w K mg base (bL P w base) 2 A.f_qt A.fd_qt ["_law_state_here","_law_order_here"] (cF G F_qt):=cX (k:=1) (N:=["_law_state_here","_law_order_here","_law_found","_law_turn","_law_some"]) (mb:=xD) T.F_qt c7 T.hK λcdv Ar outer s H E₀ E g=>(bB (cD (i:=2) xV rfl (by first|exact .inl rfl|exact .inr rfl) (fF (aF (bP g (iU T) (by decide) rfl T.m_qv T.F_qv.kp T.B_qv (aF (aD 0) (aF (cE (aD 1) aT) aN))) aN))) (bB (jV g.own g.calm (iL rfl T.z_range (aF (cE (aD 1) aT) aN)) (cP (i:=3) xV rfl (by first|exact .inl rfl|exact .inr rfl)) (bB (vM (i:=4) xV rfl g.calm (gI (N:=["_law_one","_law_found"]) (cap:=[none,some 2]) (os:=(aV sM)) (oN:=["_law_state_here","_law_order_here","_law_found","_law_turn","_law_some"]) rfl rfl rfl (by decide +kernel) rfl (by decide +kernel) (by decide +kernel) (by decide +kernel)) (iL rfl T.z_range (aF (cE (aD 1) aT) aN)) (λs H ex=>(cP (i:=0) YX rfl (by first|exact .inl rfl|exact .inr rfl))) (λs H ex=>(nQ (vJ (eV g) (aD 0) (aD 1)))) (λs H ex=>(aD 0))) (bB (vM (i:=4) xV rfl g.calm (gI (N:=["_law_one","_law_order_here","_law_found"]) (cap:=[none,some 1,some 2]) (os:=(aV sM)) (oN:=["_law_state_here","_law_order_here","_law_found","_law_turn","_law_some"]) rfl rfl rfl (by decide +kernel) rfl (by decide +kernel) (by decide +kernel) (by decide +kernel)) (rA (aD 4)) (λs H ex=>(cP (i:=0) YY rfl (by first|exact .inl rfl|exact .inr rfl))) (λs H ex=>(nQ (fG (bP (eV g) (LC T) (by decide) rfl T.m_qs T.F_qs.kp T.B_qs (aF (aD 1) (aF (cE (aD 2) (pP aT)) (aF (aD 0) aN))))))) (λs H ex=>(aD 0))) (bC (dX (SndW.t (qW (kP g (aD 4) (fF aN)) (uH (UP (bP g (iU T) (by decide) rfl T.m_qv T.F_qv.kp T.B_qv (aF (aD 0) (aF aT aN))) aT)))) (bC (nK (pL (aD 2) (cE (aD 4) (bP g (iU T) (by decide) rfl T.m_qv T.F_qv.kp T.B_qv (aF (aD 0) (aF (gC rfl T.z_len (aF (aD 4) aN)) aN))))))) dW))))) (bC (bQ (uP rfl T.z_tuple (aF (aD 2) aN))))))
theorem c9:FnScope ["_law_order_here","_law_found","_law_a","_law_b"] ["_law_order_here"] (aV CM):=⟨rfl,rfl,rfl,by decide +kernel,rfl,by decide +kernel,by decide +kernel⟩
theorem d3 (T:Tx K mg G A):FnOk P w K mg base (bL P w base) 1 A.f_qh A.fd_qh ["_law_order_here"] (cF G F_qh):=cX (k:=0) (N:=["_law_order_here","_law_found","_law_a","_law_b"]) (mb:=wU) T.F_qh c9 T.hK λcdv Ar outer s H E₀ E g=>(bB (cD (i:=1) CS rfl (by first|exact .inl rfl|exact .inr rfl) (fF aN)) (bB (jV g.own g.calm (iL rfl T.z_range (aF (cE (aD 0) aT) aN)) (cP (i:=2) CS rfl (by first|exact .inl rfl|exact .inr rfl)) (bC (jV g.own g.calm (GS rfl T.z_range (aF (eE (aD 2) aT) (aF (cE (aD 0) aT) aN))) (cP (i:=3) CS rfl (by first|exact .inl rfl|exact .inr rfl)) (bC (dX (SndW.t (qW (vJ g (fB (aF (aD 2) (aF (aD 3) aN))) (cE (aD 0) aT)) (uH (vJ g (fB (aF (aD 3) (aF (aD 2) aN))) (cE (aD 0) aT))))) (bC (nK (pL (aD 1) (fB (aF (aD 2) (aF (aD 3) aN)))))) dW))))) (bC (bQ (aD 1)))))
theorem d4:FnScope ["_law_state_here","_law_thing","_law_many","_law_at","_law_odd","_law_some"] ["_law_state_here","_law_thing","_law_many"] (aV CN):=⟨rfl,rfl,rfl,by decide +kernel,rfl,by decide +kernel,by decide +kernel⟩
theorem d6 (T:Tx K mg G A):FnOk P w K mg base (bL P w base) 2 A.f_qr A.fd_qr ["_law_state_here","_law_thing","_law_many"] (cF G F_qr):=cX (k:=1) (N:=["_law_state_here","_law_thing","_law_many","_law_at","_law_odd","_law_some"]) (mb:=xE) T.F_qr d4 T.hK λcdv Ar outer s H E₀ E g=>(bB (cD (i:=3) xW rfl (by first|exact .inl rfl|exact .inr rfl) (bP g (iU T) (by decide) rfl T.m_qv T.F_qv.kp T.B_qv (aF (aD 0) (aF (eE (gC rfl T.z_len (aF (aD 1) aN)) aT) aN)))) (bB (cD (i:=4) xW rfl (by first|exact .inl rfl|exact .inr rfl) (cE (fF (aF aT (aF (aD 2) (aF (pP aT) (aF gA (aF uF (aF uG (aF (lQ 2) (aF (AZ aT aT) (aF (lL (aD 2) aT) (aF (lQ 2) aN))))))))))) (bP g (iU T) (by decide) rfl T.m_qv T.F_qv.kp T.B_qv (aF (aD 0) (aF aT aN))))) (bB (cD (i:=5) xW rfl (by first|exact .inl rfl|exact .inr rfl) (fF (aF (eE (eE (jM (aD 1) jG (iQ (aD 3))) (fB (aF (aD 4) aN))) (jM (aD 1) (iQ (eE (aD 3) aT)) jG)) (aF (eE (eE (jM (aD 1) jG (iQ (aD 3))) (fB (aF (aD 4) aN))) (jM (aD 1) (iQ (aD 3)) jG)) (aF (eE (jM (aD 1) jG (iQ (aD 3))) (jM (aD 1) (iQ (eE (aD 3) aT)) jG)) aN))))) (bB (cD (i:=5) xW rfl (by first|exact .inl rfl|exact .inr rfl) (eE (aD 5) (fF (aF (IG rfl T.z_list (aF (aD 1) aN)) (aF (XY (aD 1) (iQ (pP aT))) (aF uF (aF IC (aF aT (aF (eE (jM (aD 1) (iQ aT) jG) (jM (aD 1) jG (iQ aT))) aN))))))))) (bC (bQ (cE (aD 5) (cE (lQ 2) (bP g (iU T) (by decide) rfl T.m_qv T.F_qv.kp T.B_qv (aF (aD 0) (aF aT aN)))))))))))
theorem d7:FnScope ["_law_thing"] ["_law_thing"] (aV CO):=⟨rfl,rfl,rfl,by decide +kernel,rfl,by decide +kernel,by decide +kernel⟩
theorem d8 (T:Tx K mg G A):FnOk P w K mg base (bL P w base) 1 A.f_ql A.fd_ql ["_law_thing"] (cF G F_ql):=cX (k:=0) (N:=["_law_thing"]) (mb:=BS) T.F_ql d7 T.hK λcdv Ar outer s H E₀ E g=>(bC (bQ (jS (IE rfl T.z_isinstance rfl T.z_int (aD 0)) (jR (AG (vG rfl T.z_isinstance rfl T.z_bool (aD 0)))))))
theorem d9:FnScope ["_law_order_here","_law_thing"] ["_law_order_here","_law_thing"] (aV sN):=⟨rfl,rfl,rfl,by decide +kernel,rfl,by decide +kernel,by decide +kernel⟩
theorem h8 (T:Tx K mg G A):FnOk P w K mg base (bL P w base) 2 A.f_qd A.fd_qd ["_law_order_here","_law_thing"] (cF G F_qd):=cX (k:=1) (N:=["_law_order_here","_law_thing"]) (mb:=pZ) T.F_qd d9 T.hK λcdv Ar outer s H E₀ E g=>(bB (dX (SndW.t (mE (gY (fG (pR rfl T.z_isinstance rfl T.z_tuple (aD 1)))) (nE (rZ g (gC rfl T.z_len (aF (aD 1) aN)) aT)))) (bC (bQ gA)) dW) (bB (dX (SndW.t (mE (gY (fG (nV g.calm rfl T.z_all (jE g.calm (gI (N:=["_law_one","_law_order_here"]) (cap:=[none,some 0]) (os:=(aV sN)) (oN:=["_law_order_here","_law_thing"]) rfl rfl rfl (by decide +kernel) rfl (by decide +kernel) (by decide +kernel) (by decide +kernel)) (nO (aD 1)) (λs H ex=>(cP (i:=0) YZ rfl (by first|exact .inl rfl|exact .inr rfl))) (λs H ex=>jX) (λs H ex=>(jS (bP (eV g) (d8 T) (by decide) rfl T.m_ql T.F_ql.kp T.B_ql (aF (aD 0) aN)) (jR (US aT (aD 0) (cE (aD 1) aT))))))))) (nE (rZ g (KU g.calm rfl T.z_len rfl T.z_set (aF (aD 1) aN)) (gC rfl T.z_len (aF (aD 1) aN)))))) (bC (bQ gA)) dW) (bC (bQ (pQ g (rD (jE g.calm (gI (N:=["_law_at","_law_order_here","_law_thing"]) (cap:=[none,some 0,some 1]) (os:=(aV sN)) (oN:=["_law_order_here","_law_thing"]) rfl rfl rfl (by decide +kernel) rfl (by decide +kernel) (by decide +kernel) (by decide +kernel)) (iL rfl T.z_range (aF (gC rfl T.z_len (aF (aD 1) aN)) aN)) (λs H ex=>(cP (i:=0) Y0 rfl (by first|exact .inl rfl|exact .inr rfl))) (λs H ex=>(nQ (gY (fG (bP (eV g) (LC T) (by decide) rfl T.m_qs T.F_qs.kp T.B_qs (aF (aD 1) (aF (cE (aD 2) (lL (aD 0) aT)) (aF (cE (aD 2) (aD 0)) aN)))))))) (λs H ex=>(aD 0)))) (fF aN))))))
theorem h9:FnScope ["_law_found","_law_due"] ["_law_found","_law_due"] (aV xR):=⟨rfl,rfl,rfl,by decide +kernel,rfl,by decide +kernel,by decide +kernel⟩
theorem CW (T:Tx K mg G A):∀n,FnOk P w K mg base (bL P w base) n A.f_qu A.fd_qu ["_law_found","_law_due"] (cF G (F_qu n))
 |0=>VG
 |n+1=>by have okS:=CW T n;exact cX (N:=["_law_found","_law_due"]) (mb:=wL (F_qu n)) T.F_qu h9 T.hK λcdv Ar outer s H E₀ E g=>(bB (dX (fG (VD rfl T.z_isinstance rfl T.z_tuple rfl T.z_list (aD 1))) (bB (dX (SndW.t (mE (kP g (pR rfl T.z_isinstance rfl T.z_tuple (aD 0)) (pR rfl T.z_isinstance rfl T.z_tuple (aD 1))) (nE (kP g (IF rfl T.z_isinstance rfl T.z_list (aD 0)) (IF rfl T.z_isinstance rfl T.z_list (aD 1)))))) (bC (bQ gA)) dW) (bB (dX (kP g (gC rfl T.z_len (aF (aD 0) aN)) (gC rfl T.z_len (aF (aD 1) aN))) (bC (bQ gA)) dW) (bC (bQ (nV g.calm rfl T.z_all (jE g.calm (gI (N:=["_law_one","_law_other"]) (cap:=[none,none]) (os:=(aV xR)) (oN:=["_law_found","_law_due"]) rfl rfl rfl (by decide +kernel) rfl (by decide +kernel) (by decide +kernel) (by decide +kernel)) (HK rfl T.z_zip (aF (aD 0) (aF (aD 1) aN))) (λs H ex=>(nM (eV g).calm (iA (cP (i:=0) K8 rfl (by first|exact .inl rfl|exact .inr rfl)) (iA (cP (i:=1) K8 rfl (by first|exact .inl rfl|exact .inr rfl)) nL)))) (λs H ex=>jX) (λs H ex=>(bP (eV g) okS (ak _) rfl T.m_qu T.F_qu.kp T.B_qu (aF (aD 0) (aF (aD 1) aN)))))))))) dW) (bC (bQ (jS (pQ g (aD 0) (aD 1)) (jR (pQ g (vG rfl T.z_isinstance rfl T.z_bool (aD 0)) (vG rfl T.z_isinstance rfl T.z_bool (aD 1))))))))
theorem i0:FnScope ["_law_order_here","_law_ring_here","_law_up","_law_aside","_law_number"] ["_law_order_here","_law_ring_here"] (aV xS):=⟨rfl,rfl,rfl,by decide +kernel,rfl,by decide +kernel,by decide +kernel⟩
theorem i7 (T:Tx K mg G A):FnOk P w K mg base (bL P w base) 1 A.f_qa A.fd_qa ["_law_order_here","_law_ring_here"] (cF G F_qa):=cX (k:=0) (N:=["_law_order_here","_law_ring_here","_law_up","_law_aside","_law_number"]) (mb:=xF) T.F_qa i0 T.hK λcdv Ar outer s H E₀ E g=>(bB (cD (i:=2) xX rfl (by first|exact .inl rfl|exact .inr rfl) (gC rfl T.z_len (aF (rD (jE g.calm (gI (N:=["_law_at","_law_order_here","_law_ring_here"]) (cap:=[none,some 0,some 1]) (os:=(aV xS)) (oN:=["_law_order_here","_law_ring_here","_law_up","_law_aside","_law_number"]) rfl rfl rfl (by decide +kernel) rfl (by decide +kernel) (by decide +kernel) (by decide +kernel)) (iL rfl T.z_range (aF (gC rfl T.z_len (aF (aD 1) aN)) aN)) (λs H ex=>(cP (i:=0) Y1 rfl (by first|exact .inl rfl|exact .inr rfl))) (λs H ex=>(nQ (vI (eV g) (fB (aF (cE (aD 2) (lL (aD 0) aT)) (aF (cE (aD 2) (aD 0)) aN))) (cE (aD 1) aT)))) (λs H ex=>(aD 0)))) aN))) (bB (cD (i:=3) xX rfl (by first|exact .inl rfl|exact .inr rfl) (lL (gC rfl T.z_len (aF (aD 1) aN)) (aD 2))) (bB (cD (i:=4) xX rfl (by first|exact .inl rfl|exact .inr rfl) aT) (bB (HZ 40 g.own (rZ g (pO (aD 4) (aD 3)) (aD 2)) (bC (cD (i:=4) xX rfl (by first|exact .inl rfl|exact .inr rfl) (eE (aD 4) aT)))) (bC (bQ (aD 4)))))))
theorem i8:FnScope ["_law_call","_law_error","e","_law_marks"] ["_law_call"] (aV oJ):=⟨rfl,rfl,rfl,by decide +kernel,rfl,by decide +kernel,by decide +kernel⟩
theorem i9 {k:Nat}(T:Tx K mg G A) (cdv:af) (Ar:cg) (outer:List Env) (s:ag) (H:Hp) (E₀ E:XK) (g:Good (fU (bL P w base) P w K mg base ["_law_call","_law_error","e","_law_marks"] "_law_refused" (aV oJ) A.f_qe cdv Ar outer s H E₀) G E k):iK (fU (bL P w base) P w K mg base ["_law_call","_law_error","e","_law_marks"] "_law_refused" (aV oJ) A.f_qe cdv Ar outer s H E₀) G E ((jP oJ).drop 2) hW:=(bB (cD (i:=3) sO rfl (by first|exact .inl rfl|exact .inr rfl) (fF (aF (iD rfl T.z_isinstance rfl T.n_NoOrder (aD 1) (λ_ h=>by cases h) T.kt0) (aF (iD rfl T.z_isinstance rfl T.n_NoNumber (aD 1) (λ_ h=>by cases h) T.kt1) (aF (iD rfl T.z_isinstance rfl T.n_NoPairs (aD 1) (λ_ h=>by cases h) T.kt2) aN))))) (bB (cD (i:=3) sO rfl (by first|exact .inl rfl|exact .inr rfl) (eE (aD 3) (fF (aF (iD rfl T.z_isinstance rfl T.n_Round (aD 1) (λ_ h=>by cases h) T.kt3) (aF (iD rfl T.z_isinstance rfl T.n_NoThing (aD 1) (λ_ h=>by cases h) T.kt4) (aF (iD rfl T.z_isinstance rfl T.n_NoRow (aD 1) (λ_ h=>by cases h) T.kt5) aN)))))) (bB (cD (i:=3) sO rfl (by first|exact .inl rfl|exact .inr rfl) (eE (aD 3) (fF (aF (iD rfl T.z_isinstance rfl T.n_TooMany (aD 1) (λ_ h=>by cases h) T.kt6) (aF (iD rfl T.z_isinstance rfl T.n_TooFew (aD 1) (λ_ h=>by cases h) T.kt7) (aF (iD rfl T.z_isinstance rfl T.n_NoText (aD 1) (λ_ h=>by cases h) T.kt8) aN)))))) (bB (cD (i:=3) sO rfl (by first|exact .inl rfl|exact .inr rfl) (eE (aD 3) (fF (aF (iD rfl T.z_isinstance rfl T.n_NoLine (aD 1) (λ_ h=>by cases h) T.kt9) (aF (iD rfl T.z_isinstance rfl T.n_NoDeed (aD 1) (λ_ h=>by cases h) T.kt10) (aF (iD rfl T.z_isinstance rfl T.n_NoSeating (aD 1) (λ_ h=>by cases h) T.kt11) aN)))))) (bB (cD (i:=3) sO rfl (by first|exact .inl rfl|exact .inr rfl) (eE (aD 3) (fF (aF (iD rfl T.z_isinstance rfl T.n_NoRing (aD 1) (λ_ h=>by cases h) T.kt12) (aF (iD rfl T.z_isinstance rfl T.n_NoSizes (aD 1) (λ_ h=>by cases h) T.kt13) aN))))) (bB (dX (gY (fG (VE rfl T.z_isinstance rfl T.z_ValueError (aD 1) (λ_ h=>by cases h) T.ktV))) (bC (bQ uF)) dW) (bC (bQ (rD (jE g.calm (gI (N:=["_law_k","_law_marks"]) (cap:=[none,some 3]) (os:=(aV oJ)) (oN:=["_law_call","_law_error","e","_law_marks"]) rfl rfl rfl (by decide +kernel) rfl (by decide +kernel) (by decide +kernel) (by decide +kernel)) (iL rfl T.z_range (aF aT aN)) (λs H ex=>(cP (i:=0) Y2 rfl (by first|exact .inl rfl|exact .inr rfl))) (λs H ex=>(nQ (fG (cE (aD 1) (aD 0))))) (λs H ex=>(aD 0))))))))))))
theorem CY {k:Nat}{Nl:List Str}{params:lx}{body:bu}{scope:iu}{me:M Dv}(T:Tx K mg G A) (LS:LamScope Nl scope) (hb:∀(cl:List (Str×ai)) (pm cdv ct:af),bindArgs (pz "<lambda>" G.lq params body scope cl pm cdv ct) ⟨[],[]⟩=pure [])
  (hbody:∀(f:ai) (cdv:af) (cl:List (Str×ai)) (A:cg) (outer:List Env) (s:ag) (H:Hp) (E₀ E:XK),Good (iN P w K mg base Nl G.lq scope f cdv cl A outer s H E₀) G E k->aK (iN P w K mg base Nl G.lq scope f cdv cl A outer s H E₀) G E body me):
  FnOk P w K mg base (bL P w base) (k+2) A.f_qe A.fd_qe ["_law_call"] (uZ G base Nl params body scope me 4 14 hW):=
 UC T.F_qe i8 T.hK rfl rfl rfl rfl rfl rfl rfl (by decide) (by decide) (by decide) (by decide) (by decide) (λ_ _=>rfl) (λ_ _=>rfl) (λ_ _=>rfl) rfl T.n_NearError T.e1 T.e2 T.e3 T.e4 LS hb hbody (i9 T)
theorem j7:FnScope ["_law_state_here","_law_some"] ["_law_state_here"] (aV CP):=⟨rfl,rfl,rfl,by decide +kernel,rfl,by decide +kernel,by decide +kernel⟩
theorem j8 (T:Tx K mg G A):FnOk P w K mg base (bL P w base) 2 A.f_qb A.fd_qb ["_law_state_here"] (cF G F_qb):=X2 (k:=1) (N:=["_law_state_here","_law_some"]) (mb:=wV) T.F_qb j7 T.hK λcdv Ar outer s H E₀ E g=>(BO (X1 5 (i:=1) CT rfl (by first|exact .inl rfl|exact .inr rfl)) (BO (KS 5 (i:=1) CT rfl (by first|exact .inl rfl|exact .inr rfl) (aD 1)) (BO (KS 5 (i:=1) CT rfl (by first|exact .inl rfl|exact .inr rfl) (aD 1)) (X0 (SW.mk (bQ (cE (aD 1) (bP g (iU T) (by decide) rfl T.m_qv T.F_qv.kp T.B_qv (aF (aD 0) (aF aT aN))))))))))
theorem k6:FnScope ["_law_script","_law_k","_law_state_here","_law_order_here","_law_rings","_law_bent_here","_law_turn","_law_ring_here","_law_thing","_law_good","_law_due","_law_none"] ["_law_script"] (aV mU):=⟨rfl,rfl,rfl,by decide +kernel,rfl,by decide +kernel,by decide +kernel⟩
theorem k7 (T:Tx K mg G A) (hC:lj base A.cc A.P) (hB:lJ mg base):FnOk P w K mg base (bL P w base) 14 A.f_q8 A.fd_q8 ["_law_script"] (cF G (F_q8 G.scr)):=VF (k:=13) (N:=["_law_script","_law_k","_law_state_here","_law_order_here","_law_rings","_law_bent_here","_law_turn","_law_ring_here","_law_thing","_law_good","_law_due","_law_none"]) (mb:=xH G.scr) T.F_q8 k6 T.hK λcdv Ar outer s H E₀ E hcd g=>(bB (jV g.own g.calm (iL rfl T.z_range (aF (GQ g.calm rfl T.z_max (aF aT (aF (R8 g.calm rfl T.z_min (aF (GO rfl T.z_len (aF (aD 0) aN)) (aF aT aN))) aN))) aN)) (cP (i:=1) iT rfl (by first|exact .inl rfl|exact .inr rfl)) (bB (cD (i:=2) iT rfl (by first|exact .inl rfl|exact .inr rfl) (bP g (Z4 T) (by decide) rfl T.m_qk T.F_qk.kp T.B_qk (aF (aD 0) (aF (aD 1) aN)))) (bB (cD (i:=3) iT rfl (by first|exact .inl rfl|exact .inr rfl) (bP g (b9 T) (by decide) rfl T.m_qj T.F_qj.kp T.B_qj (aF (aD 2) (aF aT aN)))) (bB (vM (i:=4) iT rfl g.calm (gI (N:=["_law_turn","_law_state_here","_law_order_here"]) (cap:=[none,some 2,some 3]) (os:=(aV mU)) (oN:=["_law_script","_law_k","_law_state_here","_law_order_here","_law_rings","_law_bent_here","_law_turn","_law_ring_here","_law_thing","_law_good","_law_due","_law_none"]) rfl rfl rfl (by decide +kernel) rfl (by decide +kernel) (by decide +kernel) (by decide +kernel)) (iL rfl T.z_range (aF aT aN)) (λs H ex=>(cP (i:=0) Y3 rfl (by first|exact .inl rfl|exact .inr rfl))) (λs H ex=>jX) (λs H ex=>(bP (eV g) (c8 T) (by decide) rfl T.m_qt T.F_qt.kp T.B_qt (aF (aD 1) (aF (aD 2) aN))))) (bB (cD (i:=4) iT rfl (by first|exact .inl rfl|exact .inr rfl) (eE (aD 4) (rD (jE g.calm (gI (N:=["_law_pair"]) (cap:=[none]) (os:=(aV mU)) (oN:=["_law_script","_law_k","_law_state_here","_law_order_here","_law_rings","_law_bent_here","_law_turn","_law_ring_here","_law_thing","_law_good","_law_due","_law_none"]) rfl rfl rfl (by decide +kernel) rfl (by decide +kernel) (by decide +kernel) (by decide +kernel)) (rA (jM (bP g (d3 T) (by decide) rfl T.m_qh T.F_qh.kp T.B_qh (aF (aD 3) aN)) jG (iQ aT))) (λs H ex=>(cP (i:=0) Y4 rfl (by first|exact .inl rfl|exact .inr rfl))) (λs H ex=>jX) (λs H ex=>(uP rfl T.z_tuple (aF (aD 0) aN))))))) (bB (cD (i:=5) iT rfl (by first|exact .inl rfl|exact .inr rfl) (fF aN)) (bB (jV g.own g.calm (iL rfl T.z_range (aF aT aN)) (cP (i:=6) iT rfl (by first|exact .inl rfl|exact .inr rfl)) (bB (cD (i:=7) iT rfl (by first|exact .inl rfl|exact .inr rfl) (cE (aD 4) (bP g (iU T) (by decide) rfl T.m_qv T.F_qv.kp T.B_qv (aF (aD 2) (aF (gC rfl T.z_len (aF (aD 4) aN)) aN))))) (bC (nK (pL (aD 5) (bP g (d6 T) (by decide) rfl T.m_qr T.F_qr.kp T.B_qr (aF (aD 2) (aF (aD 7) (aF (cE (aD 3) aT) aN))))))))) (bB (cD (i:=4) iT rfl (by first|exact .inl rfl|exact .inr rfl) (eE (eE (aD 4) (aD 5)) (fF (aF (YN g rfl T.z_tuple rfl T.z_range (aF (cE (aD 3) aT) aN)) (aF (fB aN) aN))))) (bB (jV g.own g.calm (rA (aD 4)) (cP (i:=8) iT rfl (by first|exact .inl rfl|exact .inr rfl)) (bB (cD (i:=9) iT rfl (by first|exact .inl rfl|exact .inr rfl) (bP g (h8 T) (by decide) rfl T.m_qd T.F_qd.kp T.B_qd (aF (aD 3) (aF (aD 8) aN)))) (bB (dX (gY (fG (bP g (CW T 6) (by decide) rfl T.m_qu T.F_qu.kp T.B_qu (aF (bP g (CU T) (by decide) rfl T.m_q7 T.F_q7.kp T.B_q7 (aF (aD 3) (aF (aD 8) aN))) (aF (aD 9) aN))))) (bC (bQ gA)) dW) (bB (dX (fG (aD 9)) (bB (cD (i:=10) iT rfl (by first|exact .inl rfl|exact .inr rfl) (bP g (i7 T) (by decide) rfl T.m_qa T.F_qa.kp T.B_qa (aF (aD 3) (aF (aD 8) aN)))) (bC (dX (gY (fG (bP g (CW T 6) (by decide) rfl T.m_qu T.F_qu.kp T.B_qu (aF (bP g (CV T) (by decide) rfl T.m_qp T.F_qp.kp T.B_qp (aF (aD 3) (aF (aD 8) aN))) (aF (aD 10) aN))))) (bC (bQ gA)) dW))) dW) (bC (dX (SndW.t (qW (gY (fG (aD 9))) (uH (kP g (A1 (Nl:=["_law_order_here","_law_thing"]) (caps:=[3,8]) (me:=qA) (os:=aV mU) (oN:=["_law_script","_law_k","_law_state_here","_law_order_here","_law_rings","_law_bent_here","_law_turn","_law_ring_here","_law_thing","_law_good","_law_due","_law_none"]) g (j:=10+2) (by decide) (λ_=>rfl) (λbase _ _=>CY (k:=10) T ⟨rfl,rfl,rfl,by decide +kernel,by decide +kernel,by decide +kernel⟩ (λ_ _ _ _=>rfl) (λf cdv cl Ar outer s H E₀ E g=>(bP g (CV T) (by decide) rfl T.m_qp T.F_qp.kp T.B_qp (aF (aD 0) (aF (aD 1) aN))))) rfl T.m_qe T.F_qe.kp T.B_qe rfl T.lq T.tab (hcd.symm.trans T.code) hC hB ⟨rfl,rfl,rfl,by decide +kernel,by decide +kernel,by decide +kernel⟩ rfl rfl (by decide +kernel) rfl (by decide +kernel)) (lQ 2))))) (bC (bQ gA)) dW)))))) (bB (cD (i:=11) iT rfl (by first|exact .inl rfl|exact .inr rfl) (bP g (j8 T) (by decide) rfl T.m_qb T.F_qb.kp T.B_qb (aF (aD 2) aN))) (bB (dX (kP g (A1 (Nl:=["_law_none"]) (caps:=[11]) (me:=sJ) (os:=aV mU) (oN:=["_law_script","_law_k","_law_state_here","_law_order_here","_law_rings","_law_bent_here","_law_turn","_law_ring_here","_law_thing","_law_good","_law_due","_law_none"]) g (j:=10+2) (by decide) (λ_=>rfl) (λbase _ _=>CY (k:=10) T ⟨rfl,rfl,rfl,by decide +kernel,by decide +kernel,by decide +kernel⟩ (λ_ _ _ _=>rfl) (λf cdv cl Ar outer s H E₀ E g=>(bP g (CU T) (by decide) rfl T.m_q7 T.F_q7.kp T.B_q7 (aF (aD 0) (aF (fB aN) aN))))) rfl T.m_qe T.F_qe.kp T.B_qe rfl T.lq T.tab (hcd.symm.trans T.code) hC hB ⟨rfl,rfl,rfl,by decide +kernel,by decide +kernel,by decide +kernel⟩ rfl rfl (by decide +kernel) rfl (by decide +kernel)) (lQ 2)) (bC (bQ gA)) dW) (bC (dX (kP g (A1 (Nl:=["_law_none"]) (caps:=[11]) (me:=sL) (os:=aV mU) (oN:=["_law_script","_law_k","_law_state_here","_law_order_here","_law_rings","_law_bent_here","_law_turn","_law_ring_here","_law_thing","_law_good","_law_due","_law_none"]) g (j:=10+2) (by decide) (λ_=>rfl) (λbase _ _=>CY (k:=10) T ⟨rfl,rfl,rfl,by decide +kernel,by decide +kernel,by decide +kernel⟩ (λ_ _ _ _=>rfl) (λf cdv cl Ar outer s H E₀ E g=>(bP g (CV T) (by decide) rfl T.m_qp T.F_qp.kp T.B_qp (aF (aD 0) (aF (fB aN) aN))))) rfl T.m_qe T.F_qe.kp T.B_qe rfl T.lq T.tab (hcd.symm.trans T.code) hC hB ⟨rfl,rfl,rfl,by decide +kernel,by decide +kernel,by decide +kernel⟩ rfl rfl (by decide +kernel) rfl (by decide +kernel)) (lQ 2)) (bC (bQ gA)) dW))))))))))))) (bC (bQ gA)))
end
end L2.Mr.K60
namespace L2.Mr
open PySem PySem.Spec PyProof.Rows L2
section
variable{H:Hs}{j:Nat}{up up1:List Int}{b v:Int}{ρ:Ev}{x:Nat}
end
section
variable{d:Dv}{r:Int}{i j:Nat}{fs:List Int}
end
theorem LD:∀xs ys:List Int,gG (xs.map Dt.int) (ys.map Dt.int)=decide (xs=ys)
 | [],[]=>by simp[gG]
 | [],y::ys=>by simp[gG]
 |x::xs,[]=>by simp[gG]
 |x::xs,y::ys=>by simp only[dw,gG,LD xs ys,bM];rw[fj];simp
theorem k8 {H:Hs}{i j:Nat}{xs ys:List Int}(ei:getL H i=some (xs.map Dv.int)) (ej:getL H j=some (ys.map Dv.int)):dB (.ref i) (.ref j) H=.ok (.bl (decide (xs=ys))) H:=by
 have p:∀(i:Nat) (xs:List Int),getL H i=some (xs.map Dv.int)->bV cB H (.ref i)=some (.lst (xs.map Dt.int)):=λi xs e=>by show bV (28+1+1) H (.ref i)=_;rw[bV];simp only[e,vL]
 unfold dB;rw[p i xs ei,p j ys ej];simp only[bM,LD]
section
variable{d:Dv}{n r:Int}{ps qs:List (Int×Int)}{Fl:List Dv->Hs->Rs Dv}
end
theorem xY {α:Type}{src:Src}{sg:dC}{t:M Bool}{m:MC}(xs:List α) (out:α->List Dv) (S:Ev->Hs->Prop)
  (fin:∀ρ h,S ρ h->src.fin h=true)
  (step:∀k (hk:k<xs.length) ρ h,S ρ h->∃d ρ1,src.get k h=some d/\sg d ρ=some ρ1 /\
   ((∃h2,t ρ1 h=.ok false h2/\out xs[k]=[]/\S ρ1 h2)∨∃h2,t ρ1 h=.ok true h2/\∀acc:List Dv,acc.length+(out xs[k]).length<=900000->∃ρ3 h3,m ρ1 h2 acc=.ok (ρ3,acc++out xs[k]) h3/\S ρ3 h3)):
  ∀(f k:Nat) (ρ:Ev) (h:Hs) (acc:List Dv),f+k=xs.length->S ρ h->acc.length+((xs.drop k).flatMap out).length<=900000->∃ρ' h',fW src sg t m f k ρ h acc=.ok (ρ',acc++(xs.drop k).flatMap out) h'/\S ρ' h'
 |0,k,ρ,h,acc,e,s,hl=>by have:xs.drop k=[]:=List.drop_eq_nil_of_le (by omega);exact⟨ρ,h,by simp[fW,fin ρ h s,this],s⟩
 |f+1,k,ρ,h,acc,e,s,hl=>by
  have hk:k<xs.length:=by omega
  obtain⟨d,ρ1,e1,e2,e3⟩:=step k hk ρ h s;rw[List.drop_eq_getElem_cons hk,om]at hl ⊢;rw[bw]at hl
  rcases e3 with⟨h2,e3,e4,s2⟩|⟨h2,e3,e4⟩
  ·obtain⟨ρ',h',e5,s5⟩:=xY xs out S fin step f (k+1) ρ1 h2 acc (by omega) s2 (by omega);exact⟨ρ',h',by simp[fW,e1,e2,e3,e4,e5],s5⟩
  ·obtain⟨ρ3,h3,e6,s3⟩:=e4 acc (by omega);obtain⟨ρ',h',e5,s5⟩:=xY xs out S fin step f (k+1) ρ3 h3 (acc++out xs[k]) (by omega) s3 (by rw[bw];omega);exact⟨ρ',h',by simp[fW,e1,e2,e3,e6,e5],s5⟩
theorem LF {α:Type}{mi:M Src}{cap:List (Option Nat)}{src:Src}{sg:dC}{t:M Bool}{m:MC}{ρ:Ev}{H H1:Hs}(xs:List α) (out:α->List Dv) (S:Ev->Hs->Prop)
  (hi:mi ρ H=.ok src H1) (hn:src.n=xs.length) (s0:S (jW cap ρ) H1) (fin:∀ρ h,S ρ h->src.fin h=true)
  (step:∀k (hk:k<xs.length) ρ h,S ρ h->∃d ρ1,src.get k h=some d/\sg d ρ=some ρ1 /\
   ((∃h2,t ρ1 h=.ok false h2/\out xs[k]=[]/\S ρ1 h2)∨∃h2,t ρ1 h=.ok true h2/\∀acc:List Dv,acc.length+(out xs[k]).length<=900000->∃ρ3 h3,m ρ1 h2 acc=.ok (ρ3,acc++out xs[k]) h3/\S ρ3 h3))
  (hl:(xs.flatMap out).length<=900000):∃ρ' H',bW mi cap sg t m ρ H=.ok (xs.flatMap out) H'/\S ρ' H':=by
 obtain⟨ρ',h',e,s⟩:=xY xs out S fin step xs.length 0 (jW cap ρ) H1 [] (by omega) s0 (by simpa using hl);refine⟨ρ',h', ?_,s⟩;unfold bW;rw[hi,Rs.bind_ok,hn,e];simp
theorem CZ {e:M Dv}{ρ:Ev}{h h1:Hs}{d:Dv}{acc:List Dv}(he:e ρ h=.ok d h1) (hl:acc.length+[d].length<=900000):bS e ρ h acc=.ok (ρ,acc++[d]) h1:=by
 have:acc.length<1000000:=by simp at hl;omega
 simp[bS,he,this]
theorem hY {α:Type}{mi:M Src}{cap:List (Option Nat)}{src:Src}{sg:dC}{t:M Bool}{e:M Dv}{ρ:Ev}{H H1:Hs}(xs:List α) (g:α->Option Dv) (S:Ev->Prop)
  (hi:mi ρ H=.ok src H1) (hn:src.n=xs.length) (s0:S (jW cap ρ)) (fin:src.fin H1=true)
  (step:∀k (hk:k<xs.length) ρ,S ρ->∃d ρ1,src.get k H1=some d/\sg d ρ=some ρ1/\S ρ1/\match g xs[k]with
   |none=>t ρ1 H1=.ok false H1
   |some v=>t ρ1 H1=.ok true H1/\e ρ1 H1=.ok v H1)
  (hl:xs.length<=900000):bW mi cap sg t (bS e) ρ H=.ok (xs.filterMap g) H1:=by
 have fm:∀l:List α,l.flatMap (λx=>(g x).toList)=l.filterMap g:=λl=>by
  induction l with
  |nil=>rfl
  |cons x l ih=>rw[om,ih,cb];cases g x <;> rfl
 have len:(xs.filterMap g).length<=xs.length:=mz g xs;obtain⟨ρ',H',h,_,rfl⟩:=LF (mi:=mi) (cap:=cap) (src:=src) (sg:=sg) (t:=t) (m:=bS e) (ρ:=ρ) (H:=H) (H1:=H1) xs (λx=>(g x).toList) (λρ h=>S ρ/\h=H1) hi hn ⟨s0,rfl⟩ (λρ h s=>by rw[s.2];exact fin)
  (λk hk ρ h ⟨s,e1⟩=>by
   subst e1;obtain⟨d,ρ1,e1,e2,s1,e3⟩:=step k hk ρ s;refine⟨d,ρ1,e1,e2, ?_⟩
   cases q:g xs[k]with
   |none=>rw[q]at e3;exact .inl ⟨h,e3,rfl,s1,rfl⟩
   |some v=>rw[q]at e3;exact .inr ⟨h,e3.1,λacc hl=>⟨ρ1,h,CZ e3.2 hl,s1,rfl⟩⟩) (by rw[fm];omega)
 rw[h,fm]
theorem k9 {α β:Type}{mi mj:M Src}{cap:List (Option Nat)}{src:Src}{sg sg2:dC}{t2:M Bool}{e:M Dv}{ρ:Ev}{H H1:Hs}(xs:List α) (ys:α->List β) (g:α->β->Option Dv) (S:Ev->Prop)
  (hi:mi ρ H=.ok src H1) (hn:src.n=xs.length) (s0:S (jW cap ρ)) (fin:src.fin H1=true)
  (step:∀k (hk:k<xs.length) ρ,S ρ->∃(d:Dv) (ρ1:Ev) (src2:Src) (S2:Ev->Prop),src.get k H1=some d/\sg d ρ=some ρ1/\S2 ρ1/\(∀ρ,S2 ρ->S ρ)/\mj ρ1 H1=.ok src2 H1/\src2.n=(ys xs[k]).length/\src2.fin H1=true /\
   ∀j (hj:j<(ys xs[k]).length) ρ,S2 ρ->∃d ρ2,src2.get j H1=some d/\sg2 d ρ=some ρ2/\S2 ρ2/\match g xs[k] (ys xs[k])[j]with
    |none=>t2 ρ2 H1=.ok false H1
    |some v=>t2 ρ2 H1=.ok true H1/\e ρ2 H1=.ok v H1)
  (hl:(xs.flatMap λx=>(ys x).filterMap (g x)).length<=900000):bW mi cap sg dJ (lI mj sg2 t2 (bS e)) ρ H=.ok (xs.flatMap λx=>(ys x).filterMap (g x)) H1:=by
 have fm:∀(x:α) (l:List β),l.flatMap (λy=>(g x y).toList)=l.filterMap (g x):=λx l=>by
  induction l with
  |nil=>rfl
  |cons y l ih=>rw[om,ih,cb];cases g x y <;> rfl
 obtain⟨ρ',H',h,_,rfl⟩:=LF (mi:=mi) (cap:=cap) (src:=src) (sg:=sg) (t:=dJ) (m:=lI mj sg2 t2 (bS e)) (ρ:=ρ) (H:=H) (H1:=H1) xs (λx=>(ys x).filterMap (g x)) (λρ h=>S ρ/\h=H1) hi hn ⟨s0,rfl⟩ (λρ h s=>by rw[s.2];exact fin)
  (λk hk ρ h ⟨s,e1⟩=>by
   subst e1;obtain⟨d,ρ1,src2,S2,e1,e2,s1,sS,e3,e4,e5,e6⟩:=step k hk ρ s;refine⟨d,ρ1,e1,e2,.inr ⟨h,rfl,λacc hl=>?_⟩⟩;obtain⟨ρ3,h3,r,s3,rfl⟩:=xY (src:=src2) (sg:=sg2) (t:=t2) (m:=bS e) (ys xs[k]) (λy=>(g xs[k] y).toList) (λρ hh=>S2 ρ/\hh=h) (λρ hh s=>by rw[s.2];exact e5)
    (λj hj ρ hh ⟨s,e1⟩=>by
     subst e1;obtain⟨d,ρ2,z1,z2,z3,z4⟩:=e6 j hj ρ s;refine⟨d,ρ2,z1,z2, ?_⟩
     cases q:g xs[k] (ys xs[k])[j]with
     |none=>rw[q]at z4;exact .inl ⟨hh,z4,rfl,z3,rfl⟩
     |some v=>rw[q]at z4;exact .inr ⟨hh,z4.1,λacc hl=>⟨ρ2,hh,CZ z4.2 hl,z3,rfl⟩⟩) (ys xs[k]).length 0 ρ1 h acc (by omega) ⟨s1,rfl⟩ (by rw[List.drop_zero,fm];exact hl)
   refine⟨ρ3,h3, ?_,sS ρ3 s3,rfl⟩;unfold lI;rw[e3];dsimp only;rw[e4,r,List.drop_zero,fm]) hl
 exact h
theorem LG {c:M Bool}{b:MS}{f:Nat}{ρ:Ev}{h h1:Hs}(e:c ρ h=.ok false h1):iB c b (f+1) ρ h=.nx ρ h1:=by show(c ρ h).thenS _=_;rw[e];rfl
theorem LH {c:M Bool}{b:MS}{f:Nat}{ρ ρ2:Ev}{h h1 h2:Hs}(e:c ρ h=.ok true h1) (q:b ρ h1=.nx ρ2 h2):iB c b (f+1) ρ h=iB c b f ρ2 h2:=by show(c ρ h).thenS _=_;rw[e];simp[Rs.thenS,q]
theorem xZ:∀bs:List Bool,bU mI (bs.map Dv.bl)=some bs
 | []=>rfl
 |b::bs=>by rw[dw,bU,xZ bs];rfl
end L2.Mr
namespace L2.Mr.Com
open PySem PySem.Spec PyProof.Rows L2 L2.Mr
def aH (n:Nat) (ps:List (Int×Int)):Dv:=.tup [.int n,.tup (ps.map aI)]
theorem sP {n:Nat}{ps:List (Int×Int)}(H:Hs):aQ (aH n ps) (.int 0) H=.ok (.int n) H:=rfl
theorem mV {n:Nat}{ps:List (Int×Int)}(H:Hs):aQ (aH n ps) (.int 1) H=.ok (.tup (ps.map aI)) H:=rfl
theorem oK {α:Type}{ml:M (List Dv)}{ρ:Ev}{H H1:Hs}{xs:List α}{f:α->Bool}(h:ml ρ H=.ok (xs.filterMap λx=>some (.bl (f x))) H1):mL fR ml ρ H=.ok (.bl (xs.all f)) H1:=by
 have e:(xs.filterMap λx=>some (Dv.bl (f x)))=(xs.map f).map Dv.bl:=by simp
 unfold mL;rw[h,Rs.bind_ok,e];unfold fR;rw[xZ];simp[List.all_map]
theorem m6 {α:Type}{ml:M (List Dv)}{ρ:Ev}{H H1:Hs}{xs:List α}{f:α->Bool}(h:ml ρ H=.ok (xs.filterMap λx=>some (.bl (f x))) H1):mL rF ml ρ H=.ok (.bl (xs.any f)) H1:=by
 have e:(xs.filterMap λx=>some (Dv.bl (f x)))=(xs.map f).map Dv.bl:=by simp
 unfold mL;rw[h,Rs.bind_ok,e];unfold rF;rw[xZ];simp[wj]
section
variable{H:Hs}{n x:Int}{ps:List (Int×Int)}
theorem LI:F_q2 [.int x] H=.ok (.bl true) H:=by simp[F_q2,wF,aU,bN,aO,cM,m1,aB,bF,gQ,oA,kA,mF,aZ]
theorem DB {lo hi:Int}:F_qn [.int x,.int lo,.int hi] H=.ok (.bl (decide (lo<=x)&&decide (x<=hi))) H:=by
 by_cases h:lo<=x
 ·simp[F_qn,sD,aU,bN,aO,cM,aE,aA,aB,aC,LI,jQ,jZ,gM,h,aZ]
 ·simp[F_qn,sD,aU,bN,aO,cM,aE,aA,aB,aC,LI,jQ,jZ,gM,h,aZ]
def eK (n x:Int):Bool:=decide (0<=x)&&decide (x<=n - 1)
theorem m7:F_q1 [.int n,.int x] H=.ok (.bl (eK n x)) H:=by simp[F_q1,wG,aU,bN,aO,aE,aA,aB,aC,mC,m2,eC,gM,DB,aZ,eK]
theorem m8 {xs:List Int}(hl:xs.length<=1000):F_qm [.int n,.tup (xs.map Dv.int)] H=.ok (.bl (xs.all (eK n))) H:=by have h:bW (cI fQ (aB 1)) [none,some 0] (aG 0) dJ (bS (aE F_q1 (aA (aB 1) (aA (aB 0) aC)))) [some (.int n),some (.tup (xs.map Dv.int))] H=.ok (xs.filterMap λx=>some (.bl (eK n x))) H:=hY xs (λx=>some (.bl (eK n x))) (λρ=>∃a,ρ=[a,some (.int n)]) rfl (by simp[dI]) ⟨_,rfl⟩ rfl (λk hk ρ ⟨a,e⟩=>by subst e;exact⟨.int xs[k],_,by simp[dI,hk],rfl,⟨_,rfl⟩,rfl,by simp[aE,aA,aB,aC,m7]⟩) (by omega);simp[F_qm,sE,aU,bN,aO,cM,m1,bF,aB,gQ,gS,oK h,aZ]
def kU (n:Int) (p:Int×Int):Bool:=eK n p.1&&eK n p.2
theorem m9 (p:Int×Int):F_q6 [.int n,aI p] H=.ok (.bl (kU n p)) H:=by
 have h:F_qm [.int n,aI p] H=.ok (.bl (kU n p)) H:=by have:=m8 (H:=H) (n:=n) (xs:=[p.1,p.2]) (by simp);simpa[aI,kU]using this
 have hlen:f1 bI [aI p] H=.ok (.int 2) H:=rfl
 cases q:kU n p with
 |false=>simp[F_q6,oH,aU,bN,aO,cM,aE,aA,aB,aC,h,q,aZ]
 |true=>simp[F_q6,oH,aU,bN,aO,cM,aE,aA,aB,aC,h,q,aZ,m2,hlen,mC,dB,cB,bV,bM]
theorem n9 (hl:ps.length<=1000):F_qx [.int n,.tup (ps.map aI)] H=.ok (.bl (ps.all (kU n))) H:=by have h:bW (cI fQ (aB 1)) [none,some 0] (aG 0) dJ (bS (aE F_q6 (aA (aB 1) (aA (aB 0) aC)))) [some (.int n),some (.tup (ps.map aI))] H=.ok (ps.filterMap λp=>some (.bl (kU n p))) H:=hY ps (λp=>some (.bl (kU n p))) (λρ=>∃a,ρ=[a,some (.int n)]) rfl (by simp[dI]) ⟨_,rfl⟩ rfl (λk hk ρ ⟨a,e⟩=>by subst e;exact⟨aI ps[k],_,by simp[dI,hk],rfl,⟨_,rfl⟩,rfl,by simp[aE,aA,aB,aC,m9]⟩) (by omega);simp[F_qx,wH,aU,bN,aO,oK h,aZ]
theorem o6 (hl:ps.length<=1000):F_qy [.tup (ps.map aI)] H=.ok (.bl (ps.any λp=>decide (p.1=p.2))) H:=by have h:bW (cI fQ (aB 0)) [none,none] (fJ 2 (cQ (aG 0) (cQ (aG 1) fP))) dJ (bS (m2 dB (aB 0) (aB 1))) [some (.tup (ps.map aI))] H=.ok (ps.filterMap λp=>some (.bl (decide (p.1=p.2)))) H:=hY ps (λp=>some (.bl (decide (p.1=p.2)))) (λρ=>∃a b,ρ=[a,b]) rfl (by simp[dI]) ⟨_,_,rfl⟩ rfl (λk hk ρ ⟨a,b,e⟩=>by subst e;refine⟨aI ps[k],[some (.int ps[k].1),some (.int ps[k].2)],by simp[dI,hk],rfl,⟨_,_,rfl⟩,rfl, ?_⟩;simp[m2,aB,dB,cB,bV,bM];rw[fj];simp) (by omega);simp[F_qy,BL,aU,bN,aO,m6 h,aZ]
theorem o7 (p q:Int×Int):dF (aI p) (aI q) H=.ok (.bl (fL p q)) H:=by simp only[dF,aI,bU,hJ,KJ];rw[<-rV];rfl
def kW (ps:List (Int×Int)):Bool:=(ps.zip (ps.drop 1)).all λq=>fL q.1 q.2
theorem rising_of:∀{ps:List (Int×Int)},kW ps=true↔hO fL ps
 | []=>by simp[kW,hO]
 | [p]=>by simp[kW,hO]
 |p::q::r=>by
  have ih:=rising_of (ps:=q::r);have e:kW (p::q::r)=(fL p q&&kW (q::r)):=by simp[kW]
  rw[e,cy,ih];constructor
  ·rintro ⟨h1,h2⟩
   refine gj.mpr ⟨λz hz=>?_,h2⟩
   rcases ba.mp hz with rfl|hz
   ·exact h1
   ·exact stoP.tr _ _ _ h1 ((gj.mp h2).1 z hz)
  ·intro h;have:=gj.mp h;exact⟨this.1 q (by simp),this.2⟩
theorem LJ (ds:List Dv):gH ds (some 1) none=ds.drop 1:=by
 unfold gH;rw[show HT.sIx ds.length 0 (some 1)=min 1 ds.length from HT.sIx_nat ds.length 0 1,HT.sIx_none]
 cases ds with
 |nil=>rfl
 |cons a r=>simp
theorem o8 (hl:ps.length<=1000):F_qz [.tup (ps.map aI)] H=.ok (.bl (kW ps)) H:=by
 have hi:aS nW (aA (aB 0) (aA (dO (aB 0) (cY (mC (.int 1))) dM) aC)) [some (.tup (ps.map aI))] H=.ok (pM (ps.map aI) ((ps.drop 1).map aI)) H:=by simp[aS,aA,aB,dO,cY,mC,lK,dM,kS,aC,nW,LJ,rh]
 have hz:((ps.map aI).zip ((ps.drop 1).map aI)).map (λq=>Dv.tup [q.1,q.2])=(ps.zip (ps.drop 1)).map λq=>Dv.tup [aI q.1,aI q.2]:=by rw[List.zip_map,qd];rfl
 have h:bW (aS nW (aA (aB 0) (aA (dO (aB 0) (cY (mC (.int 1))) dM) aC))) [none,none] (fJ 2 (cQ (aG 0) (cQ (aG 1) fP))) dJ (bS (m2 dF (aB 0) (aB 1))) [some (.tup (ps.map aI))] H=.ok ((ps.zip (ps.drop 1)).filterMap λq=>some (.bl (fL q.1 q.2))) H:=
  hY (ps.zip (ps.drop 1)) (λq=>some (.bl (fL q.1 q.2))) (λρ=>∃a b,ρ=[a,b]) hi (by simp[pM,dI]) ⟨_,_,rfl⟩ rfl (λk hk ρ ⟨a,b,e⟩=>by
   subst e;refine⟨.tup [aI (ps.zip (ps.drop 1))[k].1,aI (ps.zip (ps.drop 1))[k].2],[some (aI (ps.zip (ps.drop 1))[k].1),some (aI (ps.zip (ps.drop 1))[k].2)], ?_,rfl,⟨_,_,rfl⟩,rfl, ?_⟩
   ·show(((ps.map aI).zip ((ps.drop 1).map aI)).map (λq=>Dv.tup [q.1,q.2]))[k]?=_;rw[hz,di,ar hk];rfl
   ·simp only[m2,aB];exact o7 _ _) (by rw[List.length_zip];omega)
 simp[F_qz,BK,aU,bN,aO,oK h,aZ,kW]
def sQ (ps:List (Int×Int)):Bool:=ps.all λp=>ps.all λq=>!decide (p.2=q.1)||decide ((p.1,q.2)∈ps)
theorem o9 (hl:ps.length<=900):F_qg [.tup (ps.map aI)] H=.ok (.bl (sQ ps)) H:=by
 let g:Int×Int->Int×Int->Option Dv:=λp q=>if p.2=q.1 then some (.bl (decide ((p.1,q.2)∈ps)))else none
 have h:bW (cI fQ (aB 0)) [none,none,none,none,some 0] (fJ 2 (cQ (aG 0) (cQ (aG 1) fP))) dJ (lI (cI fQ (aB 4)) (fJ 2 (cQ (aG 2) (cQ (aG 3) fP))) (mB (m2 dB (aB 1) (aB 2))) (bS (m2 (cZ false) (aM (aA (aB 0) (aA (aB 3) aC))) (aB 4)))) [some (.tup (ps.map aI))] H=.ok (ps.flatMap λp=>ps.filterMap (g p)) H:=
  k9 ps (λ_=>ps) g (λρ=>∃a b c d,ρ=[a,b,c,d,some (.tup (ps.map aI))]) rfl (by simp[dI]) ⟨_,_,_,_,rfl⟩ rfl (λk hk ρ ⟨a,b,c,d,e⟩=>by
   subst e;refine⟨aI ps[k],[some (.int ps[k].1),some (.int ps[k].2),c,d,some (.tup (ps.map aI))],dI (ps.map aI),λρ=>∃c d,ρ=[some (.int ps[k].1),some (.int ps[k].2),c,d,some (.tup (ps.map aI))],by simp[dI,hk],rfl,⟨_,_,rfl⟩,λρ ⟨c,d,e⟩=>⟨_,_,_,_,e⟩,rfl,by simp[dI],rfl,λj hj ρ ⟨c,d,e⟩=>?_⟩;subst e;refine⟨aI ps[j],[some (.int ps[k].1),some (.int ps[k].2),some (.int ps[j].1),some (.int ps[j].2),some (.tup (ps.map aI))],by simp[dI,hj],rfl,⟨_,_,rfl⟩, ?_⟩;have te:mB (m2 dB (aB 1) (aB 2)) [some (.int ps[k].1),some (.int ps[k].2),some (.int ps[j].1),some (.int ps[j].2),some (.tup (ps.map aI))] H=.ok (decide (ps[k].2=ps[j].1)) H:=by simp[mB,m2,aB,dB,cB,bV,bM,cO];rw[fj];simp
   by_cases c1:ps[k].2=ps[j].1
   ·rw[decide_eq_true c1]at te;have hg:g ps[k] ps[j]=some (.bl (decide ((ps[k].1,ps[j].2)∈ps))):=if_pos c1;rw[hg];refine⟨te, ?_⟩;have hx:aM (aA (aB 0) (aA (aB 3) aC)) [some (.int ps[k].1),some (.int ps[k].2),some (.int ps[j].1),some (.int ps[j].2),some (.tup (ps.map aI))] H=.ok (aI (ps[k].1,ps[j].2)) H:=rfl;unfold m2;rw[hx,Rs.bind_ok];show(Rs.ok (Dv.tup (ps.map aI)) H).bind _=_;rw[Rs.bind_ok,iS];rfl
   ·rw[decide_eq_false c1]at te;have hg:g ps[k] ps[j]=none:=if_neg c1;rw[hg];exact te) (by
   have:∀l:List (Int×Int),(l.flatMap λp=>ps.filterMap (g p)).length<=l.length*ps.length:=λl=>by
    induction l with
    |nil=>simp
    |cons p l ih=>rw[om,bw,dv,Cd];have:=mz (g p) ps;omega
   have h2:=this ps;have h3:ps.length*ps.length<=900*900:=An hl hl;omega)
 have hb:(ps.flatMap λp=>ps.filterMap (g p))=(ps.flatMap λp=>ps.filterMap λq=>if p.2=q.1 then some (decide ((p.1,q.2)∈ps))else none).map Dv.bl:=by
  rw[List.map_flatMap]
  congr 1
  funext p
  rw[List.map_filterMap]
  congr 1
  funext q
  show(if p.2=q.1 then some (Dv.bl (decide ((p.1,q.2)∈ps)))else none)=_
  split <;> rfl
 have hall:mL fR (bW (cI fQ (aB 0)) [none,none,none,none,some 0] (fJ 2 (cQ (aG 0) (cQ (aG 1) fP))) dJ (lI (cI fQ (aB 4)) (fJ 2 (cQ (aG 2) (cQ (aG 3) fP))) (mB (m2 dB (aB 1) (aB 2))) (bS (m2 (cZ false) (aM (aA (aB 0) (aA (aB 3) aC))) (aB 4))))) [some (.tup (ps.map aI))] H=.ok (.bl (sQ ps)) H:=by
  unfold mL;rw[h,Rs.bind_ok,hb];unfold fR;rw[xZ];dsimp only
  congr 2
  rw[fj];unfold sQ;simp only[gk,List.mem_flatMap,jt,id];constructor
  ·intro h p hp q hq
   by_cases c:p.2=q.1
   ·have:=h (decide ((p.1,q.2)∈ps)) ⟨p,hp,q,hq,if_pos c⟩;simp[c,this]
   ·simp[c]
  ·rintro h b ⟨p,hp,q,hq,e⟩
   have:=h p hp q hq
   by_cases c:p.2=q.1
   ·rw[if_pos c]at e;cases e;simpa[c]using this
   ·rw[if_neg c]at e;cases e
 simp[F_qg,BM,aU,bN,aO,hall,aZ]
def qB (n:Int) (ps:List (Int×Int)):Bool:=decide (1<=n)&&decide (n<=6)&&ps.all (kU n)&&kW ps&&!(ps.any λp=>decide (p.1=p.2))&&sQ ps
theorem LK {n:Int}(hl:ps.length<=900):F_q0 [.tup [.int n,.tup (ps.map aI)]] H=.ok (.bl (qB n ps)) H:=by
 have b:=DB (H:=H) (x:=n) (lo:=1) (hi:=6);have p1:=n9 (H:=H) (n:=n) (ps:=ps) (by omega);have p2:=o8 (H:=H) (ps:=ps) (by omega);have p3:=o6 (H:=H) (ps:=ps) (by omega);have p4:=o9 (H:=H) (ps:=ps) hl;have hlen:f1 bI [.tup [.int n,.tup (ps.map aI)]] H=.ok (.int 2) H:=rfl;unfold qB;generalize (decide (1<=n)&&decide (n<=6))=c0 at b ⊢;generalize ps.all (kU n)=c1 at p1 ⊢;generalize kW ps=c2 at p2 ⊢;generalize (ps.any λp=>decide (p.1=p.2))=c3 at p3 ⊢;generalize sQ ps=c4 at p4 ⊢
 cases c0 <;> cases c1 <;> cases c2 <;> cases c3 <;> cases c4 <;>
  simp[F_q0,mQ,aU,bN,aL,aW,dU,cA,bG,m1,bF,aB,gQ,gS,eJ,mB,m2,aE,aA,aC,hlen,mC,cC,cB,bV,bM,cO,bH,aJ,fJ,cQ,aG,fP,b,p1,p2,p3,p4,aO,cM,mF,aZ]
end
structure OrdP (n:Nat) (ps:List (Int×Int)):Prop where
 n1:1<=n
 n6:n<=6
 rng:∀p∈ps,0<=p.1/\p.1<n/\0<=p.2/\p.2<n
 rise:hO fL ps
 irr:∀p∈ps,p.1≠p.2
 tr:∀p∈ps,∀q∈ps,p.2=q.1->(p.1,q.2)∈ps
section
variable{n:Nat}{ps:List (Int×Int)}{H:Hs}
def DC (n:Nat):List (Int×Int):=(bf n).flatMap λa:Nat=>(bf n).map λb:Nat=>((a:Int),(b:Int))
theorem p0 (n:Nat):(DC n).length=n*n:=by
 unfold DC;have:∀l:List Nat,(l.flatMap λa:Nat=>(bf n).map λb:Nat=>((a:Int),(b:Int))).length=l.length*n:=λl=>by
  induction l with
  |nil=>simp
  |cons a l ih=>rw[om,bw,ih,dv,Cd];simp;omega
 rw[this];simp
theorem p6 {p:Int×Int}(h:0<=p.1/\p.1<n/\0<=p.2/\p.2<n):p∈DC n:=by obtain⟨a,b⟩:=p;simp only at h;refine List.mem_flatMap.mpr ⟨a.toNat,bp.mpr (by omega),df.mpr ⟨b.toNat,bp.mpr (by omega), ?_⟩⟩;simp;omega
theorem p7 (hr:hO fL ps) (hp:∀p∈ps,0<=p.1/\p.1<n/\0<=p.2/\p.2<n):ps.length<=n*n:=by rw[<-p0 n];exact(vP stoP hr).length_le_of_subset λp h=>p6 (hp p h)
theorem OrdP.len (o:OrdP n ps):ps.length<=36:=by have h1:=p7 o.rise o.rng;have h2:n*n<=6*6:=An o.n6 o.n6;omega
theorem OrdP.b (o:OrdP n ps):qB n ps=true:=by
 have h1:=o.n1;have h6:=o.n6;unfold qB;simp only[cy,decide_eq_true_eq,Bool.not_eq_true'];refine⟨⟨⟨⟨⟨by omega,by omega⟩, ?_⟩,rising_of.mpr o.rise⟩, ?_⟩, ?_⟩
 ·refine gk.mpr λp hp=>?_;have:=o.rng p hp;simp[kU,eK];omega
 ·refine List.any_eq_false.mpr λp hp=>?_;simpa using o.irr p hp
 ·refine gk.mpr λp hp=>gk.mpr λq hq=>?_
  by_cases c:p.2=q.1
  ·simp[c,o.tr p hp q hq c]
  ·simp[c]
theorem p8 (o:OrdP n ps):F_q0 [aH n ps] H=.ok (.bl true) H:=by have:=LK (H:=H) (n:=(n:Int)) (ps:=ps) (by have:=o.len;omega);rw[o.b]at this;exact this
end
theorem p9 (H:Hs) (n:Nat) (a:Int) (b:Bool) (m:Int) (h0:0<m) (h1:m<18446744073709551616) (e:getL H n=some [.int a,.bl b]):
  ∃r a',0<=r/\r<m/\F_qv [.ref n,.int m] H=.ok (.int r) (H.set n (.lst [.int a',.bl b])):=by
 cases b with
 |true=>refine⟨a % m,a / m,Int.emod_nonneg _ (by omega),Int.emod_lt_of_pos _ h0, ?_⟩;simp[F_qv,wK,aU,bN,aL,aW,bG,m2,aB,mC,aQ,dQ,fH,e,iI,eY,ixN,eJ,aJ,gR,jC,pE,h0,aG,rG,mM,oC,h1,uX,aO,aZ]
 |false=>
  have q1:∀ys,getL (H.set n (.lst ys)) n=some ys:=λys=>kQ e;generalize hs:(a*48271+29) % 2147483647=s;have s0:0<=s:=by omega
  have s1:s<2147483647:=by omega
  generalize ht:(s*s+39373*s+7) % 2147483629=t;have t0:0<=t:=by omega
  have t1:t<2147483629:=by omega
  generalize hu:(t*t+16807*t) % 2147483587=u;refine⟨u / 8 % m,s,Int.emod_nonneg _ (by omega),Int.emod_lt_of_pos _ h0, ?_⟩;have w1:jT s=true:=by simp[jT];omega
  have w2:jT t=true:=by simp[jT];omega
  have w3:jT 48271=true:=by decide
  have w4:jT 39373=true:=by decide
  have w5:jT 16807=true:=by decide
  simp[F_qv,wK,aU,bN,aL,aW,bG,m2,aB,mC,aQ,dQ,fH,e,iI,eY,ixN,eJ,aJ,gR,jC,pE,h0,aG,rG,mM,oC,h1,uX,aO,aZ,bH,bD,nG,jY,pD,w1,w2,w3,w4,w5,q1,hs,ht,hu]
def St (n:Nat) (H:Hs):Prop:=∃a b,getL H n=some [.int a,.bl b]
theorem St.fr {n:Nat}{S:List Nat}{H H':Hs}(s:St n H) (f:Fr S H H') (h:n∉S):St n H':=let ⟨a,b,e⟩:=s;⟨a,b,f.getL e h⟩
theorem iV {H:Hs}{n:Nat}(m:Int) (s:St n H) (h0:0<m:=by decide) (h1:m<18446744073709551616:=by decide):
  ∃r H',0<=r/\r<m/\F_qv [.ref n,.int m] H=.ok (.int r) H'/\Fr [n] H H'/\St n H':=by
 obtain⟨a,b,e⟩:=s;obtain⟨r,a',r0,r1,ht⟩:=p9 H n a b m h0 h1 e;exact⟨r,_,r0,r1,ht,Fr.set,a',b,kQ e⟩
theorem q5 (scr:List Int) (k:Nat) (h:Hs):∃H',F_qk scr [.scr,.int k] h=.ok (.ref h.length) H'/\Fr [] h H'/\St h.length H':=by
 have cell:∃c,F_qc scr [.scr,.int k] h=.ok (.int c) h:=by
  by_cases hk:k<scr.length
  ·refine⟨scr[k], ?_⟩;have hk':(k:Int)<scr.length:=by omega
   simp[F_qc,wI,aU,bN,aL,aW,mB,m2,aB,mC,dF,aE,f1,fI,eB,aA,aC,cO,hk',hk,fH,iI,eY,ixN,aO,aZ]
  ·refine⟨0, ?_⟩;have hk':¬ (k:Int)<scr.length:=by omega
   simp[F_qc,wI,aU,bN,aL,aW,mB,m2,aB,mC,dF,aE,f1,fI,eB,aA,aC,cO,hk',hk,fH,iI,eY,ixN,aO,aZ,bH]
 obtain⟨c,hc⟩:=cell;have fin:∀a b,Fr [] h (h++[Ob.lst [.int a,.bl b]])/\St h.length (h++[Ob.lst [.int a,.bl b]]):=λa b=>⟨Fr.app,a,b,by rw[VM];rfl⟩
 by_cases hg:c>=1000000000000000000
 ·refine⟨_, ?_,fin (c - 1000000000000000000) true⟩;simp[F_qk,wJ,aU,bN,aL,aJ,aE,aA,aB,aC,hc,aG,aW,mB,m2,vE,gM,mK,jC,qX,mC,cO,hg,aO,aR,eC,lim,aZ]
 ·refine⟨_, ?_,fin (c % 2147483647) false⟩;simp[F_qk,wJ,aU,bN,aL,aJ,aE,aA,aB,aC,hc,aG,aW,mB,m2,vE,gM,mK,jC,qX,mC,cO,hg,aO,aR,eC,lim,aZ,bH,gR,pE]
theorem St.lt {st:Nat}{H:Hs}(s:St st H):st<H.length:=let ⟨_,_,e⟩:=s;pT e
theorem LL {H:Hs}{q:Nat}{ks:List Int}(e:getL H q=some (ks.map Dv.int)):cC (.ref q) (.ref H.length) (H++[.lst []])=.ok (.bl (!ks.isEmpty)) (H++[.lst []]):=by
 have p1:bV cB (H++[.lst []]) (.ref q)=some (.lst (ks.map Dt.int)):=by show bV (28+1+1) (H++[.lst []]) (.ref q)=_;rw[bV];simp only[kB (l:=[.lst []]) e,vL]
 have p2:bV cB (H++[.lst []]) (.ref H.length)=some (.lst []):=by
  show bV (28+1+1) (H++[.lst []]) (.ref H.length)=_;rw[bV];have:getL (H++[.lst []]) H.length=some []:=by simp[getL]
  simp only[this];rfl
 unfold cC;rw[p1,p2]
 cases ks <;> simp[bM,gG]
def yA:M Bool:=mB (m2 cC (aB 2) (aR aC))
def yB:MS:=eN (fT (aB 3) (rM (aB 2) (aE F_qv (aA (aB 0) (aA (aE (f1 bI) (aA (aB 2) aC)) aC)))))
section
variable{st a b:Nat}{d:Dv}
theorem LM (hab:a≠b) (has:a≠st) (hbs:b≠st):∀(f:Nat) (ls fs:List Int) (H:Hs),ls.length<f->ls.length+fs.length<=100->getL H a=some (ls.map Dv.int)->getL H b=some (fs.map Dv.int)->St st H->
  ∃(H':Hs) (ys:List Int),iB yA yB f [some (.ref st),some d,some (.ref a),some (.ref b)] H=.nx [some (.ref st),some d,some (.ref a),some (.ref b)] H'/\getL H' b=some (ys.map Dv.int)/\ys.Perm (fs++ls)/\St st H'/\Fr [st,a,b] H H'
 |0,ls,fs,H,h,_,_,_,_=>by omega
 |f+1,ls,fs,H,h,hl,ea,eb,s=>by
  have tc:yA [some (.ref st),some d,some (.ref a),some (.ref b)] H=.ok (!ls.isEmpty) (H++[.lst []]):=by simp[yA,mB,m2,aB,aR,aC,lim,LL ea,cO]
  have ea1:=kB (l:=[Ob.lst []]) ea;have eb1:=kB (l:=[Ob.lst []]) eb;have g1:Fr [st,a,b] H (H++[Ob.lst []]):=Fr.app;have s1:=s.fr (Fr.app (S:=[]) (l:=[Ob.lst []])) (by simp);generalize H++[Ob.lst []]=H1 at tc ea1 eb1 g1 s1
  cases hls:ls with
  |nil=>subst hls;refine⟨H1,fs, ?_,eb1,by simp,s1,g1⟩;exact LG tc
  |cons x r=>
   have hne:ls.isEmpty=false:=by rw[hls];rfl
   have hpos:(0:Int)<ls.length:=by rw[hls];simp
   obtain⟨k,H2,k0,k1,ht,f2,s2⟩:=iV (ls.length:Int) s1 hpos (by omega);have ea2:=f2.getL ea1 (by simpa using has);have eb2:=f2.getL eb1 (by simpa using hbs);have hk:k.toNat<ls.length:=by omega
   have ixk:ixN (ls.map Dv.int).length k=some k.toNat:=by unfold ixN;rw[if_pos k0,bo,if_pos k1]
   have getk:(ls.map Dv.int)[k.toNat]?=some (.int ls[k.toNat]):=by simp[hk]
   have hlen:f1 bI [.ref a] H1=.ok (.int ls.length) H1:=by show(if dQ (.ref a)=true then fI [] (.ref a) H1 else .bad)=_;simp[dQ,fI,eB,ea1]
   have hz:(ls.map Dv.int).length<=1000000:=by rw[bo];omega
   have pop:vC (.ref a) (.int k) H2=.ok (.int ls[k.toNat]) (H2.set a (.lst ((ls.eraseIdx k.toNat).map Dv.int))):=by
    simp only[vC,ea2,ixk,getk,hz,if_true];have em:(ls.map Dv.int).eraseIdx k.toNat=(ls.eraseIdx k.toNat).map Dv.int:=by rw[wz,wz,jb,rf,rh]
    rw[em]
   have eb3:getL (H2.set a (.lst ((ls.eraseIdx k.toNat).map Dv.int))) b=some (fs.map Dv.int):=by rw[pS hab];exact eb2
   have ea3:getL (H2.set a (.lst ((ls.eraseIdx k.toNat).map Dv.int))) a=some ((ls.eraseIdx k.toNat).map Dv.int):=kQ ea2;have f3:Fr [st,a,b] H2 (H2.set a (.lst ((ls.eraseIdx k.toNat).map Dv.int))):=Fr.set.mono (by simp);have s3:St st (H2.set a (.lst ((ls.eraseIdx k.toNat).map Dv.int))):=s2.fr Fr.set (by simpa using cm has);generalize hH3:H2.set a (.lst ((ls.eraseIdx k.toNat).map Dv.int))=H3 at pop eb3 ea3 f3 s3;have hfl:(fs.map Dv.int).length<1000000:=by rw[bo];omega
   have body:yB [some (.ref st),some d,some (.ref a),some (.ref b)] H1=.nx [some (.ref st),some d,some (.ref a),some (.ref b)] (H3.set b (.lst ((fs++[ls[k.toNat]]).map Dv.int))):=by
    have isA:iM (.ref a) H1=true:=by simp[iM,ea1]
    have isB:iM (.ref b) H1=true:=by simp[iM,eb1]
    have hpop:rM (aB 2) (aE F_qv (aA (aB 0) (aA (aE (f1 bI) (aA (aB 2) aC)) aC))) [some (.ref st),some d,some (.ref a),some (.ref b)] H1=.ok (.int ls[k.toNat]) H3:=by simp[rM,aB,isA,aE,aA,aC,hlen,ht,pop]
    have happ:kM (.ref b) (.int ls[k.toNat]) H3=.ok .non (H3.set b (.lst ((fs++[ls[k.toNat]]).map Dv.int))):=by simp only[kM,eb3,hfl,if_true,jb];rfl
    simp[yB,eN,fT,aB,isB,hpop,happ]
   have hlen2:(ls.eraseIdx k.toNat).length=ls.length - 1:=zg hk;obtain⟨H',ys,w,e',pm,s',f'⟩:=LM hab has hbs f (ls.eraseIdx k.toNat) (fs++[ls[k.toNat]]) (H3.set b (.lst ((fs++[ls[k.toNat]]).map Dv.int))) (by omega) (by rw[bw];simp;omega) (by rw[pS (cm hab)];exact ea3) (kQ eb3) (s3.fr Fr.set (by simpa using cm hbs));refine⟨H',ys, ?_,e', ?_,s', ?_⟩
   ·rw[hne]at tc;rw[LH tc body];exact w
   ·rw[<-hls];refine pm.trans ?_;rw[wm];refine zh fs ?_;have:=SR.erase_perm ls k.toNat hk;simpa using this
   ·exact(((g1.trans f2 (by simp)).trans f3 (by simp)).trans (T:=[b]) Fr.set (by simp)).trans f' (by simp)
end
def q9 (n:Nat) (ps:List (Int×Int)):Prop:=∀p∈ps,0<=p.1/\p.1<n/\0<=p.2/\p.2<n
theorem LN:∀ps:List (Int×Int),bU pW (ps.map aI)=some (ps.map jK)
 | []=>rfl
 |p::ps=>by rw[dw,bU,LN ps];rfl
theorem r8 (ps:List (Int×Int)):vZ (ps.map jK)=true:=by simp[vZ,jK]
theorem r9 (ps:List (Int×Int)):(ps.map jK).map vY=ps.map aI:=by rw[qd];rfl
section
variable{H:Hs}{ps:List (Int×Int)}{d:Dv}
theorem t9 (h:pX d H=some (ps.map jK)) (hl:(dR fL ps).length<64):pY d H=.ok (.ref H.length) (H++[.lst ((dR fL ps).map aI)]):=by unfold pY;rw[h];dsimp only;rw[JA rV,bo,if_pos (by rw[r8];simpa using hl),r9]
end
section
variable{H:Hs}{ps:List (Int×Int)}
theorem u0 {i:Nat}(e:getL H i=some (ps.map aI)):pX (.ref i) H=some (ps.map jK):=by simp only[pX,e,LN]
end
theorem DD {H:Hs}{i k:Nat}{xs:List Int}(e:getL H i=some (xs.map Dv.int)) (hk:k<xs.length):aQ (.ref i) (.int (k:Int)) H=.ok (.int xs[k]) H:=by
 have h1:ixN (xs.map Dv.int).length (k:Int)=some k:=by unfold ixN;rw[bo,if_pos (by omega),if_pos (by omega)];simp
 have h2:eY (xs.map Dv.int) (k:Int)=some (.int xs[k]):=by unfold eY;rw[h1];simp[hk]
 simp only[aQ,dQ,fH,e,iI,h2,if_true]
theorem eq_int (x y:Int) (H:Hs):dB (.int x) (.int y) H=.ok (.bl (x==y)) H:=by simp[dB,cB,bV,bM]
theorem DE:∀{ys:List Int},ys.Nodup->∀i (h:i<ys.length),rR ys[i] ys=some i
 | [],_,i,h=>by simp at h
 |y::ys,nd,0,h=>by simp[rR]
 |y::ys,nd,i+1,h=>by
  have h1:=ku.mp nd;have hi:i<ys.length:=by simpa using h
  have ne:y≠ys[i]:=λz=>h1.1 (by rw[z];exact dj hi);simp[rR,ne,DE h1.2 i hi]
def LO (n:Nat) (ps:List (Int×Int)):Prop:=q9 n ps/\∃f:Int->Int,∀p∈ps,f p.1<f p.2
section
variable{st ir ip im n:Nat}{ys ms:List Int}{w:Int}{d1:Dv}
end
theorem DF {m:Int}(h0:0<=m) (h:m<=100):jU m=true:=by
 have h1:(-4611686018427387904:Int)<=m:=by omega
 have h2:m<4611686018427387904:=by omega
 unfold jU;rw[decide_eq_true h1,decide_eq_true h2];rfl
theorem DG {H:Hs}{j:Int}(h0:0<=j) (h1:j<=100):cJ [.int j] H=.ok (cH 0 j) H:=by simp only[cJ,DF h0 h1,if_true]
theorem LP {H:Hs}{i j:Int}(h0:0<=i) (h1:i<=100) (h2:0<=j) (h3:j<=100):jD [.int i,.int j] H=.ok (cH i j) H:=by simp only[jD,DF h0 h1,DF h2 h3,and_self,if_true]
def qC (ys:List Int) (n:Nat) (ps:List (Int×Int)):Prop:=∀p∈ps,∃i j,i<j/\j<n/\p=(ys.getD i 0,ys.getD j 0)
section
variable{st ir ip im n:Nat}{ys ms:List Int}{w:Int}{d1:Dv}
theorem u5 (pm:ys.Perm (bK n)) {ps:List (Int×Int)}(h:qC ys n ps):LO n ps:=by
 have hl:ys.length=n:=by rw[pm.length_eq];simp[bK]
 have nd:ys.Nodup:=by refine pm.nodup_iff.mpr ?_;unfold bK;simp only[fe];refine List.Pairwise.map _ ?_ (sh (n:=n));intro a b h e;exact h (by omega)
 have mem:∀i,i<n->0<=ys.getD i 0/\ys.getD i 0<n:=λi hi=>by have hm:ys.getD i 0∈bK n:=pm.mem_iff.mp (by simp[show i<ys.length by omega]);simp only[bK,df,bp,fe]at hm;obtain⟨k,hk,e⟩:=hm;omega
 refine⟨λp hp=>?_,λa=>((rR a ys).getD 0:Nat),λp hp=>?_⟩
 ·obtain⟨i,j,hij,hj,rfl⟩:=h p hp;exact⟨(mem i (by omega)).1,(mem i (by omega)).2,(mem j hj).1,(mem j hj).2⟩
 ·obtain⟨i,j,hij,hj,rfl⟩:=h p hp;have hi':i<ys.length:=by omega
  have hj':j<ys.length:=by omega
  have e1:ys.getD i 0=ys[i]:=by simp[hi']
  have e2:ys.getD j 0=ys[j]:=by simp[hj']
  simp only[e1,e2,DE nd i hi',DE nd j hj',Option.getD_some];omega
end
section
variable{st:Nat}
end
end L2.Mr.Com
namespace L2.Mr.Cod
open PySem PySem.Spec PyProof.Rows L2 L2.Mr
open L2.Mr.Com
section
variable{st n:Nat}
theorem u6 {H:Hs}(hn:n<=6):oG (.int n) H=.ok (.ref H.length) (H++[.lst ((bK n).map Dv.int)]):=by
 have c:(decide (0<=(n:Int))&&decide ((n:Int)<=1000))=true:=by simp;omega
 simp only[oG,c,if_true]
theorem u7:wO=aL (aJ (aE (f1 oG) (aA (aB 1) aC)) (aG 2)) (aL (aJ (aR aC) (aG 3)) (aL (iB yA yB 40) (aO (aE (f1 hZ) (aA (aB 3) aC))))):=rfl
theorem u9 {H:Hs}(s:Com.St st H) (hn:n<=6):∃(ys:List Int) (H':Hs),F_qi [.ref st,.int n] H=.ok (.tup (ys.map Dv.int)) H'/\ys.Perm (bK n)/\Com.St st H'/\Fr [st] H H':=by
 have lt:=s.lt;have hL:=u6 (H:=H) hn;have hlen:(bK n).length<=6:=by simp[bK];omega
 generalize bK n=xs at hL hlen;have w0:aJ (aE (f1 oG) (aA (aB 1) aC)) (aG 2) [some (.ref st),some (.int n),none,none] H=.nx [some (.ref st),some (.int n),some (.ref H.length),none] (H++[.lst (xs.map Dv.int)]):=by generalize (n:Int)=z at hL;simp[aJ,aE,L2.Mr.f1,aA,aB,aC,hL,aG]
 have w1:aJ (aR aC) (aG 3) [some (.ref st),some (.int n),some (.ref H.length),none] (H++[.lst (xs.map Dv.int)])=.nx [some (.ref st),some (.int n),some (.ref H.length),some (.ref (H.length+1))] (H++[.lst (xs.map Dv.int)]++[.lst []]):=by simp[aJ,aR,aC,lim,aG]
 have ea:getL (H++[.lst (xs.map Dv.int)]++[.lst []]) H.length=some (xs.map Dv.int):=kB (by simp[getL]);have eb:getL (H++[.lst (xs.map Dv.int)]++[.lst []]) (H.length+1)=some (([]:List Int).map Dv.int):=by simp[getL]
 have f0:Fr [st] H (H++[.lst (xs.map Dv.int)]++[.lst []]):=Fr.trans (T:=[]) Fr.app Fr.app (by simp);have s0:Com.St st (H++[.lst (xs.map Dv.int)]++[.lst []]):=(s.fr (Fr.app (S:=[]) (l:=[.lst (xs.map Dv.int)])) (by simp)).fr (Fr.app (S:=[])) (by simp);obtain⟨H',ys,w2,e2,pm,s2,f2⟩:=LM (st:=st) (a:=H.length) (b:=H.length+1) (d:=.int n) (by omega) (by omega) (by omega) 40 xs [] _ (by omega) (by simp;omega) ea eb s0;refine⟨ys,H', ?_,by simpa using pm,s2,f0.trans f2 (by simp)⟩;show aZ (wO [some (.ref st),some (.int n),none,none] H)=_;rw[u7,bJ w0,bJ w1,bJ w2];simp[aO,aE,L2.Mr.f1,hZ,aA,aB,aC,e2,aZ]
def wS (m:Int) (S:List (Int×Int)) (a b:Int):List (Int×Int):=if(a,m)∈S/\(m,b)∈S/\(a,b)∉S then S++[(a,b)]else S
def wB (m a:Int) (bs:List Int) (S:List (Int×Int)):List (Int×Int):=bs.foldl (λS b=>wS m S a b) S
def wA (m:Int) (as bs:List Int) (S:List (Int×Int)):List (Int×Int):=as.foldl (λS a=>wB m a bs S) S
def wM (ms xs:List Int) (S:List (Int×Int)):List (Int×Int):=ms.foldl (λS m=>wA m xs xs S) S
theorem sR {m a b:Int}{S:List (Int×Int)}{p:Int×Int}(h:p∈S):p∈wS m S a b:=by unfold wS;split <;> simp[h]
theorem DH {m a b:Int}{S:List (Int×Int)}{p:Int×Int}(h:p∈wS m S a b):p∈S∨(p=(a,b)/\(a,m)∈S/\(m,b)∈S):=by
 unfold wS at h
 split at h
 ·rename_i c
  rcases br.mp h with h|h
  ·exact .inl h
  ·exact .inr ⟨cw.mp h,c.1,c.2.1⟩
 ·exact .inl h
theorem wS_in {m a b x:Int}{S:List (Int×Int)}:(x,m)∈wS m S a b↔(x,m)∈S:=by
 refine⟨λh=>?_,sR⟩
 rcases DH h with h|⟨e,h1,_⟩
 ·exact h
 ·cases e;exact h1
theorem wS_out {m a b x:Int}{S:List (Int×Int)}:(m,x)∈wS m S a b↔(m,x)∈S:=by
 refine⟨λh=>?_,sR⟩
 rcases DH h with h|⟨e,_,h1⟩
 ·exact h
 ·cases e;exact h1
theorem sU {m a:Int}{p:Int×Int}:∀{bs:List Int}{S:List (Int×Int)},p∈S->p∈wB m a bs S
 | [],_,h=>h
 |b::bs,S,h=>sU (bs:=bs) (sR (b:=b) h)
theorem wB_in {m a x:Int}:∀{bs:List Int}{S:List (Int×Int)},(x,m)∈wB m a bs S↔(x,m)∈S
 | [],_=>Iff.rfl
 |b::bs,S=>(wB_in (bs:=bs) (S:=wS m S a b)).trans wS_in
theorem wB_out {m a x:Int}:∀{bs:List Int}{S:List (Int×Int)},(m,x)∈wB m a bs S↔(m,x)∈S
 | [],_=>Iff.rfl
 |b::bs,S=>(wB_out (bs:=bs) (S:=wS m S a b)).trans wS_out
theorem LQ {m a:Int}{p:Int×Int}:∀{bs:List Int}{S:List (Int×Int)},p∈wB m a bs S->p∈S∨(p.1,m)∈S/\(m,p.2)∈S
 | [],_,h=>.inl h
 |b::bs,S,h=>by
  rcases LQ (bs:=bs) (S:=wS m S a b) h with h|⟨h1,h2⟩
  ·rcases DH h with h|⟨e,h1,h2⟩
   ·exact .inl h
   ·subst e;exact .inr ⟨h1,h2⟩
  ·exact .inr ⟨wS_in.mp h1,wS_out.mp h2⟩
theorem LR {m a b:Int}:∀{bs:List Int}{S:List (Int×Int)},b∈bs->(a,m)∈S->(m,b)∈S->(a,b)∈wB m a bs S
 |c::bs,S,hb,h1,h2=>by
  rcases ba.mp hb with rfl|hb
  ·refine sU (bs:=bs) ?_;show(a,b)∈wS m S a b;unfold wS
   by_cases q:(a,b)∈S
   ·rw[if_neg (λz=>z.2.2 q)];exact q
   ·rw[if_pos ⟨h1,h2,q⟩];simp
  ·exact LR (bs:=bs) hb (sR h1) (sR h2)
theorem yC {m:Int}{bs:List Int}{p:Int×Int}:∀{as:List Int}{S:List (Int×Int)},p∈S->p∈wA m as bs S
 | [],_,h=>h
 |a::as,S,h=>yC (as:=as) (sU h)
theorem wA_in {m x:Int}{bs:List Int}:∀{as:List Int}{S:List (Int×Int)},(x,m)∈wA m as bs S↔(x,m)∈S
 | [],_=>Iff.rfl
 |a::as,S=>(wA_in (as:=as) (S:=wB m a bs S)).trans wB_in
theorem wA_out {m x:Int}{bs:List Int}:∀{as:List Int}{S:List (Int×Int)},(m,x)∈wA m as bs S↔(m,x)∈S
 | [],_=>Iff.rfl
 |a::as,S=>(wA_out (as:=as) (S:=wB m a bs S)).trans wB_out
theorem sV {m:Int}{bs:List Int}{p:Int×Int}:∀{as:List Int}{S:List (Int×Int)},p∈wA m as bs S->p∈S∨(p.1,m)∈S/\(m,p.2)∈S
 | [],_,h=>.inl h
 |a::as,S,h=>by
  rcases sV (as:=as) (S:=wB m a bs S) h with h|⟨h1,h2⟩
  ·exact LQ h
  ·exact .inr ⟨wB_in.mp h1,wB_out.mp h2⟩
theorem sW {m a b:Int}{bs:List Int}(hb:b∈bs):∀{as:List Int}{S:List (Int×Int)},a∈as->(a,m)∈S->(m,b)∈S->(a,b)∈wA m as bs S
 |c::as,S,ha,h1,h2=>by
  rcases ba.mp ha with rfl|ha
  ·exact yC (as:=as) (LR hb h1 h2)
  ·exact sW hb (as:=as) ha (sU h1) (sU h2)
def qD (xs:List Int) (S:List (Int×Int)):Prop:=∀p∈S,p.1∈xs/\p.2∈xs
theorem v5 {m:Int}{xs as bs:List Int}{S:List (Int×Int)}(h:qD xs S):qD xs (wA m as bs S):=λp hp=>by
 rcases sV hp with hp|⟨h1,h2⟩
 ·exact h p hp
 ·exact⟨(h _ h1).1,(h _ h2).2⟩
theorem v7 {m k:Int}{xs:List Int}{S:List (Int×Int)}(hX:qD xs S) (hk:∀a b,(a,k)∈S->(k,b)∈S->(a,b)∈S):∀a b,(a,k)∈wA m xs xs S->(k,b)∈wA m xs xs S->(a,b)∈wA m xs xs S:=λa b h1 h2=>by
 rcases sV h1 with h1|⟨h1,h1'⟩ <;> rcases sV h2 with h2|⟨h2,h2'⟩
 ·exact yC (hk a b h1 h2)
 ·exact sW (hX _ h2').2 (hX _ h1).1 (hk _ _ h1 h2) h2'
 ·exact sW (hX _ h2).2 (hX _ h1).1 h1 (hk _ _ h1' h2)
 ·exact sW (hX _ h2').2 (hX _ h1).1 h1 h2'
theorem LU {xs:List Int}:∀{ms:List Int}{S:List (Int×Int)}(D:Int->Prop),qD xs S->(∀k,D k->∀a b,(a,k)∈S->(k,b)∈S->(a,b)∈S)->
  qD xs (wM ms xs S)/\(∀p∈S,p∈wM ms xs S)/\∀k,D k∨k∈ms->∀a b,(a,k)∈wM ms xs S->(k,b)∈wM ms xs S->(a,b)∈wM ms xs S
 | [],S,D,hX,h=>⟨hX,λ_ hp=>hp,λk hk=>h k (hk.resolve_right (by simp))⟩
 |m::ms,S,D,hX,h=>by
  obtain⟨h1,h2,h3⟩:=LU (ms:=ms) (S:=wA m xs xs S) (λk=>D k∨k=m) (v5 hX) (λk hk=>by
   rcases hk with hk|rfl
   ·exact v7 hX (h k hk)
   ·exact λa b q1 q2=>sW (hX _ (wA_out.mp q2)).2 (hX _ (wA_in.mp q1)).1 (wA_in.mp q1) (wA_out.mp q2))
  refine⟨h1,λp hp=>h2 p (yC hp),λk hk=>h3 k ?_⟩
  rcases hk with hk|hk
  ·exact .inl (.inl hk)
  ·rcases ba.mp hk with hk|hk
   ·exact .inl (.inr hk)
   ·exact .inr hk
theorem LV {xs:List Int}{f:Int->Int}:∀{ms:List Int}{S:List (Int×Int)},(∀p∈S,f p.1<f p.2)->∀p∈wM ms xs S,f p.1<f p.2
 | [],_,h=>h
 |m::ms,S,h=>LV (ms:=ms) (S:=wA m xs xs S) λp hp=>by
  rcases sV hp with hp|⟨h1,h2⟩
  ·exact h p hp
  ·have:=h _ h1;have:=h _ h2;simp only at *;omega
end
section
variable{n i:Nat}{H:Hs}{S:List (Int×Int)}{m a b:Int}{x0 x1 x3 x4 x5:Option Dv}
theorem DI (neg:Bool) (p:Int×Int) (e:getL H i=some (S.map aI)):cZ neg (aI p) (.ref i) H=.ok (.bl (if neg then !decide (p∈S)else decide (p∈S))) H:=by
 have e':(S.map iR).any (λt=>bM t (iR p))=decide (p∈S):=by
  rw[fj];simp only[wj,mn,xr,IM,decide_eq_true_eq];constructor
  ·rintro ⟨q,hq,rfl⟩;exact hq
  ·intro h;exact⟨p,h,rfl⟩
 have h1:bU (bV cB H) (S.map aI)=some (S.map iR):=A7 28 H S;have h2:bV cB H (aI p)=some (iR p):=A6 28 H p;show kN [] neg (aI p) (.ref i) H=_;simp only[kN,eB,e,h1,h2,e']
def oM:MS:=aW (eI (mB (m2 (cZ false) (aM (aA (aB 4) (aA (aB 3) aC))) (aB 2))) (eI (mB (m2 (cZ false) (aM (aA (aB 3) (aA (aB 5) aC))) (aB 2))) (mB (m2 (cZ true) (aM (aA (aB 4) (aA (aB 5) aC))) (aB 2))))) (eN (fT (aB 2) (aM (aA (aB 4) (aA (aB 5) aC))))) bH
def DJ:MS:=dS (aS cJ (aA (aB 0) aC)) (aG 5) oM
def DK:MS:=dS (aS cJ (aA (aB 0) aC)) (aG 4) DJ
theorem v8:wQ=aL (aJ (aE (f1 jI) (aA (aB 1) aC)) (aG 2)) (aL (dS (aS cJ (aA (aB 0) aC)) (aG 3) DK) (aO (aE (f1 hZ) (aA (aE (f1 pY) (aA (aB 2) aC)) aC)))):=rfl
theorem z00 (e:getL H i=some (S.map aI)) (hl:S.length<=500):
  ∃H',oM [x0,x1,some (.ref i),some (.int m),some (.int a),some (.int b)] H=.nx [x0,x1,some (.ref i),some (.int m),some (.int a),some (.int b)] H'/\getL H' i=some ((wS m S a b).map aI)/\Fr [i] H H':=by
 have t1:=DI false (a,m) e;have t2:=DI false (m,b) e;have t3:=DI true (a,b) e;simp only[aI,bj,if_false,if_true]at t1 t2 t3;have hz:S.length<1000000:=by omega
 by_cases c1:(a,m)∈S
 ·by_cases c2:(m,b)∈S
  ·by_cases c3:(a,b)∈S
   ·refine⟨H, ?_,by unfold wS;rw[if_neg (λz=>z.2.2 c3)];exact e,Fr.refl⟩;simp[oM,aW,eI,mB,m2,aM,aA,aB,aC,lim,t1,t2,t3,c1,c2,c3,cO,bH]
   ·refine⟨H.set i (.lst (S.map aI++[aI (a,b)])), ?_, ?_,Fr.set⟩
    ·simp[oM,aW,eI,mB,m2,aM,aA,aB,aC,lim,t1,t2,t3,c1,c2,c3,cO,eN,fT,iM,e,kM,hz,aI]
    ·unfold wS;rw[if_pos ⟨c1,c2,c3⟩,jb];exact kQ e
  ·refine⟨H, ?_,by unfold wS;rw[if_neg (λz=>c2 z.2.1)];exact e,Fr.refl⟩;simp[oM,aW,eI,mB,m2,aM,aA,aB,aC,lim,t1,t2,c1,c2,cO,bH]
 ·refine⟨H, ?_,by unfold wS;rw[if_neg (λz=>c1 z.1)];exact e,Fr.refl⟩;simp[oM,aW,eI,mB,m2,aM,aA,aB,aC,lim,t1,c1,cO,bH]
theorem DL {bd:MS}{k:Nat}{ρ:Ev}(h0:∀H,aS cJ (aA (aB 0) aC) ρ H=.ok (cH 0 n) H) (P:Nat->List (Int×Int)->Ev->Hs->Prop) (g:List (Int×Int)->Int->List (Int×Int))
  (step:∀(j:Nat) S ρ H,j<n->P j S ρ H->∃ρ1 ρ2 H',aG k (.int j) ρ=some ρ1/\bd ρ1 H=.nx ρ2 H'/\P (j+1) (g S j) ρ2 H') (hP:P 0 S ρ H):
  ∃ρ' H',dS (aS cJ (aA (aB 0) aC)) (aG k) bd ρ H=.nx ρ' H'/\P n ((bK n).foldl g S) ρ' H':=by
 obtain⟨ρ',H',w,h⟩:=mO (sg:=aG k) (b:=bd) (h0 H) (λj ρ H=>P j (((bK n).take j).foldl g S) ρ H)
  (λj ρ H hj h=>by
   have hj':j<n:=by simpa[cH]using hj
   obtain⟨ρ1,ρ2,H',e1,e2,e3⟩:=step j _ ρ H hj' h;refine⟨.int j,ρ1,ρ2,H',by simp[cH],e1,e2, ?_⟩;have hq:(bK n).take (j+1)=(bK n).take j++[(j:Int)]:=by
    have hl:j<(bK n).length:=by simp[bK];omega
    rw[List.take_add_one];have:(bK n)[j]?=some (j:Int):=by rw[ar hl];simp[bK]
    rw[this];rfl
   rw[hq,List.foldl_append];exact e3) (λ_ _ _=>rfl) (by simpa using hP)
 refine⟨ρ',H',w, ?_⟩;have:(cH 0 (n:Int)).n=n:=by simp[cH]
 rw[this,oi (by simp[bK])]at h;exact h
theorem DM (hn:n<=6) {ρ:Ev}:∀H,aS cJ (aA (aB 0) aC) (some (.int n)::ρ) H=.ok (cH 0 n) H:=λH=>by have q:aA (aB 0) aC (some (.int (n:Int))::ρ) H=.ok [.int n] H:=rfl;unfold aS;rw[q,Rs.bind_ok];exact DG (by omega) (by omega)
theorem z01:(wS m S a b).length<=S.length+1:=by unfold wS;split <;> simp
theorem z02 (hn:n<=6) (e:getL H i=some (S.map aI)) (hl:S.length<=400):
  ∃y5 H',DJ [some (.int n),x1,some (.ref i),some (.int m),some (.int a),x5] H=.nx [some (.int n),x1,some (.ref i),some (.int m),some (.int a),y5] H'/\getL H' i=some ((wB m a (bK n) S).map aI)/\(wB m a (bK n) S).length<=S.length+n/\Fr [i] H H':=by
 obtain⟨ρ',H',w,y5,e1,e2,e3,e4⟩:=DL (S:=S) (H:=H) (bd:=oM) (k:=5) (ρ:=[some (.int n),x1,some (.ref i),some (.int m),some (.int a),x5]) (DM hn) (λj S' ρ H'=>∃y5,ρ=[some (.int n),x1,some (.ref i),some (.int m),some (.int a),y5]/\getL H' i=some (S'.map aI)/\S'.length<=S.length+j/\Fr [i] H H') (λS b=>wS m S a b)
  (λj S' ρ H' hj ⟨y5,e1,e2,e3,e4⟩=>by subst e1;obtain⟨H2,w2,e5,f5⟩:=z00 (x0:=some (.int n)) (x1:=x1) (m:=m) (a:=a) (b:=(j:Int)) e2 (by omega);have:=z01 (m:=m) (a:=a) (b:=(j:Int)) (S:=S');exact⟨_,_,H2,rfl,w2,_,rfl,e5,by omega,e4.trans f5 (by simp)⟩) ⟨x5,rfl,e,by omega,Fr.refl⟩
 subst e1;exact⟨y5,H',w,e2,e3,e4⟩
theorem z03 (hn:n<=6) (e:getL H i=some (S.map aI)) (hl:S.length<=300):
  ∃y4 y5 H',DK [some (.int n),x1,some (.ref i),some (.int m),x4,x5] H=.nx [some (.int n),x1,some (.ref i),some (.int m),y4,y5] H'/\getL H' i=some ((wA m (bK n) (bK n) S).map aI)/\(wA m (bK n) (bK n) S).length<=S.length+6*n/\Fr [i] H H':=by
 obtain⟨ρ',H',w,y4,y5,e1,e2,e3,e4⟩:=DL (S:=S) (H:=H) (bd:=DJ) (k:=4) (ρ:=[some (.int n),x1,some (.ref i),some (.int m),x4,x5]) (DM hn) (λj S' ρ H'=>∃y4 y5,ρ=[some (.int n),x1,some (.ref i),some (.int m),y4,y5]/\getL H' i=some (S'.map aI)/\S'.length<=S.length+6*j/\Fr [i] H H') (λS a=>wB m a (bK n) S)
  (λj S' ρ H' hj ⟨y4,y5,e1,e2,e3,e4⟩=>by subst e1;obtain⟨z5,H2,w2,e5,l5,f5⟩:=z02 (x1:=x1) (x5:=y5) (m:=m) (a:=(j:Int)) hn e2 (by omega);exact⟨_,_,H2,rfl,w2,_,_,rfl,e5,by omega,e4.trans f5 (by simp)⟩) ⟨x4,x5,rfl,e,by omega,Fr.refl⟩
 subst e1;exact⟨y4,y5,H',w,e2,e3,e4⟩
theorem z04 {j:Nat}{ps:List (Int×Int)}(n1:1<=n) (hn:n<=6) (e:getL H j=some (ps.map aI)) (hl:ps.length<=40) (g:LO n ps):
  ∃(cs:List (Int×Int)) (H':Hs),F_qf [.int n,.ref j] H=.ok (.tup (cs.map aI)) H'/\OrdP n cs/\Fr [] H H':=by
 have w0:aJ (aE (f1 jI) (aA (aB 1) aC)) (aG 2) [some (.int n),some (.ref j),none,none,none,none] H=.nx [some (.int n),some (.ref j),some (.ref H.length),none,none,none] (H++[.lst (ps.map aI)]):=by simp[aJ,aE,f1,jI,dQ,pH,eB,aA,aB,aC,e,aG]
 have g0:getL (H++[Ob.lst (ps.map aI)]) H.length=some (ps.map aI):=by simp[getL]
 have f0:Fr [] H (H++[Ob.lst (ps.map aI)]):=Fr.app;obtain⟨q,hq⟩:∃q,q=H.length:=⟨_,rfl⟩
 rw[<-hq]at w0 g0;obtain⟨H0,hH0⟩:∃H0,H0=H++[Ob.lst (ps.map aI)]:=⟨_,rfl⟩
 rw[<-hH0]at w0 g0 f0;obtain⟨ρ',H1,w1,y3,y4,y5,e1,e2,e3,e4⟩:=DL (S:=ps) (H:=H0) (bd:=DK) (k:=3) (ρ:=[some (.int n),some (.ref j),some (.ref q),none,none,none]) (DM hn) (λk S' ρ H'=>∃y3 y4 y5,ρ=[some (.int n),some (.ref j),some (.ref q),y3,y4,y5]/\getL H' q=some (S'.map aI)/\S'.length<=ps.length+36*k/\Fr [q] H0 H') (λS m=>wA m (bK n) (bK n) S)
  (λk S' ρ H' hj ⟨y3,y4,y5,e1,e2,e3,e4⟩=>by subst e1;obtain⟨z4,z5,H2,w2,e5,l5,f5⟩:=z03 (x1:=some (.ref j)) (x4:=y4) (x5:=y5) (m:=(k:Int)) hn e2 (by omega);exact⟨_,_,H2,rfl,w2,_,_,_,rfl,e5,by omega,e4.trans f5 (by simp)⟩) ⟨none,none,none,rfl,g0,by omega,Fr.refl⟩
 subst e1;have hX:qD (bK n) ps:=λp hp=>by have:=g.1 p hp;simp only[bK,df,bp,fe];exact⟨⟨p.1.toNat,by omega,by omega⟩,p.2.toNat,by omega,by omega⟩
 obtain⟨k1,k2,k3⟩:=LU (xs:=bK n) (ms:=bK n) (S:=ps) (λ_=>False) hX (λ_ h=>h.elim);obtain⟨f,hf⟩:=g.2;have k4:=LV (xs:=bK n) (ms:=bK n) (f:=f) hf;change getL H1 q=some ((wM (bK n) (bK n) ps).map aI)at e2;generalize wM (bK n) (bK n) ps=W at e2 k1 k2 k3 k4;have hr:=vO stoP W;have hm:∀p,p∈dR fL W↔p∈W:=λp=>pU stoP p W;have o:OrdP n (dR fL W):=by
  refine⟨n1,hn,λp hp=>?_,hr,λp hp e=>?_,λp hp r hr' e=>?_⟩
  ·have:=k1 p ((hm p).mp hp);simp only[bK,df,bp,fe]at this;obtain⟨⟨k,hk,e⟩,k',hk',e'⟩:=this;omega
  ·have:=k4 p ((hm p).mp hp);rw[e]at this;omega
  ·refine(hm _).mpr (k3 p.2 (.inr (k1 p ((hm p).mp hp)).2) p.1 r.2 ((hm p).mp hp) ?_);rw[e];exact(hm r).mp hr'
 have hs:=t9 (u0 e2) (by have:=o.len;omega);have f1':Fr [] H1 (H1++[Ob.lst ((dR fL W).map aI)]):=Fr.app;have g2:getL (H1++[Ob.lst ((dR fL W).map aI)]) H1.length=some ((dR fL W).map aI):=by simp[getL]
 refine⟨dR fL W,H1++[Ob.lst ((dR fL W).map aI)], ?_,o,(f0.trans e4 (λx hx=>.inr (by rw[cw.mp hx,hq];exact ak _))).trans f1' (by simp)⟩;show aZ (wQ [some (.int n),some (.ref j),none,none,none,none] H)=_;rw[v8,bJ w0,bJ w1];generalize H1++[Ob.lst ((dR fL W).map aI)]=H2 at hs g2;simp[aO,aE,f1,hZ,aA,aB,aC,hs,g2,aZ]
end
theorem sX {H:Hs}{ys:List Int}{k:Nat}(hk:k<ys.length):aQ (.tup (ys.map Dv.int)) (.int k) H=.ok (.int (ys.getD k 0)) H:=by
 have h1:ixN (ys.map Dv.int).length (k:Int)=some k:=by
  unfold ixN;have hl:(ys.map Dv.int).length=ys.length:=by simp
  rw[hl,if_pos (by omega),if_pos (by omega)];simp
 have h2:eY (ys.map Dv.int) (k:Int)=some (.int (ys.getD k 0)):=by unfold eY;rw[h1];simp[hk]
 simp only[aQ,dQ,fH,iI,h2,if_true]
section
variable{st ip im n:Nat}{ys ms:List Int}{w:Int}{d1:Dv}
abbrev ev (st ip im n:Nat) (w:Int) (d1:Dv) (ys:List Int) (x7 x8 x9:Option Dv):Ev:=[some (.ref st),some d1,some (.int n),some (.tup (ys.map Dv.int)),some (.int w),some (.ref im),some (.ref ip),x7,x8,x9]
def q1:MS:=aJ (m2 dF (aE F_qv (aA (aB 0) (aA (mC (.int 4)) aC))) (m2 aQ (aR (aA (mC (.int 1)) (aA (mC (.int 2)) (aA (mC (.int 3)) aC)))) (m2 gR (aB 4) (mC (.int 3))))) (aG 9)
def q2:MS:=aW (mB (m2 dB (aB 4) (mC (.int 3)))) (aJ (m2 dB (m2 aQ (aB 5) (aB 7)) (m2 aQ (aB 5) (aB 8))) (aG 9)) bH
def q3:MS:=aW (mB (m2 dB (aB 4) (mC (.int 4)))) (aJ (m2 dF (m2 aQ (aB 5) (aB 7)) (m2 aQ (aB 5) (aB 8))) (aG 9)) bH
def q4:MS:=aW (bG (aB 9)) (eN (fT (aB 6) (aM (aA (m2 aQ (aB 3) (aB 7)) (aA (m2 aQ (aB 3) (aB 8)) aC))))) bH
def oB:MS:=aL q1 (aL q2 (aL q3 q4))
structure Sd (st im:Nat) (ms:List Int) (H:Hs):Prop where
 s:Com.St st H
 m:getL H im=some (ms.map Dv.int)
theorem Sd.fr {H H':Hs}{S:List Nat}(h:Sd st im ms H) (f:Fr S H H') (s':Com.St st H') (h2:im∉S):Sd st im ms H':=⟨s',f.getL h.m h2⟩
theorem z05 {H:Hs}{x9:Option Dv}{ps:List (Int×Int)}{i j:Nat}(D:Sd st im ms H) (ep:getL H ip=some (ps.map aI)) (hw:0<=w/\w<5) (hi:i<n) (hj:j<n) (hy:ys.length=n) (hm:ms.length=n) (hl:ps.length<=1000)
  (h2:im≠st) (h3:ip≠st) (h5:im≠ip):
  ∃(x9':Option Dv) (H':Hs) (ps':List (Int×Int)),oB (ev st ip im n w d1 ys (some (.int i)) (some (.int j)) x9) H=.nx (ev st ip im n w d1 ys (some (.int i)) (some (.int j)) x9') H'/\getL H' ip=some (ps'.map aI)/\(ps'=ps∨ps'=ps++[(ys.getD i 0,ys.getD j 0)])/\Sd st im ms H'/\Fr [st,ip] H H':=by
 obtain⟨r0,H0,_,_,t0,f0,s0⟩:=iV 4 D.s;have D0:=D.fr f0 s0 (by simpa using h2);have ep0:=f0.getL ep (by simpa using h3);have fA:Fr [] H0 (H0++[Ob.lst [.int 1,.int 2,.int 3]]):=Fr.app;have eA:getL (H0++[Ob.lst [.int 1,.int 2,.int 3]]) H0.length=some [.int 1,.int 2,.int 3]:=by simp[getL]
 have near:∃c,aQ (.ref H0.length) (.int (w % 3)) (H0++[Ob.lst [.int 1,.int 2,.int 3]])=.ok (.int c) (H0++[Ob.lst [.int 1,.int 2,.int 3]]):=by
  have hw':w=0∨w=1∨w=2∨w=3∨w=4:=by omega
  rcases hw' with rfl|rfl|rfl|rfl|rfl
  ·exact⟨1,by simp only[aQ,dQ,fH,eA];rfl⟩
  ·exact⟨2,by simp only[aQ,dQ,fH,eA];rfl⟩
  ·exact⟨3,by simp only[aQ,dQ,fH,eA];rfl⟩
  ·exact⟨1,by simp only[aQ,dQ,fH,eA];rfl⟩
  ·exact⟨2,by simp only[aQ,dQ,fH,eA];rfl⟩
 obtain⟨c,hc⟩:=near;have hmod:gR (.int w) (.int 3) (H0++[Ob.lst [.int 1,.int 2,.int 3]])=.ok (.int (w % 3)) (H0++[Ob.lst [.int 1,.int 2,.int 3]]):=by
  have hw':w=0∨w=1∨w=2∨w=3∨w=4:=by omega
  rcases hw' with rfl|rfl|rfl|rfl|rfl <;> rfl
 have hlst:aR (aA (mC (.int 1)) (aA (mC (.int 2)) (aA (mC (.int 3)) aC))) (ev st ip im n w d1 ys (some (.int i)) (some (.int j)) x9) H0=.ok (.ref H0.length) (H0++[Ob.lst [.int 1,.int 2,.int 3]]):=rfl;have DA:=D0.fr fA (s0.fr fA (by simp)) (by simp);have epA:=fA.getL ep0 (by simp);have fHA:Fr [st] H (H0++[Ob.lst [.int 1,.int 2,.int 3]]):=f0.trans fA (by simp);generalize H0++[Ob.lst [.int 1,.int 2,.int 3]]=HA at hc hmod hlst DA epA fHA;have w1:q1 (ev st ip im n w d1 ys (some (.int i)) (some (.int j)) x9) H=.nx (ev st ip im n w d1 ys (some (.int i)) (some (.int j)) (some (.bl (decide (r0<c))))) HA:=by
  have a1:aE F_qv (aA (aB 0) (aA (mC (.int 4)) aC)) (ev st ip im n w d1 ys (some (.int i)) (some (.int j)) x9) H=.ok (.int r0) H0:=by simp[aE,aA,aB,mC,aC,t0]
  have a2:m2 gR (aB 4) (mC (.int 3)) (ev st ip im n w d1 ys (some (.int i)) (some (.int j)) x9) HA=.ok (.int (w % 3)) HA:=by simp[m2,aB,mC,hmod]
  have a3:m2 aQ (aR (aA (mC (.int 1)) (aA (mC (.int 2)) (aA (mC (.int 3)) aC)))) (m2 gR (aB 4) (mC (.int 3))) (ev st ip im n w d1 ys (some (.int i)) (some (.int j)) x9) H0=.ok (.int c) HA:=by show(aR _ _ H0).bind _=_;rw[hlst,Rs.bind_ok,a2,Rs.bind_ok,hc]
  unfold q1 aJ;have a4:m2 dF (aE F_qv (aA (aB 0) (aA (mC (.int 4)) aC))) (m2 aQ (aR (aA (mC (.int 1)) (aA (mC (.int 2)) (aA (mC (.int 3)) aC)))) (m2 gR (aB 4) (mC (.int 3)))) (ev st ip im n w d1 ys (some (.int i)) (some (.int j)) x9) H=.ok (.bl (decide (r0<c))) HA:=by show(aE _ _ _ H).bind _=_;rw[a1,Rs.bind_ok,a3,Rs.bind_ok];rfl
  rw[a4];rfl
 have hmi:=DD DA.m (k:=i) (by omega);have hmj:=DD DA.m (k:=j) (by omega);generalize ms[i]=va at hmi;generalize ms[j]=vb at hmj;have w2:∀b,∃b',q2 (ev st ip im n w d1 ys (some (.int i)) (some (.int j)) (some (.bl b))) HA=.nx (ev st ip im n w d1 ys (some (.int i)) (some (.int j)) (some (.bl b'))) HA:=λb=>by
  by_cases q:w=3
  ·subst q;refine⟨va==vb, ?_⟩;simp[q2,aW,mB,m2,aB,mC,Com.eq_int,cO,aJ,hmi,hmj,aG]
  ·refine⟨b, ?_⟩;have q':(w==3)=false:=by simpa using q
   simp[q2,aW,mB,m2,aB,mC,Com.eq_int,q',cO,bH]
 have w3:∀b,∃b',q3 (ev st ip im n w d1 ys (some (.int i)) (some (.int j)) (some (.bl b))) HA=.nx (ev st ip im n w d1 ys (some (.int i)) (some (.int j)) (some (.bl b'))) HA:=λb=>by
  by_cases q:w=4
  ·subst q;refine⟨decide (va<vb), ?_⟩;simp[q3,aW,mB,m2,aB,mC,Com.eq_int,cO,aJ,hmi,hmj,dF,aG]
  ·refine⟨b, ?_⟩;have q':(w==4)=false:=by simpa using q
   simp[q3,aW,mB,m2,aB,mC,Com.eq_int,q',cO,bH]
 obtain⟨b2,w2⟩:=w2 (decide (r0<c));obtain⟨b,w3⟩:=w3 b2;have t:bG (aB 9) (ev st ip im n w d1 ys (some (.int i)) (some (.int j)) (some (.bl b))) HA=.ok b HA:=rfl;unfold oB;rw[bJ w1,bJ w2,bJ w3];unfold q4
 cases b with
 |false=>refine⟨some (.bl false),HA,ps, ?_,epA,.inl rfl,DA,fHA.mono (by simp)⟩;rw[jJ t];rfl
 |true=>
  have hyi:=sX (H:=HA) (ys:=ys) (k:=i) (by omega);have hyj:=sX (H:=HA) (ys:=ys) (k:=j) (by omega);generalize ys.getD i 0=va at hyi ⊢;generalize ys.getD j 0=vb at hyj ⊢;have hz:(ps.map aI).length<1000000:=by rw[bo];omega
  have fC:Fr [ip] HA (HA.set ip (.lst ((ps++[(va,vb)]).map aI))):=Fr.set;refine⟨some (.bl true),HA.set ip (.lst ((ps++[(va,vb)]).map aI)),ps++[(va,vb)], ?_,kQ epA,.inr rfl,DA.fr fC (DA.s.fr fC (by simpa using cm h3)) (by simpa using h5),(fHA.mono (T:=[st,ip]) (by simp)).trans fC (by simp)⟩;rw[oD t];have isP':iM (.ref ip) HA=true:=by simp[iM,epA]
  have happ:kM (.ref ip) (.tup [.int (va),.int (vb)]) HA=.ok .non (HA.set ip (.lst ((ps++[(va,vb)]).map aI))):=by simp only[kM,epA,hz,if_true,jb];rfl
  simp[eN,fT,aB,isP',aM,aA,m2,hyi,hyj,aC,lim,happ]
def yD:MS:=dS (aS jD (aA (m2 bD (aB 7) (mC (.int 1))) (aA (aB 2) aC))) (aG 8) oB
theorem z06 {H:Hs}{x8 x9:Option Dv}{ps:List (Int×Int)}{i:Nat}(D:Sd st im ms H) (ep:getL H ip=some (ps.map aI)) (hw:0<=w/\w<5) (hi:i<n) (hn:n<=6) (hy:ys.length=n) (hm:ms.length=n) (hl:ps.length<=500) (hb:qC ys n ps)
  (h2:im≠st) (h3:ip≠st) (h5:im≠ip):
  ∃(x8' x9':Option Dv) (H':Hs) (ps':List (Int×Int)),yD (ev st ip im n w d1 ys (some (.int i)) x8 x9) H=.nx (ev st ip im n w d1 ys (some (.int i)) x8' x9') H'/\getL H' ip=some (ps'.map aI)/\qC ys n ps'/\ps'.length<=ps.length+6/\Sd st im ms H'/\Fr [st,ip] H H':=by
 have hi0:aS jD (aA (m2 bD (aB 7) (mC (.int 1))) (aA (aB 2) aC)) (ev st ip im n w d1 ys (some (.int i)) x8 x9) H=.ok (cH ((i:Int)+1) n) H:=by have q:aA (m2 bD (aB 7) (mC (.int 1))) (aA (aB 2) aC) (ev st ip im n w d1 ys (some (.int i)) x8 x9) H=.ok [.int ((i:Int)+1),.int n] H:=rfl;unfold aS;rw[q,Rs.bind_ok];exact LP (by omega) (by omega) (by omega) (by omega)
 have hN:(cH ((i:Int)+1) (n:Int)).n=n - (i+1):=by show((n:Int) - ((i:Int)+1)).toNat=_;omega
 obtain⟨ρ',H',r1,x8',x9',ps',e1,e2,e3,e4,e5,e6⟩:=mO (b:=oB) (sg:=aG 8) hi0 (λk ρ H'=>∃(x8' x9':Option Dv) (ps':List (Int×Int)),ρ=ev st ip im n w d1 ys (some (.int i)) x8' x9'/\getL H' ip=some (ps'.map aI)/\qC ys n ps'/\ps'.length<=ps.length+k/\Sd st im ms H'/\Fr [st,ip] H H')
  (λk ρ H' hk ⟨x8',x9',ps',e1,e2,e3,e4,e5,e6⟩=>by
   subst e1;rw[hN]at hk;have hj:i+1+k<n:=by omega
   obtain⟨x9n,H2,ps2,b1,b2,b3,b4,b5⟩:=z05 (x9:=x9') (w:=w) (d1:=d1) (ip:=ip) (n:=n) (i:=i) (j:=i+1+k) (ys:=ys) e5 e2 hw hi hj hy hm (by omega) h2 h3 h5;have ej:(((i+1+k:Nat)):Int)=(i:Int)+1+(k:Int):=by omega
   rw[ej]at b1;refine⟨.int ((i:Int)+1+(k:Int)),ev st ip im n w d1 ys (some (.int i)) (some (.int ((i:Int)+1+(k:Int)))) x9',_,H2,rfl,rfl,b1,_,_,ps2,rfl,b2, ?_, ?_,b4,e6.trans b5 λj hj=>.inl hj⟩
   ·rcases b3 with rfl|rfl
    ·exact e3
    ·intro p hp
     rcases br.mp hp with hp|hp
     ·exact e3 p hp
     ·rw[cw.mp hp];exact⟨i,i+1+k,by omega,hj,rfl⟩
   ·rcases b3 with rfl|rfl
    ·omega
    ·rw[bw];simp;omega) (λ_ _ _=>rfl) ⟨x8,x9,ps,rfl,ep,hb,by omega,D,Fr.refl⟩
 rw[hN]at e4;exact⟨x8',x9',H',ps',by unfold yD;rw[r1,e1],e2,e3,by omega,e5,e6⟩
def DN:MS:=dS (aS cJ (aA (aB 2) aC)) (aG 7) yD
theorem z07 {H:Hs}{x7 x8 x9:Option Dv}(D:Sd st im ms H) (ep:getL H ip=some (([]:List (Int×Int)).map aI)) (hw:0<=w/\w<5) (hn:n<=6) (hy:ys.length=n) (hm:ms.length=n)
  (h2:im≠st) (h3:ip≠st) (h5:im≠ip):
  ∃(x7' x8' x9':Option Dv) (H':Hs) (ps':List (Int×Int)),DN (ev st ip im n w d1 ys x7 x8 x9) H=.nx (ev st ip im n w d1 ys x7' x8' x9') H'/\getL H' ip=some (ps'.map aI)/\qC ys n ps'/\ps'.length<=36/\Sd st im ms H'/\Fr [st,ip] H H':=by
 have hi0:aS cJ (aA (aB 2) aC) (ev st ip im n w d1 ys x7 x8 x9) H=.ok (cH 0 n) H:=by have q:aA (aB 2) aC (ev st ip im n w d1 ys x7 x8 x9) H=.ok [.int n] H:=rfl;unfold aS;rw[q,Rs.bind_ok];exact DG (by omega) (by omega)
 have hN:(cH 0 (n:Int)).n=n:=by simp[cH]
 obtain⟨ρ',H',r1,x7',x8',x9',ps',e1,e2,e3,e4,e5,e6⟩:=mO (b:=yD) (sg:=aG 7) hi0 (λk ρ H'=>∃(x7' x8' x9':Option Dv) (ps':List (Int×Int)),ρ=ev st ip im n w d1 ys x7' x8' x9'/\getL H' ip=some (ps'.map aI)/\qC ys n ps'/\ps'.length<=6*k/\Sd st im ms H'/\Fr [st,ip] H H')
  (λk ρ H' hk ⟨x7',x8',x9',ps',e1,e2,e3,e4,e5,e6⟩=>by
   subst e1;rw[hN]at hk;obtain⟨x8n,x9n,H2,ps2,b1,b2,b3,b4,b5,b6⟩:=z06 (x8:=x8') (x9:=x9') (w:=w) (d1:=d1) (ip:=ip) (n:=n) (i:=k) (ys:=ys) e5 e2 hw hk hn hy hm (by omega) e3 h2 h3 h5;have ek:(0:Int)+(k:Int)=(k:Int):=by omega
   refine⟨.int (0+(k:Int)),ev st ip im n w d1 ys (some (.int k)) x8' x9',_,H2,rfl,by rw[ek];rfl,b1,_,_,_,ps2,rfl,b2,b3,by omega,b5,e6.trans b6 λj hj=>.inl hj⟩) (λ_ _ _=>rfl) ⟨x7,x8,x9,[],rfl,ep,λp hp=>by simp at hp,by simp,D,Fr.refl⟩
 rw[hN]at e4;exact⟨x7',x8',x9',H',ps',by unfold DN;rw[r1,e1],e2,e3,by omega,e5,e6⟩
end
def LW:M (List Dv):=(aA (mC (.int 0)) (aA (mC (.int 0)) (aA (mC (.int 1)) (aA (mC (.int 0)) (aA (mC (.int 2)) (aA (mC (.int 1)) (aA (mC (.int 3)) (aA (m2 eC (aB 1) (mC (.int 1))) aC))))))))
def z1:MS:=aJ (m2 eC (aB 1) (m2 aQ (aR LW) (aE F_qv (aA (aB 0) (aA (mC (.int 8)) aC))))) (aG 2)
def z2:MS:=aJ (aE lF (aA (mC (.int 1)) (aA (aB 2) aC))) (aG 2)
def z3:MS:=aJ (aE F_qi (aA (aB 0) (aA (aB 2) aC))) (aG 3)
def z4:MS:=aJ (aE F_qv (aA (aB 0) (aA (mC (.int 5)) aC))) (aG 4)
def DO:M (List Dv):=bW (cI fQ (aB 3)) [none,some 0] (aG 0) dJ (bS (aE F_qv (aA (aB 1) (aA (mC (.int 3)) aC))))
def z5:MS:=aJ (bZ DO) (aG 5)
def z6:MS:=aJ (aR aC) (aG 6)
def z9:MS:=aO (aM (aA (aB 2) (aA (aE F_qf (aA (aB 2) (aA (aB 6) aC))) aC)))
theorem z08:wR=aL z1 (aL z2 (aL z3 (aL z4 (aL z5 (aL z6 (aL DN z9)))))):=rfl
section
variable{st:Nat}
theorem z09 {H:Hs}{x2 x3 x4 x5 x6 x7 x8 x9:Option Dv}(s:Com.St st H):∃(v:Int) (H':Hs),0<=v/\v<=5/\z1 [some (.ref st),some (.int 6),x2,x3,x4,x5,x6,x7,x8,x9] H=.nx [some (.ref st),some (.int 6),some (.int (6 - v)),x3,x4,x5,x6,x7,x8,x9] H'/\Com.St st H'/\Fr [st] H H':=by
 have fA:Fr [] H (H++[Ob.lst [.int 0,.int 0,.int 1,.int 0,.int 2,.int 1,.int 3,.int 5]]):=Fr.app;have eA:getL (H++[Ob.lst [.int 0,.int 0,.int 1,.int 0,.int 2,.int 1,.int 3,.int 5]]) H.length=some (([0,0,1,0,2,1,3,5]:List Int).map Dv.int):=by simp[getL]
 have sA:=s.fr fA (by simp);have lt:=s.lt;have hd:aR LW [some (.ref st),some (.int 6),x2,x3,x4,x5,x6,x7,x8,x9] H=.ok (.ref H.length) (H++[Ob.lst [.int 0,.int 0,.int 1,.int 0,.int 2,.int 1,.int 3,.int 5]]):=rfl;generalize H++[Ob.lst [.int 0,.int 0,.int 1,.int 0,.int 2,.int 1,.int 3,.int 5]]=HA at fA eA sA hd;obtain⟨r,H1,r0,r1,t1,f1,s1⟩:=iV 8 sA;have e1:=f1.getL eA (by simp;omega);obtain⟨k,rfl⟩:∃k:Nat,r=k:=⟨r.toNat,by omega⟩
 have hk:k<8:=by omega
 have hx:=DD e1 (k:=k) (by simpa using hk);have hv:0<=([0,0,1,0,2,1,3,5]:List Int)[k]/\([0,0,1,0,2,1,3,5]:List Int)[k]<=5:=by
  match k,hk with
  |0,_=>simp
  |1,_=>simp
  |2,_=>simp
  |3,_=>simp
  |4,_=>simp
  |5,_=>simp
  |6,_=>simp
  |7,_=>simp
 generalize ([0,0,1,0,2,1,3,5]:List Int)[k]=v at hx hv;refine⟨v,H1,hv.1,hv.2, ?_,s1,fA.mono (T:=[st]) (by simp) |>.trans f1 (by simp)⟩;have ht:aE F_qv (aA (aB 0) (aA (mC (.int 8)) aC)) [some (.ref st),some (.int 6),x2,x3,x4,x5,x6,x7,x8,x9] HA=.ok (.int k) H1:=by simp[aE,aA,aB,mC,aC,t1]
 unfold z1 aJ m2;show((Rs.ok (Dv.int 6) H).bind _).thenS _=_;rw[Rs.bind_ok,hd,Rs.bind_ok,ht,Rs.bind_ok,hx,Rs.bind_ok];rfl
theorem z0a {H:Hs}{ys:List Int}{x1 x2 x4 x5 x6 x7 x8 x9:Option Dv}(s:Com.St st H) (hl:ys.length<=100):∃(ms:List Int) (H':Hs),ms.length=ys.length/\z5 [some (.ref st),x1,x2,some (.tup (ys.map Dv.int)),x4,x5,x6,x7,x8,x9] H=.nx [some (.ref st),x1,x2,some (.tup (ys.map Dv.int)),x4,some (.ref H'.length),x6,x7,x8,x9] (H'++[.lst (ms.map Dv.int)])/\Com.St st H'/\Fr [st] H H':=by
 have hi:cI fQ (aB 3) [some (.ref st),x1,x2,some (.tup (ys.map Dv.int)),x4,x5,x6,x7,x8,x9] H=.ok (dI (ys.map Dv.int)) H:=rfl;obtain⟨ρ',H',acc',h1,a,ms,h2,h3,h4,h5,h6⟩:=vK (src:=dI (ys.map Dv.int)) (sg:=aG 0) (t:=dJ) (m:=bS (aE F_qv (aA (aB 1) (aA (mC (.int 3)) aC))))
  (λk ρ H' acc=>∃(a:Option Dv) (ms:List Int),ρ=[a,some (.ref st)]/\acc=ms.map Dv.int/\ms.length=k/\Com.St st H'/\Fr [st] H H')
  (λk ρ H' acc hk ⟨a,ms,e1,e2,e3,e4,e5⟩=>by
   subst e1;subst e2;have hk':k<ys.length:=by simpa[dI]using hk
   obtain⟨r,H1,r0,r1,t1,f1,s1⟩:=iV 3 e4;refine⟨.int ys[k],[some (.int ys[k]),some (.ref st)],by simp[dI,hk'],rfl,.inr ⟨H',[some (.int ys[k]),some (.ref st)],(ms++[r]).map Dv.int,H1,rfl, ?_,_,ms++[r],rfl,rfl,by simp[e3],s1,e5.trans f1 (by simp)⟩⟩;have hz:ms.length<1000000:=by omega
   simp[bS,aE,aA,aB,mC,aC,t1,hz]) (λρ H' acc _=>rfl) ys.length 0 [none,some (.ref st)] H [] (by simp[dI]) ⟨none,[],rfl,rfl,rfl,s,Fr.refl⟩
 refine⟨ms,H',by simpa[dI]using h4, ?_,h5,h6⟩;have hc:DO [some (.ref st),x1,x2,some (.tup (ys.map Dv.int)),x4,x5,x6,x7,x8,x9] H=.ok (ms.map Dv.int) H':=by unfold DO bW;rw[hi,Rs.bind_ok];have hcap:jW [none,some 0] [some (.ref st),x1,x2,some (.tup (ys.map Dv.int)),x4,x5,x6,x7,x8,x9]=[none,some (.ref st)]:=rfl;rw[hcap,show(dI (ys.map Dv.int)).n=ys.length by simp[dI],h1];dsimp only;rw[h3]
 unfold z5 aJ bZ;rw[hc];rfl
theorem z0b {H:Hs}(s:Com.St st H):∃(n:Nat) (cs:List (Int×Int)) (H':Hs),F_qj [.ref st,.int 6] H=.ok (aH n cs) H'/\OrdP n cs/\Com.St st H'/\Fr [st] H H':=by
 have lt:=s.lt;obtain⟨v,H1,v0,v1,w1,s1,f1'⟩:=z09 (x2:=none) (x3:=none) (x4:=none) (x5:=none) (x6:=none) (x7:=none) (x8:=none) (x9:=none) s;obtain⟨n,hn⟩:∃n:Nat,(6:Int) - v=n:=⟨(6 - v).toNat,by omega⟩
 have n1:1<=n:=by omega
 have n6:n<=6:=by omega
 rw[hn]at w1;have w2:z2 [some (.ref st),some (.int 6),some (.int n),none,none,none,none,none,none,none] H1=.nx [some (.ref st),some (.int 6),some (.int n),none,none,none,none,none,none,none] H1:=by
  have hm:lF [.int 1,.int (n:Int)] H1=.ok (.int n) H1:=by
   show Rs.ok (Dv.int (if(n:Int)>1 then(n:Int)else 1)) H1=_
   split
   ·rfl
   ·rw[show(1:Int)=n by omega]
  simp[z2,aJ,aE,aA,mC,aB,aC,hm,aG]
 obtain⟨ys,H2,t2,pm,s2,f2⟩:=u9 s1 n6;have hy:ys.length=n:=by rw[pm.length_eq];simp[bK]
 have w3:z3 [some (.ref st),some (.int 6),some (.int n),none,none,none,none,none,none,none] H1=.nx [some (.ref st),some (.int 6),some (.int n),some (.tup (ys.map Dv.int)),none,none,none,none,none,none] H2:=by generalize ys.map Dv.int=Y at t2;simp[z3,aJ,aE,aA,aB,aC,t2,aG]
 obtain⟨w,H3,w0,w5,t3,f3,s3⟩:=iV 5 s2;have w4:z4 [some (.ref st),some (.int 6),some (.int n),some (.tup (ys.map Dv.int)),none,none,none,none,none,none] H2=.nx [some (.ref st),some (.int 6),some (.int n),some (.tup (ys.map Dv.int)),some (.int w),none,none,none,none,none] H3:=by simp[z4,aJ,aE,aA,aB,mC,aC,t3,aG]
 obtain⟨ms,H4,hm,w6,s4,f4⟩:=z0a (ys:=ys) (x1:=some (.int 6)) (x2:=some (.int n)) (x4:=some (.int w)) (x5:=none) (x6:=none) (x7:=none) (x8:=none) (x9:=none) s3 (by omega);have fN:Fr [] H4 (H4++[Ob.lst (ms.map Dv.int)]):=Fr.app;have gN:getL (H4++[Ob.lst (ms.map Dv.int)]) H4.length=some (ms.map Dv.int):=by simp[getL]
 have l4:=s4.lt;obtain⟨im,him⟩:∃im,im=H4.length:=⟨_,rfl⟩
 rw[<-him]at w6 gN;have s5:=s4.fr fN (by simp);have hle5:(H4++[Ob.lst (ms.map Dv.int)]).length=im+1:=by simp[him]
 generalize H4++[Ob.lst (ms.map Dv.int)]=H5 at w6 gN s5 fN hle5;have w7:z6 [some (.ref st),some (.int 6),some (.int n),some (.tup (ys.map Dv.int)),some (.int w),some (.ref im),none,none,none,none] H5=.nx [some (.ref st),some (.int 6),some (.int n),some (.tup (ys.map Dv.int)),some (.int w),some (.ref im),some (.ref H5.length),none,none,none] (H5++[.lst []]):=rfl;have fM:Fr [] H5 (H5++[Ob.lst []]):=Fr.app;have eP:getL (H5++[Ob.lst []]) H5.length=some (([]:List (Int×Int)).map aI):=by simp[getL]
 have D:Sd st im ms (H5++[Ob.lst []]):=⟨s5.fr fM (by simp),fM.getL gN (by simp)⟩
 obtain⟨x7,x8,x9,H6,ps,w8,eP6,hb,hlp,D6,f6⟩:=z07 (d1:=.int 6) (w:=w) (ip:=H5.length) (n:=n) (ys:=ys) (x7:=none) (x8:=none) (x9:=none) D eP ⟨w0,w5⟩ n6 hy (by omega) (by omega) (by omega) (by omega);obtain⟨cs,H7,t7,o,f7⟩:=z04 n1 n6 eP6 (by omega) (u5 pm hb);have hfall:Fr [st] H H7:=by
  have g1:Fr [st] H H3:=(f1'.trans f2 (by simp)).trans f3 (by simp);have g2:Fr [st] H (H5++[Ob.lst []]):=((g1.trans f4 (by simp)).trans fN (by simp)).trans fM (by simp);refine(g2.trans f6 λj hj=>?_).trans f7 (by simp)
  rcases ba.mp hj with rfl|hj
  ·exact .inl (by simp)
  ·rw[cw.mp hj];have:=g1.le;have:=f4.le;right;omega
 refine⟨n,cs,H7, ?_,o,D6.s.fr f7 (by simp),hfall⟩;show aZ (wR [some (.ref st),some (.int 6),none,none,none,none,none,none,none,none] H)=_;rw[z08,bJ w1,bJ w2,bJ w3,bJ w4,bJ w6,bJ w7,bJ w8];have w9:z9 (ev st H5.length im n w (.int 6) ys x7 x8 x9) H6=.rt (aH n cs) H7:=by
  have h1:aE F_qf (aA (aB 2) (aA (aB 6) aC)) (ev st H5.length im n w (.int 6) ys x7 x8 x9) H6=.ok (.tup (cs.map aI)) H7:=by show(aA (aB 2) (aA (aB 6) aC) (ev st H5.length im n w (.int 6) ys x7 x8 x9) H6).bind _=_;have:aA (aB 2) (aA (aB 6) aC) (ev st H5.length im n w (.int 6) ys x7 x8 x9) H6=.ok [.int n,.ref H5.length] H6:=rfl;rw[this,Rs.bind_ok,t7]
  unfold z9 aO aM aA;show((((Rs.ok (Dv.int n) H6).bind _).bind _).thenS _)=_;rw[Rs.bind_ok];show(((((aE F_qf (aA (aB 2) (aA (aB 6) aC)) (ev st H5.length im n w (.int 6) ys x7 x8 x9) H6).bind _).bind _).bind _).thenS _)=_;rw[h1];rfl
 rw[w9];rfl
end
end L2.Mr.Cod
namespace L2.Mr.K01
open PySem PySem.Spec PyProof.Rows L2 L2.Mr L2.Mr.Com
end L2.Mr.K01
namespace L2.Mr.Com
open PySem PySem.Spec PyProof.Rows L2 L2.Mr
def T0 (H:Hs):Dv->Prop
 | .ref i=>∃xs,getL H i=some xs
 | .exc _=>False
 | .scr=>False
 |_=>True
def TK:Nat->Hs->Dv->Prop
 |0,H,d=>T0 H d
 |k+1,H,d=>T0 H d/\∀ds,d=.tup ds->ds.length<=500/\∀x∈ds,TK k H x
theorem TK.t0:∀{k:Nat}{H:Hs}{d:Dv},TK k H d->T0 H d
 |0,_,_,h=>h
 |_+1,_,_,h=>h.1
theorem TK.tup {k:Nat}{H:Hs}{ds:List Dv}(hl:ds.length<=500) (h:∀x∈ds,TK k H x):TK (k+1) H (.tup ds):=⟨trivial,λ_ e=>by cases e;exact⟨hl,h⟩⟩
theorem TK.of {k:Nat}{H:Hs}{d:Dv}(h0:T0 H d) (h:∀ds,d≠.tup ds):TK k H d:=by
 cases k with
 |zero=>exact h0
 |succ k=>exact⟨h0,λds e=>absurd e (h ds)⟩
theorem T0.fr {st:Nat}{H H':Hs}{d:Dv}(h:T0 H d) (f:Fr [st] H H') (s:St st H'):T0 H' d:=by
 cases d with
 |ref i=>
  obtain⟨xs,e⟩:=h
  by_cases c:i=st
  ·subst c;obtain⟨a,b,e⟩:=s;exact⟨_,e⟩
  ·exact⟨xs,f.getL e (by simpa using c)⟩
 |_=>exact h
theorem TK.fr {st:Nat}{H H':Hs}(f:Fr [st] H H') (s:St st H'):∀{k:Nat}{d:Dv},TK k H d->TK k H' d
 |0,_,h=>T0.fr h f s
 |k+1,_,h=>⟨h.1.fr f s,λds e=>⟨(h.2 ds e).1,λx hx=>TK.fr f s ((h.2 ds e).2 x hx)⟩⟩
def lT:Dv->Bool
 | .tup _=>true
 |_=>false
def isInt:Dv->Bool
 | .int _=>true
 |_=>false
section
variable{H:Hs}{d:Dv}{n:Int}
theorem yE (h:T0 H d):bF gS d H=.ok (.bl (lT d)) H:=by
 cases d with
 |ref i=>obtain⟨xs,e⟩:=h;simp[bF,gQ,e,gS,lT]
 |exc c=>exact h.elim
 |scr=>exact h.elim
 |_=>rfl
theorem LX (h:T0 H d):bF oA d H=.ok (.bl (match d with | .int _=>true | .bl _=>true|_=>false)) H:=by
 cases d with
 |ref i=>obtain⟨xs,e⟩:=h;simp[bF,gQ,e,oA]
 |exc c=>exact h.elim
 |scr=>exact h.elim
 |_=>rfl
theorem LY (h:T0 H d):bF kA d H=.ok (.bl (match d with | .bl _=>true|_=>false)) H:=by
 cases d with
 |ref i=>obtain⟨xs,e⟩:=h;simp[bF,gQ,e,kA]
 |exc c=>exact h.elim
 |scr=>exact h.elim
 |_=>rfl
theorem z0c (h:T0 H d):F_q2 [d] H=.ok (.bl (isInt d)) H:=by
 have e1:=LX h;have e2:=LY h
 cases d <;> simp[F_q2,wF,aU,bN,aO,cM,m1,aB,e1,e2,mF,aZ,isInt]
def kX (lo hi:Int):Dv->Bool
 | .int x=>decide (lo<=x)&&decide (x<=hi)
 |_=>false
theorem LZ {lo hi:Int}(h:T0 H d):F_qn [d,.int lo,.int hi] H=.ok (.bl (kX lo hi d)) H:=by
 have w:=z0c h
 cases d with
 |int x=>exact DB
 |_=>simp[F_qn,sD,aU,bN,aO,cM,aE,aA,aB,aC,w,isInt,aZ,kX]
def tB (n:Int) (d:Dv):Bool:=kX 0 (n - 1) d
theorem z0d (h:T0 H d):F_q1 [.int n,d] H=.ok (.bl (tB n d)) H:=by simp[F_q1,wG,aU,bN,aO,aE,aA,aB,aC,mC,m2,eC,gM,LZ h,aZ,tB]
def iW (n:Int):Dv->Bool
 | .tup ys=>ys.all (tB n)
 |_=>false
theorem L0 (h:TK 1 H d):F_qm [.int n,d] H=.ok (.bl (iW n d)) H:=by
 have e:=yE h.1
 cases d with
 |tup xs=>obtain⟨hl,hx⟩:=h.2 xs rfl;have h:bW (cI fQ (aB 1)) [none,some 0] (aG 0) dJ (bS (aE F_q1 (aA (aB 1) (aA (aB 0) aC)))) [some (.int n),some (.tup xs)] H=.ok (xs.filterMap λx=>some (.bl (tB n x))) H:=hY xs (λx=>some (.bl (tB n x))) (λρ=>∃a,ρ=[a,some (.int n)]) rfl (by simp[dI]) ⟨_,rfl⟩ rfl (λk hk ρ ⟨a,e⟩=>by subst e;exact⟨xs[k],_,by simp[dI,hk],rfl,⟨_,rfl⟩,rfl,by simp[aE,aA,aB,aC,z0d (hx xs[k] (dj hk))]⟩) (by omega);simp[F_qm,sE,aU,bN,aO,cM,m1,bF,aB,gQ,gS,oK h,aZ,iW]
 |_=>simp[F_qm,sE,aU,bN,aO,cM,m1,aB,e,lT,aZ,iW]
def pB (n:Int):Dv->Bool
 | .tup ys=>ys.all (tB n)&&decide (ys.length=2)
 |_=>false
theorem z0e (ys:List Dv):f1 bI [.tup ys] H=.ok (.int ys.length) H:=rfl
theorem z0f (h:TK 1 H d):F_q6 [.int n,d] H=.ok (.bl (pB n d)) H:=by
 have h1:=L0 (n:=n) h
 cases d with
 |tup ys=>
  cases q:ys.all (tB n)with
  |false=>simp[F_q6,oH,aU,bN,aO,cM,aE,aA,aB,aC,h1,iW,pB,q,aZ]
  |true=>
   have e:((ys.length:Int)==2)=decide (ys.length=2):=by rw[fj];simp;omega
   simp[F_q6,oH,aU,bN,aO,cM,aE,aA,aB,aC,h1,iW,pB,q,aZ,m2,z0e,mC,eq_int,e]
 |_=>simp[F_q6,oH,aU,bN,aO,cM,aE,aA,aB,aC,h1,iW,pB,aZ]
theorem z0g {xs:List Dv}(h:TK 2 H (.tup xs)):F_qx [.int n,.tup xs] H=.ok (.bl (xs.all (pB n))) H:=by obtain⟨hl,hx⟩:=h.2 xs rfl;have h:bW (cI fQ (aB 1)) [none,some 0] (aG 0) dJ (bS (aE F_q6 (aA (aB 1) (aA (aB 0) aC)))) [some (.int n),some (.tup xs)] H=.ok (xs.filterMap λp=>some (.bl (pB n p))) H:=hY xs (λp=>some (.bl (pB n p))) (λρ=>∃a,ρ=[a,some (.int n)]) rfl (by simp[dI]) ⟨_,rfl⟩ rfl (λk hk ρ ⟨a,e⟩=>by subst e;exact⟨xs[k],_,by simp[dI,hk],rfl,⟨_,rfl⟩,rfl,by simp[aE,aA,aB,aC,z0f (hx xs[k] (dj hk))]⟩) (by omega);simp[F_qx,wH,aU,bN,aO,oK h,aZ]
def oO:Dv->Option (Int×Int)
 | .tup [.int a,.int b]=>some (a,b)
 |_=>none
theorem z0h {x:Dv}(h:pB n x=true):∃p,x=aI p/\oO x=some p:=by
 match x,h with
 | .tup [.int a,.int b],_=>exact⟨(a,b),rfl,rfl⟩
 | .tup [a,b],h=>
  simp[pB]at h;obtain⟨h1,h2⟩:=h
  cases a <;> first|(cases h1;done)|skip
  cases b <;> first|(cases h2;done)|skip
  exact⟨_,rfl,rfl⟩
 | .tup [],h=>simp[pB]at h
 | .tup [_],h=>simp[pB]at h
 | .tup (_::_::_::_),h=>simp[pB]at h
theorem L6:∀{xs:List Dv},(∀x∈xs,∃p,x=aI p/\oO x=some p)->xs=(xs.filterMap oO).map aI
 | [],_=>rfl
 |x::xs,h=>by obtain⟨p,e,q⟩:=h x (by simp);rw[List.filterMap_cons_some q,dw,<-L6 λy hy=>h y (by simp[hy]),<-e]
def gU:Dv->Bool
 | .tup [.int n,.tup xs]=>xs.all (pB n)&&qB n (xs.filterMap oO)
 |_=>false
theorem eR {ds:List Dv}(h:ds.length≠2):∃L:Int,f1 bI [.tup ds] H=.ok (.int L) H/\cC (.int L) (.int 2) H=.ok (.bl true) H:=by
 refine⟨ds.length,rfl, ?_⟩;have:((ds.length:Int)==2)=false:=by simp;omega
 simp[cC,cB,bV,bM,this]
theorem DP {ds:List Dv}(h:ds.length≠2):F_q0 [.tup ds] H=.ok (.bl false) H:=by obtain⟨L,hlen,hne⟩:=eR (H:=H) h;have e:bF gS (.tup ds) H=.ok (.bl true) H:=rfl;simp[F_q0,mQ,aU,bN,aL,aW,dU,cA,bG,m1,aB,mB,m2,aE,aA,aC,mC,aO,e,eJ,hlen,hne,cO,aZ]
theorem DQ {ds:List Dv}(h:ds.length≠2):gU (.tup ds)=false:=by
 unfold gU
 split
 ·rename_i e;cases e;simp at h
 ·rfl
theorem z0i (h:TK 3 H d):F_q0 [d] H=.ok (.bl (gU d)) H:=by
 have e:=yE h.1
 cases d with
 |tup ds=>
  obtain⟨hl,hx⟩:=h.2 ds rfl
  match ds,hl,hx,e,h with
  | [a,b],hl,hx,e,h=>
   have ha:=hx a (by simp);have hb:=hx b (by simp);have b1:=LZ (lo:=1) (hi:=6) ha.t0;have b2:=yE hb.t0;have hlen:f1 bI [.tup [a,b]] H=.ok (.int 2) H:=rfl
   cases q1:kX 1 6 a with
   |false=>
    rw[q1]at b1;have:gU (.tup [a,b])=false:=by
     cases a with
     |int n=>
      cases b with
      |tup xs=>
       have:¬ (1<=n/\n<=6):=by simpa[kX]using q1
       simp only[gU,Bool.and_eq_false_iff];right;unfold qB
       by_cases c:1<=n
       ·have:¬ n<=6:=λc'=>this ⟨c,c'⟩;simp[this]
       ·simp[c]
      |_=>rfl
     |_=>rfl
    rw[this];simp[F_q0,mQ,aU,bN,aL,aW,dU,cA,bG,m1,aB,e,lT,eJ,mB,m2,aE,aA,aC,hlen,mC,cC,cB,bV,bM,cO,bH,aJ,fJ,cQ,aG,fP,b1,aO,aZ]
   |true=>
    rw[q1]at b1
    cases a with
    |int n=>
     cases b with
     |tup xs=>
      have p1:=z0g (n:=n) hb
      cases q2:xs.all (pB n)with
      |false=>rw[q2]at p1;simp[gU,q2,F_q0,mQ,aU,bN,aL,aW,dU,cA,bG,m1,aB,e,b2,lT,eJ,mB,m2,aE,aA,aC,hlen,mC,cC,cB,bV,bM,cO,bH,aJ,fJ,cQ,aG,fP,b1,p1,aO,aZ]
      |true=>
       have ex:=L6 λx hx=>z0h (gk.mp q2 x hx);have hle:(xs.filterMap oO).length<=900:=by have:=mz oO xs;have:=(hb.2 xs rfl).1;omega
       have:=LK (H:=H) (n:=n) (ps:=xs.filterMap oO) hle;rw[<-ex]at this;rw[this];simp[gU,q2]
     |_=>simp[gU,F_q0,mQ,aU,bN,aL,aW,dU,cA,bG,m1,aB,e,b2,lT,eJ,mB,m2,aE,aA,aC,hlen,mC,cC,cB,bV,bM,cO,bH,aJ,fJ,cQ,aG,fP,b1,aO,aZ]
    |_=>cases q1
  | [],hl,hx,e,h=>exact(DP (by simp)).trans (by rw[DQ (by simp)])
  | [a],hl,hx,e,h=>exact(DP (by simp)).trans (by rw[DQ (by simp)])
  |a::b::c::r,hl,hx,e,h=>exact(DP (by simp)).trans (by rw[DQ (by simp)])
 |_=>simp[F_q0,mQ,aU,bN,aL,aW,dU,cA,bG,m1,aB,e,lT,eJ,mC,aO,aZ,gU]
end
section
variable{H:Hs}{d:Dv}{n:Int}
end
section
variable{H:Hs}{d:Dv}
end
theorem T0.fr0 {H H':Hs}{d:Dv}(h:T0 H d) (f:Fr [] H H'):T0 H' d:=by
 cases d with
 |ref i=>obtain⟨xs,e⟩:=h;exact⟨xs,f.getL e (by simp)⟩
 |_=>exact h
theorem TK.fr0 {H H':Hs}(f:Fr [] H H'):∀{k:Nat}{d:Dv},TK k H d->TK k H' d
 |0,_,h=>T0.fr0 h f
 |k+1,_,h=>⟨h.1.fr0 f,λds e=>⟨(h.2 ds e).1,λx hx=>TK.fr0 f ((h.2 ds e).2 x hx)⟩⟩
def L7 (P:Ev->Hs->Prop):Prop:=∀ρ H H',P ρ H->Fr [] H H'->P ρ H'
def Wr (P:Ev->Hs->Prop) (k:Nat) (m:M Dv):Prop:=∀ρ H,P ρ H->∃d H',m ρ H=.ok d H'/\Fr [] H H'/\TK k H' d
def kY (P:Ev->Hs->Prop) (k n:Nat) (ms:M (List Dv)):Prop:=∀ρ H,P ρ H->∃ds H',ms ρ H=.ok ds H'/\Fr [] H H'/\ds.length=n/\∀x∈ds,TK k H' x
section
variable{P:Ev->Hs->Prop}{k n m':Nat}{m:M Dv}{ms:M (List Dv)}
theorem DR:kY P k 0 aC:=λρ H _=>⟨[],H,rfl,Fr.refl,rfl,λx hx=>by cases hx⟩
theorem DS (hP:L7 P) (h:Wr P k m) (hs:kY P k n ms):kY P k (n+1) (aA m ms):=λρ H p=>by
 obtain⟨d,H1,e1,f1,t1⟩:=h ρ H p;obtain⟨ds,H2,e2,f2,l2,t2⟩:=hs ρ H1 (hP ρ H H1 p f1);refine⟨d::ds,H2, ?_,f1.trans f2 (by simp),by simp[l2],λx hx=>?_⟩
 ·unfold aA;rw[e1,Rs.bind_ok,e2,Rs.bind_ok]
 ·rcases ba.mp hx with rfl|hx
  ·exact t1.fr0 f2
  ·exact t2 x hx
theorem sY (h:∀ρ H,P ρ H->∃d,m ρ H=.ok d H/\TK k H d):Wr P k m:=λρ H p=>let ⟨d,e,t⟩:=h ρ H p;⟨d,H,e,Fr.refl,t⟩
theorem DT {i:Int}:Wr P k (mC (.int i)):=sY λρ H _=>⟨_,rfl,TK.of trivial λ_ e=>by cases e⟩
theorem DU {i:Bool}:Wr P k (mC (.bl i)):=sY λρ H _=>⟨_,rfl,TK.of trivial λ_ e=>by cases e⟩
theorem DV:Wr P k (mC .non):=sY λρ H _=>⟨_,rfl,TK.of trivial λ_ e=>by cases e⟩
theorem DW {s}:Wr P k (mC (.str s)):=sY λρ H _=>⟨_,rfl,TK.of trivial λ_ e=>by cases e⟩
theorem DX:Wr P k (mC .edc):=sY λρ H _=>⟨_,rfl,TK.of trivial λ_ e=>by cases e⟩
theorem yF (h:kY P k n ms) (hn:n<=500):Wr P (k+1) (aM ms):=λρ H p=>by obtain⟨ds,H1,e1,f1,l1,t1⟩:=h ρ H p;refine⟨.tup ds,H1, ?_,f1,TK.tup (by omega) t1⟩;unfold aM lim;rw[e1,Rs.bind_ok,if_pos (by omega)]
theorem DY (h:kY P 0 n ms) (hn:n<=500):Wr P 0 (aM ms):=λρ H p=>let ⟨d,H',e,f,t⟩:=yF h hn ρ H p;⟨d,H',e,f,t.1⟩
theorem DZ (h:kY P 0 n ms) (hn:n<=500):Wr P k (aR ms):=λρ H p=>by obtain⟨ds,H1,e1,f1,l1,t1⟩:=h ρ H p;refine⟨.ref H1.length,H1++[.lst ds], ?_,f1.trans (T:=[]) Fr.app (by simp),TK.of ⟨ds,by simp[getL]⟩ λ_ e=>by cases e⟩;unfold aR lim;rw[e1,Rs.bind_ok,if_pos (by omega)]
end
theorem sZ {ρ:Ev}{H H1 H2:Hs}{st i j:Nat}{ml:M Dv}(hv:aB st ρ H=.ok (.ref i) H) (e1:ml ρ H=.ok (.ref j) H1) (e2:bD (.ref i) (.ref j) H1=.ok (.ref H1.length) H2):m2 bD (aB st) ml ρ H=.ok (.ref H1.length) H2:=by unfold m2;rw[hv,Rs.bind_ok,e1,Rs.bind_ok,e2]
end L2.Mr.Com
namespace L2.Mr.Cod
open PySem PySem.Spec PyProof.Rows L2 L2.Mr
open L2.Mr.Com
section
variable{H:Hs}
theorem z0j {n:Nat}{x:Int}:F_qu (n+1) [.int x,.int x] H=.ok (.bl true) H:=by simp[F_qu,wL,aU,bN,aL,aW,bG,m1,bF,aB,gQ,rP,eJ,bH,aO,cM,m2,dB,cB,bV,bM,kA,aZ]
theorem qE {i j:Nat}{xs ys:List Dv}(e1:getL H i=some xs) (e2:getL H j=some ys) (hl:xs.length+ys.length<=500):bD (.ref i) (.ref j) H=.ok (.ref H.length) (H++[.lst (xs++ys)]):=by simp[bD,nG,e1,e2,lim];omega
theorem oP {i j:Nat}{ds:List Dv}(e:getL H i=some ds) (hj:j<ds.length):aQ (.ref i) (.int j) H=.ok ds[j] H:=by
 have h1:ixN ds.length (j:Int)=some j:=by unfold ixN;rw[if_pos (by omega),if_pos (by omega)];simp
 have h2:eY ds (j:Int)=some ds[j]:=by unfold eY;rw[h1];simp[hj]
 simp only[aQ,dQ,fH,e,iI,h2,if_true]
theorem dG {x:List Dv}:getL (H++[.lst x]) H.length=some x:=by simp[getL]
end
def tD:M (List Dv):=(aA (mC .non) (aA (aM aC) (aA (aM (aA (mC (.int 0)) (aA (aM aC) aC))) (aA (aM (aA (mC (.int 7)) (aA (aM aC) aC))) (aA (aM (aA (mC (.bl true)) (aA (aM aC) aC))) (aA (aM (aA (mC (.int 2)) (aA (aR (aA (aM (aA (mC (.int 0)) (aA (mC (.int 1)) aC))) aC)) aC))) (aA (aM (aA (mC (.int 2)) (aA (aM (aA (aM (aA (mC (.int 1)) (aA (mC (.int 0)) aC))) (aA (aM (aA (mC (.int 0)) (aA (mC (.int 1)) aC))) aC))) aC))) (aA (aM (aA (mC (.int 2)) (aA (aM (aA (aM (aA (mC (.int 0)) (aA (mC (.int 0)) aC))) aC)) aC))) (aA (aR (aA (mC (.int 2)) (aA (aM aC) aC))) aC)))))))))
def tE:M (List Dv):=(aA (aM (aA (mC (.int 3)) (aA (aM (aA (aM (aA (mC (.int 0)) (aA (mC (.int 1)) aC))) (aA (aM (aA (mC (.int 1)) (aA (mC (.int 2)) aC))) aC))) aC))) (aA (aM (aA (mC (.int 2)) (aA (aM (aA (aM (aA (mC (.int 0)) (aA (mC (.int 1)) aC))) (aA (aM (aA (mC (.int 0)) (aA (mC (.int 1)) aC))) aC))) aC))) (aA (aM (aA (mC (.int 2)) (aA (aM (aA (aM (aA (mC (.int 0)) (aA (mC (.int 2)) aC))) aC)) aC))) (aA (aM (aA (mC (.int 2)) (aA (aM (aA (aM (aA (mC (.int 0)) (aA (mC (.bl true)) aC))) aC)) aC))) (aA (aM (aA (mC (.int 2)) aC)) (aA (aM (aA (mC (.int 2)) (aA (aM aC) (aA (aM aC) aC)))) aC))))))
def tF:M (List Dv):=(aA (aM (aA (mC (.int 3)) (aA (aM (aA (aM (aA (mC (.int 0)) (aA (mC (.int 2)) aC))) (aA (aM (aA (mC (.int 0)) (aA (mC (.int 1)) aC))) aC))) aC))) (aA (mC (.str "2: 0<1")) (aA (mC .edc) (aA (aM (aA (mC (.int 2)) (aA (aM (aA (aM (aA (mC (.int 0)) (aA (mC (.int 1)) (aA (mC (.int 1)) aC)))) aC)) aC))) (aA (aM (aA (mC (.int 2)) (aA (aM (aA (aM (aA (mC (.int 0)) (aA (mC (.int 1)) aC))) (aA (aM (aA (mC (.int 1)) (aA (mC (.int 0)) aC))) aC))) aC))) aC)))))
theorem z0k:wV=aL (aJ (aR tD) (aG 1)) (aL (aJ (m2 bD (aB 1) (aR tE)) (aG 1)) (aL (aJ (m2 bD (aB 1) (aR tF)) (aG 1)) (aO (m2 aQ (aB 1) (aE F_qv (aA (aB 0) (aA (mC (.int 20)) aC))))))):=rfl
theorem z0l {ρ:Ev}{H H':Hs}{ds:List Dv}(e:tD ρ H=.ok ds H'):∀x∈ds,gU x=false:=by
 have e2:Rs.ok _ _=Rs.ok ds H':=e;injection e2 with e3 e4;subst e3
 repeat' (first|exact vf _|refine uv.mpr ⟨rfl, ?_⟩)
theorem z0m {ρ:Ev}{H H':Hs}{ds:List Dv}(e:tE ρ H=.ok ds H'):∀x∈ds,gU x=false:=by
 have e2:Rs.ok _ _=Rs.ok ds H':=e;injection e2 with e3 e4;subst e3
 repeat' (first|exact vf _|refine uv.mpr ⟨rfl, ?_⟩)
theorem z0n {ρ:Ev}{H H':Hs}{ds:List Dv}(e:tF ρ H=.ok ds H'):∀x∈ds,gU x=false:=by
 have e2:Rs.ok _ _=Rs.ok ds H':=e;injection e2 with e3 e4;subst e3
 repeat' (first|exact vf _|refine uv.mpr ⟨rfl, ?_⟩)
def MnB (n:Nat) (H:Hs) (i:Nat):Prop:=∃ds,getL H i=some ds/\ds.length=n/\(∀x∈ds,TK 3 H x)/\∀x∈ds,gU x=false
section
variable{n m:Nat}{H H':Hs}{i j:Nat}
theorem MnB.fr0 (h:MnB n H i) (f:Fr [] H H'):MnB n H' i:=by obtain⟨ds,e,l,t,b⟩:=h;exact⟨ds,f.getL e (by simp),l,λx hx=>(t x hx).fr0 f,b⟩
theorem MnB.fr {st:Nat}(h:MnB n H i) (f:Fr [st] H H') (s:Com.St st H') (hi:i≠st):MnB n H' i:=by obtain⟨ds,e,l,t,b⟩:=h;exact⟨ds,f.getL e (by simpa using hi),l,λx hx=>(t x hx).fr f s,b⟩
theorem EA {ms:M (List Dv)}{ρ:Ev}(h:kY (λ_ _=>True) 3 n ms) (hb:∀{ρ:Ev}{H H':Hs}{ds:List Dv},ms ρ H=.ok ds H'->∀x∈ds,gU x=false) (hn:n<=500):∃i H',aR ms ρ H=.ok (.ref i) H'/\MnB n H' i/\Fr [] H H'/\H.length<=i:=by obtain⟨ds,H1,e1,f1,l1,t1⟩:=h ρ H trivial;refine⟨H1.length,H1++[.lst ds], ?_,⟨ds,dG,l1,λx hx=>(t1 x hx).fr0 Fr.app,hb e1⟩,f1.trans (T:=[]) Fr.app (by simp),f1.le⟩;unfold aR lim;rw[e1,Rs.bind_ok,if_pos (by omega)]
theorem L8 (a:MnB n H i) (b:MnB m H j) (hn:n+m<=500):∃H',bD (.ref i) (.ref j) H=.ok (.ref H.length) H'/\MnB (n+m) H' H.length/\Fr [] H H':=by
 obtain⟨ds,e1,l1,t1,b1⟩:=a;obtain⟨es,e2,l2,t2,b2⟩:=b;refine⟨_,qE e1 e2 (by omega),⟨ds++es,dG,by simp[l1,l2],λx hx=>?_,λx hx=>?_⟩,Fr.app⟩
 ·rcases br.mp hx with hx|hx
  ·exact(t1 x hx).fr0 Fr.app
  ·exact(t2 x hx).fr0 Fr.app
 ·rcases br.mp hx with hx|hx
  ·exact b1 x hx
  ·exact b2 x hx
end
theorem z0o {st:Nat}{H:Hs}(s:Com.St st H):∃d H',F_qb [.ref st] H=.ok d H'/\TK 3 H' d/\gU d=false/\Com.St st H'/\Fr [st] H H':=by
 have hP:L7 λ_ _=>True:=λ_ _ _ _ _=>trivial;have lt:=s.lt;have k1:kY (λ_ _=>True) 3 9 tD:=(by
   unfold tD
   repeat' (first|exact DR|apply DS hP|exact DT|exact DU|exact DV|exact DW|exact DX|apply yF|apply DY|apply DZ)
   all_goals decide)
 have k2:kY (λ_ _=>True) 3 6 tE:=(by
   unfold tE
   repeat' (first|exact DR|apply DS hP|exact DT|exact DU|exact DV|exact DW|exact DX|apply yF|apply DY|apply DZ)
   all_goals decide)
 have k3:kY (λ_ _=>True) 3 5 tF:=(by
   unfold tF
   repeat' (first|exact DR|apply DS hP|exact DT|exact DU|exact DV|exact DW|exact DX|apply yF|apply DY|apply DZ)
   all_goals decide)
 obtain⟨i1,H1,e1,m1,f1,l1⟩:=EA (ρ:=[some (.ref st),none]) (H:=H) k1 z0l (by decide);obtain⟨j2,H2,e2,m2',f2,l2⟩:=EA (ρ:=[some (.ref st),some (.ref i1)]) (H:=H1) k2 z0m (by decide);obtain⟨H3,e3,m3,f3⟩:=L8 (m1.fr0 f2) m2' (by decide);obtain⟨j4,H4,e4,m4,f4,l4⟩:=EA (ρ:=[some (.ref st),some (.ref H2.length)]) (H:=H3) k3 z0n (by decide);obtain⟨H5,e5,m5,f5⟩:=L8 (m3.fr0 f4) m4 (by decide);have g:Fr [] H H5:=(((f1.trans f2 (by simp)).trans f3 (by simp)).trans f4 (by simp)).trans f5 (by simp);obtain⟨r,H6,r0,r1,t6,f6,s6⟩:=iV 20 (s.fr g (by simp));have hle:H.length<=H4.length:=((f1.trans (f2.trans (f3.trans f4 (by simp)) (by simp)) (by simp)):Fr [] H H4).le;obtain⟨ds,e7,l7,t7,b7⟩:=m5.fr f6 s6 (by omega);obtain⟨j,rfl⟩:∃j:Nat,r=j:=⟨r.toNat,by omega⟩
 have hj:j<ds.length:=by omega
 have e8:=oP e7 hj;refine⟨ds[j],H6, ?_,t7 _ (dj hj),b7 _ (dj hj),s6,(g.mono (T:=[st]) (by simp)).trans f6 (by simp)⟩;show aZ (wV [some (.ref st),none] H)=_;have w1:aJ (aR tD) (aG 1) [some (.ref st),none] H=.nx [some (.ref st),some (.ref i1)] H1:=by unfold aJ;rw[e1];rfl
 have w2:aJ (L2.Mr.m2 bD (aB 1) (aR tE)) (aG 1) [some (.ref st),some (.ref i1)] H1=.nx [some (.ref st),some (.ref H2.length)] H3:=by unfold aJ;rw[sZ rfl e2 e3];rfl
 have w3:aJ (L2.Mr.m2 bD (aB 1) (aR tF)) (aG 1) [some (.ref st),some (.ref H2.length)] H3=.nx [some (.ref st),some (.ref H4.length)] H5:=by unfold aJ;rw[sZ rfl e4 e5];rfl
 rw[z0k,bJ w1,bJ w2,bJ w3];simp[aO,L2.Mr.m2,aB,aE,aA,mC,aC,t6,e8,aZ]
end L2.Mr.Cod
namespace L2.Mr
open PySem PySem.Spec PyProof.Rows L2
end L2.Mr
namespace L2.Mr.Cod
open PySem PySem.Spec PyProof.Rows L2 L2.Mr
open L2.Mr.Com
def iE (ps:List (Int×Int)) (a:Nat):Nat->List (Int×Int)
 |0=>[]
 |k+1=>iE ps a k++if((a:Int),(a:Int)+1+(k:Int))∈ps∨((a:Int)+1+(k:Int),(a:Int))∈ps then[]else[((a:Int),(a:Int)+1+(k:Int))]
def iX (n:Nat) (ps:List (Int×Int)):Nat->List (Int×Int)
 |0=>[]
 |k+1=>iX n ps k++iE ps k (n - (k+1))
def eM (n:Nat) (ps:List (Int×Int)):List (Int×Int):=iX n ps n
theorem EC (ps:List (Int×Int)) (a:Nat):∀k,(iE ps a k).length<=k
 |0=>ak _
 |k+1=>by
  have:=EC ps a k;unfold iE
  split <;> simp <;> omega
theorem L9 (n:Nat) (ps:List (Int×Int)):∀k,(iX n ps k).length<=k*n
 |0=>by simp[iX]
 |k+1=>by have h1:=L9 n ps k;have h2:=EC ps k (n - (k+1));unfold iX;rw[bw,Cd];omega
section
variable{n:Nat}{ps:List (Int×Int)}{i:Nat}
def mW:MS:=aW (eI (mB (m2 (cZ true) (aM (aA (aB 2) (aA (aB 3) aC))) (m2 aQ (aB 0) (mC (.int 1))))) (mB (m2 (cZ true) (aM (aA (aB 3) (aA (aB 2) aC))) (m2 aQ (aB 0) (mC (.int 1)))))) (eN (fT (aB 1) (aM (aA (aB 2) (aA (aB 3) aC))))) bH
theorem z0p {H:Hs}{a b:Int}{acc:List (Int×Int)}(e:getL H i=some (acc.map aI)) (hl:acc.length<1000):
  mW [some (aH n ps),some (.ref i),some (.int a),some (.int b)] H=.nx [some (aH n ps),some (.ref i),some (.int a),some (.int b)] (H.set i (.lst ((acc++if(a,b)∈ps∨(b,a)∈ps then[]else[(a,b)]).map aI))):=by
 have self:H.set i (.lst (acc.map aI))=H:=by
  apply qu
  intro k
  by_cases hk:i=k
  ·subst hk;rw[dk (pT e),eG e]
  ·rw[fq hk]
 have t1:∀(x y:Int),mB (m2 (cZ true) (λ_ h=>.ok (aI (x,y)) h) (λ_ h=>.ok (.tup (ps.map aI)) h)) [] H=.ok (!decide ((x,y)∈ps)) H:=λx y=>by simp[mB,m2,iS,cO]
 have hl':acc.length<1000000:=by omega
 by_cases h1:(a,b)∈ps
 ·simp[mW,aW,eI,mB,m2,aM,aA,aB,aC,lim,mC,mV];rw[show Dv.tup [.int a,.int b]=aI (a,b) from rfl,iS];simp[h1,cO,bH,self]
 ·by_cases h2:(b,a)∈ps
  ·simp[mW,aW,eI,mB,m2,aM,aA,aB,aC,lim,mC,mV];rw[show Dv.tup [.int a,.int b]=aI (a,b) from rfl,show Dv.tup [.int b,.int a]=aI (b,a) from rfl,iS];simp[h1,cO,iS,h2,bH,self]
  ·simp[mW,aW,eI,mB,m2,aM,aA,aB,aC,lim,mC,mV];rw[show Dv.tup [.int a,.int b]=aI (a,b) from rfl,show Dv.tup [.int b,.int a]=aI (b,a) from rfl,iS];simp only[h1,Rs.bind_ok,cO,iS];simp[h2,h1,eN,fT,aB,iM,e,aM,aA,aC,lim,kM,hl'];rfl
theorem z0q {a:Nat}{x3:Option Dv}{H:Hs}{acc:List (Int×Int)}(hn:n<=10) (ha:a<n) (hl:acc.length<=200) (e:getL H i=some (acc.map aI)):
  ∃y3,dS (aS jD (aA (m2 bD (aB 2) (mC (.int 1))) (aA (m2 aQ (aB 0) (mC (.int 0))) aC))) (aG 3) mW [some (aH n ps),some (.ref i),some (.int a),x3] H =
   .nx [some (aH n ps),some (.ref i),some (.int a),y3] (H.set i (.lst ((acc++iE ps a (n - (a+1))).map aI))):=by
 have hi:aS jD (aA (m2 bD (aB 2) (mC (.int 1))) (aA (m2 aQ (aB 0) (mC (.int 0))) aC)) [some (aH n ps),some (.ref i),some (.int a),x3] H=.ok (cH ((a:Int)+1) n) H:=by have q:aA (m2 bD (aB 2) (mC (.int 1))) (aA (m2 aQ (aB 0) (mC (.int 0))) aC) [some (aH n ps),some (.ref i),some (.int a),x3] H=.ok [.int ((a:Int)+1),.int n] H:=rfl;unfold aS;rw[q,Rs.bind_ok];exact LP (by omega) (by omega) (by omega) (by omega)
 have hN:(cH ((a:Int)+1) n).n=n - (a+1):=by show((n:Int) - ((a:Int)+1)).toNat=_;omega
 obtain⟨ρ',H',h1,y3,h2,h3⟩:=mO (b:=mW) (sg:=aG 3) hi (λk ρ H'=>∃y3,ρ=[some (aH n ps),some (.ref i),some (.int a),y3]/\H'=H.set i (.lst ((acc++iE ps a k).map aI)))
  (λk ρ H' hk ⟨y3,e1,e2⟩=>by
   subst e1;subst e2;have e':getL (H.set i (.lst ((acc++iE ps a k).map aI))) i=some ((acc++iE ps a k).map aI):=kQ e;refine⟨.int ((a:Int)+1+(k:Int)),_,_,_,rfl,rfl,z0p e' (by have:=EC ps a k;rw[bw];omega),_,rfl, ?_⟩;rw[List.set_set,iE,wm]) (λ_ _ _=>rfl) ⟨x3,rfl,by
   have self:H.set i (.lst (acc.map aI))=H:=by
    apply qu
    intro k
    by_cases hk:i=k
    ·subst hk;rw[dk (pT e),eG e]
    ·rw[fq hk]
   rw[iE,kr,self]⟩
 rw[hN]at h3;exact⟨y3,by rw[h1,h2,h3]⟩
theorem z0r {H:Hs}(hn:n<=10):F_qh [aH n ps] H=.ok (.ref H.length) (H++[.lst ((eM n ps).map aI)]):=by
 have e0:getL (H++[.lst []]) H.length=some (([]:List (Int×Int)).map aI):=by simp[getL]
 have w0:aJ (aR aC) (aG 1) [some (aH n ps),none,none,none] H=.nx [some (aH n ps),some (.ref H.length),none,none] (H++[.lst []]):=rfl;have hi:aS cJ (aA (m2 aQ (aB 0) (mC (.int 0))) aC) [some (aH n ps),some (.ref H.length),none,none] (H++[.lst []])=.ok (cH 0 n) (H++[.lst []]):=by have q:aA (m2 aQ (aB 0) (mC (.int 0))) aC [some (aH n ps),some (.ref H.length),none,none] (H++[.lst []])=.ok [.int n] (H++[.lst []]):=rfl;unfold aS;rw[q,Rs.bind_ok];exact DG (by omega) (by omega)
 have hN:(cH 0 (n:Int)).n=n:=by simp[cH]
 obtain⟨ρ',H',h1,y2,y3,h2,h3⟩:=mO (b:=dS (aS jD (aA (m2 bD (aB 2) (mC (.int 1))) (aA (m2 aQ (aB 0) (mC (.int 0))) aC))) (aG 3) mW) (sg:=aG 2) hi
  (λk ρ H'=>∃y2 y3,ρ=[some (aH n ps),some (.ref H.length),y2,y3]/\H'=H++[.lst ((iX n ps k).map aI)])
  (λk ρ H' hk ⟨y2,y3,e1,e2⟩=>by
   subst e1;subst e2;rw[hN]at hk;have e':getL (H++[.lst ((iX n ps k).map aI)]) H.length=some ((iX n ps k).map aI):=by simp[getL]
   have hb:(iX n ps k).length<=200:=by have h1:=L9 n ps k;have h2:k*n<=10*10:=An (by omega) hn;omega
   obtain⟨z3,hz⟩:=z0q (x3:=y3) (ps:=ps) hn hk hb e';refine⟨.int (0+(k:Int)),[some (aH n ps),some (.ref H.length),some (.int (k:Int)),y3],_,_,rfl,by simp[aG],hz,_,_,rfl, ?_⟩;rw[VO,iX];rfl) (λ_ _ _=>rfl) ⟨none,none,rfl,rfl⟩
 rw[hN]at h3;show aZ (wU [some (aH n ps),none,none,none] H)=_;have z:wU [some (aH n ps),none,none,none] H=.rt (.ref H.length) (H++[.lst ((eM n ps).map aI)]):=by show aL (aJ (aR aC) (aG 1)) (aL (dS (aS cJ (aA (m2 aQ (aB 0) (mC (.int 0))) aC)) (aG 2) (dS (aS jD (aA (m2 bD (aB 2) (mC (.int 1))) (aA (m2 aQ (aB 0) (mC (.int 0))) aC))) (aG 3) mW)) (aO (aB 1))) _ _=_;rw[bJ w0,bJ h1,h2,h3];rfl
 rw[z];rfl
end
def oQ (ps:List (Int×Int)) (a b:Int):Prop:=a≠b/\(a,b)∉ps/\(b,a)∉ps
instance (ps:List (Int×Int)) (a b:Int):Decidable (oQ ps a b):=by unfold oQ;infer_instance
theorem mem_looseB {ps:List (Int×Int)}{a:Nat}{q:Int×Int}:∀{k:Nat},q∈iE ps a k↔∃j,j<k/\q=((a:Int),(a:Int)+1+(j:Int))/\q∉ps/\(q.2,q.1)∉ps
 |0=>by simp[iE]
 |k+1=>by
  unfold iE;rw[br,mem_looseB (k:=k)];constructor
  ·rintro (⟨j,hj,h⟩|h)
   ·exact⟨j,by omega,h⟩
   ·split at h
    ·simp at h
    ·rename_i c;rw[cw]at h;subst h;exact⟨k,by omega,rfl,λz=>c (.inl z),λz=>c (.inr z)⟩
  ·rintro ⟨j,hj,h,h1,h2⟩
   by_cases q:j=k
   ·subst q;right;subst h;rw[if_neg (λz=>z.elim h1 h2)];simp
   ·exact .inl ⟨j,by omega,h,h1,h2⟩
theorem MA {n:Nat}{ps:List (Int×Int)}{q:Int×Int}:∀{k:Nat},q∈iX n ps k↔∃a,a<k/\q∈iE ps a (n - (a+1))
 |0=>by simp[iX]
 |k+1=>by
  unfold iX;rw[br,MA (k:=k)];constructor
  ·rintro (⟨a,ha,h⟩|h)
   ·exact⟨a,by omega,h⟩
   ·exact⟨k,by omega,h⟩
  ·rintro ⟨a,ha,h⟩
   by_cases q:a=k
   ·subst q;exact .inr h
   ·exact .inl ⟨a,by omega,h⟩
theorem mem_loose {n:Nat}{ps:List (Int×Int)}{q:Int×Int}:q∈eM n ps↔0<=q.1/\q.1<q.2/\q.2<n/\oQ ps q.1 q.2:=by
 unfold eM;rw[MA];constructor
 ·rintro ⟨a,ha,h⟩
  obtain⟨j,hj,rfl,h1,h2⟩:=mem_looseB.mp h;exact⟨by omega,by simp only;omega,by simp only;omega,by simp only[ne_eq];omega,h1,h2⟩
 ·rintro ⟨h0,h1,h2,_,h3,h4⟩
  refine⟨q.1.toNat,by omega,mem_looseB.mpr ⟨(q.2 - q.1 - 1).toNat,by omega, ?_,h3,h4⟩⟩
  apply Prod.ext <;> simp only <;> omega
section
variable{n:Nat}{ps:List (Int×Int)}{r:Int}{fs:List Int}
end
section
variable{n:Nat}{ps:List (Int×Int)}{r:Int}{fs:List Int}
end
section
variable{n:Nat}{ps:List (Int×Int)}{r:Int}{H:Hs}
theorem z0s {a b:Int}:F_qw [aH n ps,.int a,.int b] H=.ok (.bl (decide (oQ ps a b))) H:=by
 have h1:=mV (n:=n) (ps:=ps) H;have t1:=iS true H (a,b) ps;have t2:=iS true H (b,a) ps;simp only[aI,if_true]at t1 t2;have hne:cC (.int a) (.int b) H=.ok (.bl (!(a==b))) H:=by simp[cC,cB,bV,bM]
 generalize aH n ps=d at h1;simp only[oQ]
 by_cases c0:a=b
 ·subst c0;simp[F_qw,sF,aU,bN,aL,aJ,m2,aB,mC,h1,aG,aO,cM,hne,aZ]
 ·have c0':(a==b)=false:=by simpa using c0
  by_cases c1:(a,b)∈ps
  ·simp[F_qw,sF,aU,bN,aL,aJ,m2,aB,mC,h1,aG,aO,cM,hne,c0',aM,aA,aC,lim,t1,c1,aZ]
  ·simp[F_qw,sF,aU,bN,aL,aJ,m2,aB,mC,h1,aG,aO,cM,hne,c0',c0,aM,aA,aC,lim,t1,c1,t2,aZ]
end
section
variable{n:Nat}{ps:List (Int×Int)}{r:Int}{H:Hs}{i j:Nat}{fs:List Int}{nd:List (Int×Int×Int)}
end
section
variable{n:Nat}{ps:List (Int×Int)}{r:Int}{H:Hs}{i j:Nat}{fs:List Int}{nd:List (Int×Int×Int)}{d:Dv}
theorem z0t (o:OrdP n ps):F_qo [aH n ps] H=.ok .non H:=by simp[F_qo,wN,aU,bN,aW,cA,bG,aE,aA,aB,aC,p8 o,eJ,bH,aZ]
theorem z0u (h:TK 3 H d) (hb:gU d=false):F_qo [d] H=.ex 0 H:=by have e:=z0i h;rw[hb]at e;simp[F_qo,wN,aU,bN,aW,cA,bG,aE,aA,aB,aC,e,eJ,uW,mC,aZ]
end
end L2.Mr.Cod
namespace L2.Mr.K60
open PySem PySem.Spec PyProof.Rows L2 L2.Mr L2.Mr.Cod
open L2.Mr.Com
theorem yG {t u:M Bool}{ρ:Ev}{h h1:Hs}(e:t ρ h=.ok true h1):dU t u ρ h=.ok true h1:=by unfold dU;rw[e];rfl
theorem oR {t u:M Bool}{ρ:Ev}{h h1:Hs}(e:t ρ h=.ok false h1):dU t u ρ h=u ρ h1:=by unfold dU;rw[e];rfl
theorem kZ {t:M Bool}{ρ:Ev}{h h1:Hs}{b:Bool}(e:t ρ h=.ok b h1):cA t ρ h=.ok (!b) h1:=by unfold cA;rw[e];rfl
theorem qF (xs ys:List Dv) (hl:xs.length+ys.length<=1000) {H:Hs}:bD (.tup xs) (.tup ys) H=.ok (.tup (xs++ys)) H:=by
 cases xs with
 |nil=>rfl
 |cons x xs=>
  have:(x::xs).length+ys.length<=1000000:=by omega
  have:xs.length+1+ys.length<=1000000:=by simp at this;omega
  simp[bD,nG,lim,this]
theorem yH (ds:List Dv) (k:Nat):gH ds none (some (k:Int))=ds.take k:=by unfold gH;rw[HT.sIx_none,HT.sIx_nat];simp
theorem ED (ds:List Dv) (k:Nat):gH ds (some (k:Int)) none=ds.drop k:=by
 unfold gH;rw[HT.sIx_none,HT.sIx_nat]
 by_cases h:k<=ds.length
 ·rw[Nat.min_eq_left h];exact oi (by simp)
 ·rw[Nat.min_eq_right (by omega),Bm (ak _),Bm (by omega)];simp
def bY (ns:List Int):List (Int×Int):=ns.zip (ns.drop 1++ns.take 1)
def bX (ns:List Int):List (Int×Int):=(ns.drop (ns.length - 1)++ns.take (ns.length - 1)).zip ns
theorem MB {ns:List Int}(h:ns≠[]):∃q r,bX ns=q::r/\bY ns=r++[q]:=by
 obtain⟨x,xs,rfl⟩:=List.exists_cons_of_ne_nil h;have hl:(x::xs).length - 1=xs.length:=by simp
 have e:=pq h;generalize hy:(x::xs).dropLast=ys at e;generalize (x::xs).getLast h=l at e;have hyl:ys.length=xs.length:=by rw[<-hy];simp
 refine⟨(l,x),ys.zip xs, ?_, ?_⟩
 ·unfold bX;rw[hl];have d1:(x::xs).drop xs.length=[l]:=by rw[<-e,<-hyl];simp
  have d2:(x::xs).take xs.length=ys:=by rw[<-e,<-hyl];simp
  rw[d1,d2];rfl
 ·unfold bY;show(x::xs).zip (xs++[x])=_;rw[<-e,List.zip_append hyl];rfl
theorem qG (ns:List Int):(bY ns).length=ns.length:=by simp[bY];omega
section
variable{n:Nat}{ps:List (Int×Int)}{H:Hs}
theorem MD {ns:List Int}(hl:ns.length<=500):F_q5 [.tup (ns.map Dv.int)] H=.ok (.ref H.length) (H++[.lst ((bY ns).map aI)]):=by
 have c1:=LJ (ns.map Dv.int);have c2:gH (ns.map Dv.int) none (some 1)=(ns.map Dv.int).take 1:=yH _ 1;have a:=qF ((ns.map Dv.int).drop 1) ((ns.map Dv.int).take 1) (by simp;omega) (H:=H);have e:sG (ns.map Dv.int) ((ns.map Dv.int).drop 1++(ns.map Dv.int).take 1)=(bY ns).map aI:=by unfold sG bY;rw[<-rh,<-rf,<-jb,List.zip_map,qd];rfl
 have hz:(ns.map Dv.int).length<=1000:=by simp;omega
 generalize ns.map Dv.int=ds at c1 c2 a e hz;simp only[List.drop_one]at c1 a e;simp[F_q5,BR,aU,bN,aO,aE,aA,aB,aC,m2,dO,cY,dM,mC,lK,kS,c1,c2,a,wZ,hz,e,aZ]
def lA (ps:List (Int×Int)) (q:Int×Int):Bool:=decide (q∈ps)||decide (oQ ps q.1 q.2)
theorem z0v {a b:Int}:F_q3 [aH n ps,.int a,.int b] H=.ok (.bl (lA ps (a,b))) H:=by
 have h1:=mV (n:=n) (ps:=ps) H;have t1:=iS false H (a,b) ps;simp only[aI,bj,if_false]at t1;have t2:=z0s (n:=n) (ps:=ps) (H:=H) (a:=a) (b:=b);generalize aH n ps=d at h1 t2;unfold lA
 by_cases c:(a,b)∈ps
 ·simp[F_q3,xA,aU,bN,aO,uI,m2,aM,aA,aB,aC,lim,mC,h1,t1,c,aZ]
 ·simp[F_q3,xA,aU,bN,aO,uI,m2,aM,aA,aB,aC,lim,mC,h1,t1,c,aE,t2,aZ]
theorem ME {a b:Int}:F_qs [aH n ps,.int a,.int b] H=.ok (.bl (!(a==b)&&!decide ((b,a)∈ps))) H:=by
 have h1:=mV (n:=n) (ps:=ps) H;have t1:=iS true H (b,a) ps;simp only[aI,if_true]at t1;have hne:cC (.int a) (.int b) H=.ok (.bl (!(a==b))) H:=by simp[cC,cB,bV,bM]
 generalize aH n ps=d at h1
 by_cases c:a=b
 ·subst c;simp[F_qs,xC,aU,bN,aO,cM,m2,aB,hne,aZ]
 ·have c':(a==b)=false:=by simpa using c
  simp[F_qs,xC,aU,bN,aO,cM,m2,aB,hne,c',aM,aA,aC,lim,mC,h1,t1,aZ]
theorem OrdP.anti (o:OrdP n ps) {a b:Int}(h1:(a,b)∈ps) (h2:(b,a)∈ps):False:=o.irr _ (o.tr _ h1 _ h2 rfl) rfl
theorem MF (o:OrdP n ps) (a b:Int):lA ps (a,b)=(!(a==b)&&!decide ((b,a)∈ps)):=by
 unfold lA oQ
 by_cases c:(a,b)∈ps
 ·have n1:a≠b:=o.irr _ c;have n2:(b,a)∉ps:=λz=>OrdP.anti o c z;simp[c,n1,n2]
 ·by_cases e:a=b
  ·subst e;simp[c]
  ·simp[c,e]
def lB (ps:List (Int×Int)) (ns:List Int):Bool:=decide (2<=ns.length)&&decide ns.Nodup&&(bY ns).all (lA ps)
def eF (n:Nat) (ps:List (Int×Int)) (d:Dv):Bool:=match d with
 | .tup ds=>iW n d&&(match bU hJ ds with
  |some ns=>lB ps ns
  |none=>false)
 |_=>false
theorem qH (ns:List Int):bU hJ (ns.map Dv.int)=some ns:=by
 induction ns with
 |nil=>rfl
 |cons x xs ih=>simp[bU,hJ,ih]
theorem tG {n:Int}:∀{ds:List Dv},ds.all (Com.tB n)=true->∃ns:List Int,ds=ns.map Dv.int/\∀x∈ns,0<=x/\x<n
 | [],_=>⟨[],rfl,λ_ z=>nomatch z⟩
 |d::ds,h=>by
  rw[vj,cy]at h;obtain⟨ns,rfl,h2⟩:=tG h.2
  cases d with
  |int i=>
   have h1:=h.1;simp only[Com.tB,kX,cy,decide_eq_true_eq]at h1;refine⟨i::ns,rfl,λx hx=>?_⟩
   rcases ba.mp hx with rfl|hx
   ·omega
   ·exact h2 x hx
  |_=>simp[Com.tB,kX]at h
theorem MG (o:OrdP n ps) {d:Dv}(h:TK 1 H d):∃H',F_q7 [aH n ps,d] H=.ok (.bl (eF n ps d)) H'/\Fr [] H H':=by
 have hn:=z0t (H:=H) o;have h0:=sP (n:=n) (ps:=ps) H;have ha:=L0 (n:=(n:Int)) h;have run:∀(b:Bool) (H':Hs),dU (cA (bG (aE F_qm (aA (m2 aQ (aB 0) (mC (.int 0))) (aA (aB 1) aC))))) (dU (mB (m2 dF (aE (f1 bI) (aA (aB 1) aC)) (mC (.int 2)))) (mB (m2 cC (aE (f1 kF) (aA (aB 1) aC)) (aE (f1 bI) (aA (aB 1) aC))))) [some (aH n ps),some d] H=.ok b H->
   (b=true->H'=H/\eF n ps d=false)->(b=false->mL fR (bW (cI fK (aE F_q5 (aA (aB 1) aC))) [none,none,some 0] (fJ 2 (cQ (aG 0) (cQ (aG 1) fP))) dJ (bS (aE F_q3 (aA (aB 2) (aA (aB 0) (aA (aB 1) aC)))))) [some (aH n ps),some d] H=.ok (.bl (eF n ps d)) H')->
   F_q7 [aH n ps,d] H=.ok (.bl (eF n ps d)) H':=λb H' hb h1 h2=>by
  have hx:eN (aE F_qo (aA (aB 0) aC)) [some (aH n ps),some d] H=.nx [some (aH n ps),some d] H:=by generalize aH n ps=z at hn;simp[eN,aE,aA,aB,aC,hn]
  show aZ (sH [some (aH n ps),some d] H)=_;unfold sH;rw[bJ hx]
  cases b with
  |true=>obtain⟨rfl,e⟩:=h1 rfl;unfold aL;rw[oD hb,e];rfl
  |false=>rw[bJ (m:=aW _ _ _) (by rw[jJ hb];rfl)];unfold aO;rw[h2 rfl];rfl
 have t1:bG (aE F_qm (aA (m2 aQ (aB 0) (mC (.int 0))) (aA (aB 1) aC))) [some (aH n ps),some d] H=.ok (iW n d) H:=by generalize aH n ps=z at h0;simp[bG,aE,aA,m2,aB,mC,aC,h0,ha,eJ]
 cases ht:iW n d with
 |false=>
  refine⟨H,run true H ?_ (λ_=>⟨rfl, ?_⟩) (λz=>nomatch z),Fr.refl⟩
  ·rw[ht]at t1;exact yG (kZ t1)
  ·cases d with
   |tup ds=>simp[eF,ht]
   |_=>rfl
 |true=>
  rw[ht]at t1
  cases d with
  |tup ds=>
   obtain⟨hl,_⟩:=h.2 ds rfl;obtain⟨ns,rfl,hr⟩:=tG (show ds.all (Com.tB n)=true from ht);have hl':ns.length<=500:=by simpa using hl
   have hB:eF n ps (.tup (ns.map Dv.int))=lB ps ns:=by simp[eF,ht,qH]
   have sl:kF (.tup (ns.map Dv.int)) H=.ok (.int (kT ns)) H:=by
    have:ns.length<1000:=by omega
    simp[kF,qH,this]
   have hm:=KY ns;have t2:mB (m2 dF (aE (f1 bI) (aA (aB 1) aC)) (mC (.int 2))) [some (aH n ps),some (.tup (ns.map Dv.int))] H=.ok (decide (ns.length<2)) H:=by
    have hle:((ns.length:Int)<2)↔(ns.length<2):=by omega
    simp[mB,m2,aE,aA,aB,aC,mC,f1,bI,dQ,fI,eB,dF,cO,hle]
   have t3:mB (m2 cC (aE (f1 kF) (aA (aB 1) aC)) (aE (f1 bI) (aA (aB 1) aC))) [some (aH n ps),some (.tup (ns.map Dv.int))] H=.ok (!decide (ns.Nodup)) H:=by
    have hd:(((kT ns:Nat):Int)==(ns.length:Int))=decide ns.Nodup:=by
     rw[fj];simp only[beq_iff_eq,decide_eq_true_eq];constructor
     ·intro z;exact hm.mp (by omega)
     ·intro z;rw[hm.mpr z]
    simp[mB,m2,aE,aA,aB,aC,f1,sl,bI,dQ,fI,eB,cC,cB,bV,bM,cO,hd]
   by_cases c:2<=ns.length/\ns.Nodup
   ·have eS:=MD (ns:=ns) (H:=H) (by omega);have g1:getL (H++[Ob.lst ((bY ns).map aI)]) H.length=some ((bY ns).map aI):=dG;have w:bW (cI fK (aE F_q5 (aA (aB 1) aC))) [none,none,some 0] (fJ 2 (cQ (aG 0) (cQ (aG 1) fP))) dJ (bS (aE F_q3 (aA (aB 2) (aA (aB 0) (aA (aB 1) aC))))) [some (aH n ps),some (.tup (ns.map Dv.int))] H=.ok ((bY ns).filterMap λq=>some (.bl (lA ps q))) (H++[.lst ((bY ns).map aI)]):=hY (bY ns) (λq=>some (.bl (lA ps q))) (λρ=>∃a b,ρ=[a,b,some (aH n ps)]) (src:=eQ H.length ((bY ns).map aI).length) (by simp[cI,aE,aA,aB,aC,eS,fK,g1]) (by simp[eQ]) ⟨_,_,rfl⟩ (by simp[eQ,g1]) (λk hk ρ ⟨a,b,e⟩=>by subst e;refine⟨aI (bY ns)[k],[some (.int (bY ns)[k].1),some (.int (bY ns)[k].2),some (aH n ps)],by simp[eQ,g1,hk],rfl,⟨_,_,rfl⟩,rfl, ?_⟩;have:=z0v (n:=n) (ps:=ps) (a:=(bY ns)[k].1) (b:=(bY ns)[k].2) (H:=H++[Ob.lst ((bY ns).map aI)]);generalize aH n ps=z at this;simp[aE,aA,aB,aC,this]) (by rw[qG];omega);refine⟨H++[.lst ((bY ns).map aI)],run false _ ?_ (λz=>nomatch z) (λ_=>?_),Fr.app⟩
    ·have c1:decide (ns.length<2)=false:=by have:=c.1;simp;omega
     rw[c1]at t2;rw[oR (kZ t1),oR t2,t3];simp[c.2]
    ·rw[oK w,hB];simp[lB,c.1,c.2]
   ·refine⟨H,run true H ?_ (λ_=>⟨rfl, ?_⟩) (λz=>nomatch z),Fr.refl⟩
    ·rw[oR (kZ t1)]
     by_cases c1:ns.length<2
     ·exact yG (by rw[t2];simp[c1])
     ·have c3:¬ ns.Nodup:=λz=>c ⟨by have:=c1;omega,z⟩;have c1':decide (ns.length<2)=false:=by simpa using c1
      rw[c1']at t2;rw[oR t2,t3];simp[c3]
    ·rw[hB];unfold lB
     by_cases c1:2<=ns.length
     ·have c3:¬ ns.Nodup:=λz=>c ⟨c1,z⟩;simp[c3]
     ·simp[c1]
  |_=>cases ht
end
section
variable{n:Nat}{ps:List (Int×Int)}{H:Hs}
theorem yI {m:M Dv}{ρ:Ev}{H:Hs}{L:Int}(e:m ρ H=.ok (.int L) H) (h0:0<=L) (h1:L<=1000):aS cJ (aA m aC) ρ H=.ok (cH 0 L) H:=by
 have hr:jU L=true:=by simp[jU];omega
 simp[aS,aA,e,aC,cJ,hr]
theorem z0w {m:M (List Dv)}{ρ:Ev}{H H1:Hs}{i:Nat}{b:Bool}(ea:bZ m ρ H=.ok (.ref i) H1) (q:dB (.ref i) (.ref H1.length) (H1++[.lst []])=.ok (.bl b) (H1++[.lst []])):aZ (aO (m2 dB (bZ m) (aR aC)) ρ H)=.ok (.bl b) (H1++[.lst []]):=by generalize bZ m=M at ea;simp[aO,m2,ea,aR,aC,lim,q,aZ]
theorem tH {ds:List Dv}{i:Nat}{ρ:Ev}(e:aB i ρ H=.ok (.tup ds) H):aE (f1 bI) (aA (aB i) aC) ρ H=.ok (.int ds.length) H:=by simp[aE,aA,e,aC,f1,bI,dQ,fI,eB]
theorem mX (ns:List Int):(bX ns).length=ns.length:=by simp[bX]
theorem MH {ns:List Int}{k:Nat}(hk:k<(bX ns).length):(bX ns)[k].2=ns.getD k 0:=by
 have hk':k<ns.length:=by rw[mX]at hk;exact hk
 simp[bX,hk']
theorem z0x {ns:List Int}{k:Nat}(hk:k<(bX ns).length):(bX ns)[k].1=if k=0 then ns.getD (ns.length - 1) 0 else ns.getD (k - 1) 0:=by
 have hk':k<ns.length:=by rw[mX]at hk;exact hk
 simp only[bX,List.getElem_zip]
 by_cases c:k=0
 ·subst c;rw[if_pos rfl,List.getElem_append_left (by simp;omega)];have:ns.length - 1<ns.length:=by omega
  simp[this]
 ·rw[if_neg c,List.getElem_append_right (by simp;omega)];have e:k - (ns.drop (ns.length - 1)).length=k - 1:=by simp;omega
  have:k - 1<ns.length:=by omega
  simp only[e];simp[this]
theorem MI {ns:List Int}(h:ns≠[]):aQ (.tup (ns.map Dv.int)) (.int (-1)) H=.ok (.int (ns.getD (ns.length - 1) 0)) H:=by
 have hl:0<ns.length:=List.length_pos_iff.mpr h;have h1:ns.length - 1<ns.length:=by omega
 have e1:L2.ixN (ns.map Dv.int).length (-1)=some (ns.length - 1):=by
  unfold L2.ixN;rw[bo,if_neg (by omega),if_pos (by omega)]
  congr 1;omega
 have e2:eY (ns.map Dv.int) (-1)=some (.int (ns.getD (ns.length - 1) 0)):=by unfold eY;rw[e1];simp[h1]
 simp only[aQ,dQ,fH,iI,e2,if_true]
theorem MJ {ns:List Int}{k:Nat}(hk:k<(bX ns).length):aQ (.tup (ns.map Dv.int)) (.int ((k:Int) - 1)) H=.ok (.int (bX ns)[k].1) H:=by
 have hk':k<ns.length:=by rw[mX]at hk;exact hk
 rw[z0x hk]
 by_cases c:k=0
 ·subst c;rw[if_pos rfl];exact MI (λz=>by rw[z]at hk';cases hk')
 ·rw[if_neg c,show(k:Int) - 1=((k - 1:Nat):Int)by omega];exact sX (by omega)
theorem z0y {d:Dv}(h:T0 H d):F_ql [d] H=.ok (.bl (Com.isInt d)) H:=by
 have a:=LX h;have b:=LY h
 cases d <;> simp[F_ql,BS,aU,bN,aO,cM,m1,aB,a,b,mF,Com.isInt,aZ]
def q1:M Bool:=dU (cA (bG (m1 (bF gS) (aB 1)))) (mB (m2 dF (aE (f1 bI) (aA (aB 1) aC)) (mC (.int 2))))
def q2:M (List Dv):=bW (cI fQ (aB 1)) [none,some 0] (aG 0) dJ (bS (cM (aE F_ql (aA (aB 0) aC)) (jQ jZ vD (mC (.int 0)) (aB 0) (m2 aQ (aB 1) (mC (.int 0))))))
def q3:M Bool:=mB (m2 dF (aE (f1 kF) (aA (aB 1) aC)) (aE (f1 bI) (aA (aB 1) aC)))
def q4:M (List Dv):=bW (aS cJ (aA (aE (f1 bI) (aA (aB 1) aC)) aC)) [none,some 0,some 1] (aG 0) (cA (bG (aE F_qs (aA (aB 1) (aA (m2 aQ (aB 2) (m2 eC (aB 0) (mC (.int 1)))) (aA (m2 aQ (aB 2) (aB 0)) aC)))))) (bS (aB 0))
theorem EE:pZ=aL (aW q1 (aO (mC (.bl false))) bH) (aL (aW (dU (cA (bG (mL fR q2))) q3) (aO (mC (.bl false))) bH) (aO (m2 dB (bZ q4) (aR aC)))):=rfl
theorem z0z {ds:List Dv}(h:TK 1 H (.tup ds)):mL fR q2 [some (aH n ps),some (.tup ds)] H=.ok (.bl (iW n (.tup ds))) H:=by
 obtain⟨hl,hx⟩:=h.2 ds rfl;have h0:=λH=>sP (n:=n) (ps:=ps) H;have w:q2 [some (aH n ps),some (.tup ds)] H=.ok (ds.filterMap λx=>some (.bl (Com.tB n x))) H:=
  hY ds (λx=>some (.bl (Com.tB n x))) (λρ=>∃a,ρ=[a,some (aH n ps)]) rfl (by simp[dI]) ⟨_,rfl⟩ rfl (λk hk ρ ⟨a,e⟩=>by
   subst e;refine⟨ds[k],_,by simp[dI,hk],rfl,⟨_,rfl⟩,rfl, ?_⟩;have hw:=z0y (hx ds[k] (dj hk)).t0;generalize ds[k]=d at hw;have h0':=h0 H;generalize aH n ps=z at h0'
   cases d with
   |int i=>
    by_cases c:0<=i
    ·have e2:(decide (i<(n:Int)))=decide (i<=(n:Int) - 1):=by rw[fj];simp;omega
     simp[cM,aE,aA,aB,aC,hw,Com.isInt,jQ,mC,jZ,gM,c,m2,h0',vD,Com.tB,kX,e2]
    ·simp[cM,aE,aA,aB,aC,hw,Com.isInt,jQ,mC,jZ,gM,c,Com.tB,kX]
   |_=>simp[cM,aE,aA,aB,aC,hw,Com.isInt,Com.tB,kX]) (by omega)
 rw[oK w];rfl
theorem z11 {ns:List Int}(hl:ns.length<=500):q4 [some (aH n ps),some (.tup (ns.map Dv.int))] H=.ok (((bf ns.length).filter λk=>!(let q:=(bX ns).getD k (0,0);!(q.1==q.2)&&!decide ((q.2,q.1)∈ps))).map λk=>Dv.int (k:Nat)) H:=by
 have hz:(ns.map Dv.int).length=ns.length:=by simp
 have w:q4 [some (aH n ps),some (.tup (ns.map Dv.int))] H=.ok ((bf ns.length).filterMap λk=>if(let q:=(bX ns).getD k (0,0);!(q.1==q.2)&&!decide ((q.2,q.1)∈ps))then none else some (.int (k:Nat))) H:=
  hY (bf ns.length) _ (λρ=>∃a,ρ=[a,some (aH n ps),some (.tup (ns.map Dv.int))]) (src:=cH 0 ns.length) (by
   have:=yI (tH (H:=H) (ds:=ns.map Dv.int) (i:=1) (ρ:=[some (aH n ps),some (.tup (ns.map Dv.int))]) rfl) (by omega) (by rw[hz];omega);rw[hz]at this;exact this) (by simp[cH]) ⟨_,rfl⟩ rfl (λk hk ρ ⟨a,e⟩=>by
    subst e;have hk':k<ns.length:=by simpa using hk
    have hk2:k<(bX ns).length:=by rw[mX];exact hk'
    refine⟨.int (0+k),[some (.int (0+k)),some (aH n ps),some (.tup (ns.map Dv.int))],rfl,rfl,⟨_,rfl⟩, ?_⟩;have i1:=MJ (H:=H) hk2;have i2:=sX (H:=H) hk';rw[<-MH hk2]at i2;have g:=ME (n:=n) (ps:=ps) (a:=(bX ns)[k].1) (b:=(bX ns)[k].2) (H:=H);have eg:(bX ns).getD k (0,0)=(bX ns)[k]:=by simp[hk2]
    have h00:(0+(k:Int))=(k:Int):=by omega
    rw[nq,eg,h00];generalize (bX ns)[k]=q at i1 i2 g;generalize aH n ps=z at g;generalize ns.map Dv.int=ys at i1 i2;have hs:eC (.int (k:Int)) (.int 1) H=.ok (.int ((k:Int) - 1)) H:=rfl
    cases c:(!(q.1==q.2)&&!decide ((q.2,q.1)∈ps))with
    |true=>rw[c]at g;simp[cA,bG,aE,aA,aB,aC,m2,mC,hs,i1,i2,g,eJ]
    |false=>rw[c]at g;simp[cA,bG,aE,aA,aB,aC,m2,mC,hs,i1,i2,g,eJ]) (by simp;omega)
 have fl:∀(g:Nat->Bool) (l:List Nat),(l.filterMap λk=>if g k then none else some (Dv.int (k:Nat)))=(l.filter λk=>!g k).map λk=>Dv.int (k:Nat):=λg l=>by
  induction l with
  |nil=>rfl
  |cons k l ih=>
   rw[cb,List.filter_cons]
   cases c:g k with
   |true=>simp only[if_true,my,bj,if_false];exact ih
   |false=>simp only[bj,if_false,zf,if_true,dw];rw[<-ih]
 exact w.trans (congrArg (λl=>Rs.ok l H) (fl _ _))
theorem z12 (o:OrdP n ps) {ns:List Int}(h:ns≠[]):(decide (((bf ns.length).filter λk=>!(let q:=(bX ns).getD k (0,0);!(q.1==q.2)&&!decide ((q.2,q.1)∈ps)))=[]))=(bY ns).all (lA ps):=by
 obtain⟨q,r,e1,e2⟩:=MB h;have a:(bY ns).all (lA ps)=(bX ns).all (lA ps):=by rw[e1,e2,List.all_append,vj,vj,List.all_nil,Bool.and_true,Bool.and_comm]
 rw[a,fj,decide_eq_true_eq,List.filter_eq_nil_iff,gk];constructor
 ·intro z p hp;obtain⟨k,hk,rfl⟩:=jh hp;have:=z k (by rw[bp,<-mX];exact hk);have eg:(bX ns).getD k (0,0)=(bX ns)[k]:=by simp[hk]
  rw[eg]at this;have g:=MF o (bX ns)[k].1 (bX ns)[k].2;rw[show((bX ns)[k].1,(bX ns)[k].2)=(bX ns)[k] from rfl]at g;rw[g];simpa using this
 ·intro z k hk;rw[bp,<-mX]at hk;have eg:(bX ns).getD k (0,0)=(bX ns)[k]:=by simp[hk]
  have this:=z _ (dj hk);have g:=MF o (bX ns)[k].1 (bX ns)[k].2;rw[show((bX ns)[k].1,(bX ns)[k].2)=(bX ns)[k] from rfl]at g;rw[g]at this;rw[eg];simpa using this
theorem z13 (o:OrdP n ps) {d:Dv}(h:TK 1 H d):∃H',F_qd [aH n ps,d] H=.ok (.bl (eF n ps d)) H'/\Fr [] H H':=by
 have ht:=yE h.1;have stop:∀b,b=true->q1 [some (aH n ps),some d] H=.ok b H->eF n ps d=false->∃H',F_qd [aH n ps,d] H=.ok (.bl (eF n ps d)) H'/\Fr [] H H':=λb hb e z=>by subst hb;refine⟨H, ?_,Fr.refl⟩;show aZ (pZ [some (aH n ps),some d] H)=_;rw[EE,z];unfold aL;rw[oD e];rfl
 cases d with
 |tup ds=>
  have t1:bG (m1 (bF gS) (aB 1)) [some (aH n ps),some (.tup ds)] H=.ok true H:=by simp[bG,m1,aB,ht,lT,eJ]
  have t2:mB (m2 dF (aE (f1 bI) (aA (aB 1) aC)) (mC (.int 2))) [some (aH n ps),some (.tup ds)] H=.ok (decide (ds.length<2)) H:=by
   have hle:((ds.length:Int)<2)↔(ds.length<2):=by omega
   simp[mB,m2,aE,aA,aB,aC,mC,f1,bI,dQ,fI,eB,dF,cO,hle]
  have e1:q1 [some (aH n ps),some (.tup ds)] H=.ok (decide (ds.length<2)) H:=by unfold q1;rw[oR (kZ t1),t2]
  obtain⟨hl,_⟩:=h.2 ds rfl
  by_cases c2:ds.length<2
  ·refine stop _ (by simpa using c2) e1 ?_
   cases ha:iW n (.tup ds)with
   |false=>simp[eF,ha]
   |true=>
    obtain⟨ns,rfl,_⟩:=tG (show ds.all (Com.tB n)=true from ha);have:¬ 2<=ns.length:=by simp at c2;omega
    simp[eF,ha,qH,lB,this]
  ·have e1':q1 [some (aH n ps),some (.tup ds)] H=.ok false H:=by rw[e1];simp[c2]
   have w1:aW q1 (aO (mC (.bl false))) bH [some (aH n ps),some (.tup ds)] H=.nx [some (aH n ps),some (.tup ds)] H:=by rw[jJ e1'];rfl
   have t3:bG (mL fR q2) [some (aH n ps),some (.tup ds)] H=.ok (iW n (.tup ds)) H:=by unfold bG;rw[z0z h];rfl
   have stop2:dU (cA (bG (mL fR q2))) q3 [some (aH n ps),some (.tup ds)] H=.ok true H->eF n ps (.tup ds)=false->∃H',F_qd [aH n ps,.tup ds] H=.ok (.bl (eF n ps (.tup ds))) H'/\Fr [] H H':=λe z=>by refine⟨H, ?_,Fr.refl⟩;show aZ (pZ [some (aH n ps),some (.tup ds)] H)=_;rw[EE,z,bJ w1];unfold aL;rw[oD e];rfl
   cases ha:iW n (.tup ds)with
   |false=>rw[ha]at t3;exact stop2 (yG (kZ t3)) (by simp[eF,ha])
   |true=>
    rw[ha]at t3;obtain⟨ns,rfl,hr⟩:=tG (show ds.all (Com.tB n)=true from ha);have hl':ns.length<=500:=by simpa using hl
    have hB:eF n ps (.tup (ns.map Dv.int))=lB ps ns:=by simp[eF,ha,qH]
    have sl:kF (.tup (ns.map Dv.int)) H=.ok (.int (kT ns)) H:=by
     have:ns.length<1000:=by omega
     simp[kF,qH,this]
    have hm:=KY ns;have hml:kT ns<=ns.length:=firstMet_length_le _ _;have e3:q3 [some (aH n ps),some (.tup (ns.map Dv.int))] H=.ok (!decide ns.Nodup) H:=by
     have hd:decide (kT ns<ns.length)=!decide ns.Nodup:=by
      rw[fj];simp only[decide_eq_true_eq,Bool.not_eq_true',decide_eq_false_iff_not];constructor
      ·intro z y;have:=hm.mpr y;omega
      ·intro z;have:kT ns≠ns.length:=λy=>z (hm.mp y);omega
     unfold q3;simp[mB,m2,aE,aA,aB,aC,f1,sl,bI,dQ,fI,eB,dF,cO,hd]
    have l2:2<=ns.length:=by simp at c2;omega
    by_cases nd:ns.Nodup
    ·have w2:aW (dU (cA (bG (mL fR q2))) q3) (aO (mC (.bl false))) bH [some (aH n ps),some (.tup (ns.map Dv.int))] H=.nx [some (aH n ps),some (.tup (ns.map Dv.int))] H:=by
      have e5:dU (cA (bG (mL fR q2))) q3 [some (aH n ps),some (.tup (ns.map Dv.int))] H=.ok false H:=by rw[oR (kZ t3),e3];simp[nd]
      rw[jJ e5];rfl
     have e4:=z11 (n:=n) (ps:=ps) (ns:=ns) (H:=H) hl';have as:=z12 o (ns:=ns) (λz=>by rw[z]at l2;simp at l2);generalize hx:((bf ns.length).filter λk=>!(let q:=(bX ns).getD k (0,0);!(q.1==q.2)&&!decide ((q.2,q.1)∈ps)))=xs at e4 as;have hm2:(xs.map λk=>Dv.int (k:Nat))=(xs.map λk:Nat=>(k:Int)).map Dv.int:=by simp
     have g1:getL (H++[Ob.lst (xs.map λk=>Dv.int (k:Nat))]) H.length=some ((xs.map λk:Nat=>(k:Int)).map Dv.int):=by rw[<-hm2];exact dG
     generalize hH1:H++[Ob.lst (xs.map λk=>Dv.int (k:Nat))]=H1 at g1;have g2:getL (H1++[Ob.lst []]) H1.length=some (([]:List Int).map Dv.int):=dG;have q:=k8 (kB (l:=[Ob.lst []]) g1) g2;refine⟨H1++[.lst []], ?_, ?_⟩
     ·show aZ (pZ [some (aH n ps),some (.tup (ns.map Dv.int))] H)=_;rw[EE,bJ w1,bJ w2,hB];have ea:bZ q4 [some (aH n ps),some (.tup (ns.map Dv.int))] H=.ok (.ref H.length) H1:=by unfold bZ;rw[e4,<-hH1];rfl
      have hxe:decide ((xs.map λk:Nat=>(k:Int))=[])=lB ps ns:=by
       have:decide ((xs.map λk:Nat=>(k:Int))=[])=decide (xs=[]):=by simp
       rw[this,as];simp[lB,l2,nd]
      rw[hxe]at q;exact z0w ea q
     ·rw[<-hH1];exact Fr.trans (T:=[]) Fr.app Fr.app (by simp)
    ·refine stop2 (by rw[oR (kZ t3),e3];simp[nd]) ?_;rw[hB];simp[lB,nd]
 |_=>refine stop true rfl ?_ rfl;unfold q1;exact yG (kZ (b:=false) (by simp[bG,m1,aB,ht,lT,eJ]))
end
section
variable{n:Nat}{ps:List (Int×Int)}{H:Hs}
def cN (ps:List (Int×Int)) (ns:List Int):Nat:=((bY ns).filter λq=>decide (q∈ps)).length
theorem z14 {ns:List Int}(h:ns≠[]):((bX ns).filter λq=>decide (q∈ps)).length=cN ps ns:=by obtain⟨q,r,e1,e2⟩:=MB h;unfold cN;rw[e1,e2,List.filter_append,bw,<-List.singleton_append,List.filter_append,bw];omega
theorem z15 (ns:List Int):cN ps ns<=ns.length:=by unfold cN;have:=uh (λq=>decide (q∈ps)) (bY ns);rw[qG]at this;exact this
theorem MK (o:OrdP n ps):∀(xs:List Int) (x:Int),(∀k (hk:k<xs.length),((x::xs)[k]'(by simp;omega),xs[k])∈ps)->∀y∈xs,(x,y)∈ps
 | [],_,_,_,hy=>nomatch hy
 |z::zs,x,h,y,hy=>by
  have h0:(x,z)∈ps:=h 0 (by simp)
  rcases ba.mp hy with rfl|hy
  ·exact h0
  ·have:=MK o zs z (λk hk=>h (k+1) (by simpa using hk)) y hy;exact o.tr _ h0 _ this rfl
theorem ML (o:OrdP n ps) {ns:List Int}(h2:2<=ns.length) (nd:ns.Nodup):cN ps ns<ns.length:=by
 have le:=z15 (ps:=ps) ns
 by_cases c:cN ps ns=ns.length
 ·exfalso
  unfold cN at c;rw[<-qG ns,List.length_filter_eq_length_iff]at c
  cases ns with
  |nil=>simp at h2
  |cons x xs=>
   have hs:∀k (hk:k<xs.length),((x::xs)[k]'(by simp;omega),xs[k])∈ps:=λk hk=>by
    have hk2:k<(bY (x::xs)).length:=by rw[qG];simp;omega
    have:=c _ (dj hk2);simpa[bY,hk]using this
   have hk2:xs.length<(bY (x::xs)).length:=by rw[qG];simp
   have hl:=c _ (dj hk2);have hx:0<xs.length:=by simp at h2;omega
   have hl':((x::xs)[xs.length]'(by simp),x)∈ps:=by simpa[bY]using hl
   have hm:(x::xs)[xs.length]'(by simp)∈xs:=by
    have e:(x::xs)[xs.length]'(by simp)=xs[xs.length - 1]'(by omega):=by rw[List.getElem_cons];rw[dif_neg (by omega)]
    rw[e];exact dj _
   exact OrdP.anti o (MK o xs x hs _ hm) hl'
 ·omega
def eU (u a:Int):Int := -((-u) / a)
theorem MN {u a:Int}(ha:0<a):u<=eU u a*a:=by have:=Int.ediv_mul_le (-u) (show a≠0 by omega);unfold eU;rw[Int.neg_mul];omega
theorem MP {u a:Int}(ha:0<a):(eU u a - 1)*a<u:=by
 have:=Int.lt_ediv_add_one_mul_self (-u) ha;unfold eU;have e:(-(-u / a) - 1)*a = -((-u / a+1)*a):=by
  rw[<-Int.neg_mul]
  congr 1
  omega
 rw[e];omega
theorem z16 {u a:Int}(ha:0<a) (hu:0<=u):0<=eU u a:=by
 have h:=MN (u:=u) ha
 by_cases c:0<=eU u a
 ·exact c
 ·exfalso
  have:eU u a*a<=(-1)*a:=pf (by omega) (by omega);omega
theorem z17 {u a:Int}(ha:0<a) (hu:0<=u):eU u a<=u:=by
 by_cases c:eU u a<=u
 ·exact c
 ·exfalso
  have h:=MP (u:=u) ha;have:u*1<=u*a:=Int.mul_le_mul_of_nonneg_left (by omega) hu;have:u*a<=(eU u a - 1)*a:=pf (by omega) (by omega);omega
theorem z18 {u a:Int}(ha:0<a) (h1:a<1000):F_qq [.int u,.int a] H=.ok (.int (eU u a)) H:=by
 have hd:mM (.int (-u)) (.int a) H=.ok (.int ((-u) / a)) H:=by
  have:oC (-u) a=true:=by simp[oC];omega
  simp[mM,jC,this]
 simp[F_qq,BQ,aU,bN,aO,m1,m2,aB,gZ,hd,eU,aZ]
def wC:M Bool:=mB (m2 dF (m2 jY (aB 4) (aB 3)) (aB 2))
def wB:MS:=aJ (m2 bD (aB 4) (mC (.int 1))) (aG 4)
theorem MQ {u a:Int}{x0 x1:Option Dv}(ha:0<a) (h1:a<1000):∀(f:Nat) (k:Int),0<=k->k<=eU u a->eU u a<k+f->
  iB wC wB f [x0,x1,some (.int u),some (.int a),some (.int k)] H=.nx [x0,x1,some (.int u),some (.int a),some (.int (eU u a))] H
 |0,k,_,h2,h3=>by omega
 |f+1,k,h0,h2,h3=>by
  have hm:jY (.int k) (.int a) H=.ok (.int (k*a)) H:=by
   have:pD k a=true:=by simp[pD,jT];omega
   simp[jY,jC,this]
  have hc:∀b,decide (k*a<u)=b->wC [x0,x1,some (.int u),some (.int a),some (.int k)] H=.ok b H:=λb hb=>by simp[wC,mB,m2,aB,hm,dF,cO,hb]
  by_cases c:k=eU u a
  ·have:decide (k*a<u)=false:=by have:=MN (u:=u) ha;rw[<-c]at this;simp;omega
   rw[LG (hc _ this),c]
  ·have:decide (k*a<u)=true:=by have h4:=MP (u:=u) ha;have:k*a<=(eU u a - 1)*a:=pf (by omega) (by omega);simp;omega
   have hb:wB [x0,x1,some (.int u),some (.int a),some (.int k)] H=.nx [x0,x1,some (.int u),some (.int a),some (.int (k+1))] H:=rfl;rw[LH (hc _ this) hb];exact MQ ha h1 f (k+1) (by omega) (by omega) (by omega)
end
section
variable{n:Nat}{ps:List (Int×Int)}{H:Hs}
def sC:M (List Dv):=bW (cI fK (aE F_q5 (aA (aB 1) aC))) [none,some 0] (aG 0) (mB (m2 (cZ false) (aB 0) (m2 aQ (aB 1) (mC (.int 1))))) (bS (aB 0))
theorem z19:xB=aL (aJ (aE (f1 bI) (aA (bZ sC) aC)) (aG 2)) (aO (aE F_qq (aA (aB 2) (aA (m2 eC (aE (f1 bI) (aA (aB 1) aC)) (aB 2)) aC)))):=rfl
theorem yJ {α:Type}(p:α->Bool) (f:α->Dv) (l:List α):(l.filterMap λq=>if p q then some (f q)else none)=(l.filter p).map f:=by
 induction l with
 |nil=>rfl
 |cons k l ih=>
  rw[cb,List.filter_cons]
  cases c:p k with
  |true=>simp only[if_true,dw];rw[ih]
  |false=>simp only[bj,if_false];exact ih
theorem z1a {ns:List Int}(hl:ns.length<=500) {x2:Option Dv}:sC [some (aH n ps),some (.tup (ns.map Dv.int)),x2] H=.ok (((bY ns).filter λq=>decide (q∈ps)).map aI) (H++[.lst ((bY ns).map aI)]):=by
 have eS:=MD (ns:=ns) (H:=H) hl;have g1:getL (H++[Ob.lst ((bY ns).map aI)]) H.length=some ((bY ns).map aI):=dG;have w:sC [some (aH n ps),some (.tup (ns.map Dv.int)),x2] H=.ok ((bY ns).filterMap λq=>if decide (q∈ps)then some (aI q)else none) (H++[.lst ((bY ns).map aI)]):=
  hY (bY ns) _ (λρ=>∃a,ρ=[a,some (aH n ps)]) (src:=eQ H.length ((bY ns).map aI).length) (by
   simp[cI,aE,aA,aB,aC,eS,fK,g1]) (by simp[eQ]) ⟨_,rfl⟩ (by simp[eQ,g1]) (λk hk ρ ⟨a,e⟩=>by
    subst e;refine⟨aI (bY ns)[k],[some (aI (bY ns)[k]),some (aH n ps)],by simp[eQ,g1,hk],rfl,⟨_,rfl⟩, ?_⟩;have t:=iS false (H++[Ob.lst ((bY ns).map aI)]) (bY ns)[k] ps;have h1:=mV (n:=n) (ps:=ps) (H++[Ob.lst ((bY ns).map aI)]);generalize H++[Ob.lst ((bY ns).map aI)]=H1 at t h1;generalize aH n ps=z at h1;simp only[bj,if_false]at t
    cases c:decide ((bY ns)[k]∈ps)with
    |true=>rw[c]at t;simp[mB,m2,aB,mC,h1,t,cO]
    |false=>rw[c]at t;simp[mB,m2,aB,mC,h1,t,cO]) (by rw[qG];omega)
 exact w.trans (congrArg (λl=>Rs.ok l _) (yJ _ _ _))
theorem MR {m:M (List Dv)}{ρ:Ev}{H H1:Hs}{xs:List Dv}(e:m ρ H=.ok xs H1):aE (f1 bI) (aA (bZ m) aC) ρ H=.ok (.int xs.length) (H1++[.lst xs]):=by
 have g:getL (H1++[Ob.lst xs]) H1.length=some xs:=dG;have ea:bZ m ρ H=.ok (.ref H1.length) (H1++[.lst xs]):=by unfold bZ;rw[e];rfl
 generalize bZ m=M at ea;simp[aE,aA,ea,aC,f1,bI,dQ,fI,eB,g]
theorem z1b (o:OrdP n ps) {ns:List Int}(hl:ns.length<=500) (h2:2<=ns.length) (nd:ns.Nodup):∃H',F_q4 [aH n ps,.tup (ns.map Dv.int)] H=.ok (.int (eU (cN ps ns) (ns.length - cN ps ns))) H'/\Fr [] H H':=by
 have lt:=ML o h2 nd;have e1:=MR (z1a (n:=n) (ps:=ps) (ns:=ns) (H:=H) (x2:=none) hl);have hu:(((bY ns).filter λq=>decide (q∈ps)).map aI).length=cN ps ns:=by simp[cN]
 rw[hu]at e1;generalize hH:H++[Ob.lst ((bY ns).map aI)]++[Ob.lst (((bY ns).filter λq=>decide (q∈ps)).map aI)]=H2 at e1;have fr:Fr [] H H2:=by rw[<-hH];exact Fr.trans (T:=[]) Fr.app Fr.app (by simp)
 refine⟨H2, ?_,fr⟩;have w1:aJ (aE (f1 bI) (aA (bZ sC) aC)) (aG 2) [some (aH n ps),some (.tup (ns.map Dv.int)),none] H=.nx [some (aH n ps),some (.tup (ns.map Dv.int)),some (.int (cN ps ns))] H2:=by unfold aJ;rw[e1];rfl
 have hz:(ns.map Dv.int).length=ns.length:=by simp
 have e2:=tH (H:=H2) (ds:=ns.map Dv.int) (i:=1) (ρ:=[some (aH n ps),some (.tup (ns.map Dv.int)),some (.int (cN ps ns))]) rfl;rw[hz]at e2;have e3:=z18 (H:=H2) (u:=(cN ps ns:Int)) (a:=(ns.length:Int) - cN ps ns) (by omega) (by omega);show aZ (xB [some (aH n ps),some (.tup (ns.map Dv.int)),none] H)=_;rw[z19,bJ w1];generalize hM:aE (f1 bI) (aA (aB 1) aC)=M at e2;generalize (ns.length:Int)=L at e2 e3;generalize ((cN ps ns:Nat):Int)=U at e2 e3;have hs:eC (.int L) (.int U) H2=.ok (.int (L - U)) H2:=rfl;simp[aO,aE,aA,aB,aC,m2,e2,hs,e3,aZ]
theorem z1c {d:Dv}(hB:eF n ps d=true):∃ns:List Int,d=.tup (ns.map Dv.int)/\(∀x∈ns,0<=x/\x<n)/\2<=ns.length/\ns.Nodup:=by
 cases d with
 |tup ds=>unfold eF at hB;rw[cy]at hB;obtain⟨ns,rfl,hr⟩:=tG (show ds.all (Com.tB n)=true from hB.1);have hP:=hB.2;rw[qH]at hP;unfold lB at hP;simp only[cy,decide_eq_true_eq]at hP;exact⟨ns,rfl,hr,hP.1.1,hP.1.2⟩
 |_=>cases hB
theorem MT (o:OrdP n ps) {d:Dv}(h:TK 1 H d):∃H',cA (bG (aE F_q7 (aA (aB 0) (aA (aB 1) aC)))) [some (aH n ps),some d] H=.ok (!eF n ps d) H'/\Fr [] H H':=by obtain⟨H1,e1,f1'⟩:=MG o h;refine⟨H1,kZ ?_,f1'⟩;generalize aH n ps=z at e1;simp[bG,aE,aA,aB,aC,e1,eJ]
theorem z1d (o:OrdP n ps) {d:Dv}(h:TK 1 H d) (hB:eF n ps d=false):∃H',F_qp [aH n ps,d] H=.ex 12 H'/\Fr [] H H':=by obtain⟨H1,t,f1'⟩:=MT o h;rw[hB]at t;refine⟨H1, ?_,f1'⟩;show aZ (oI [some (aH n ps),some d] H)=_;unfold oI aL;rw[oD t];rfl
theorem z1e (o:OrdP n ps) {ns:List Int}(h:TK 1 H (.tup (ns.map Dv.int))) (hB:eF n ps (.tup (ns.map Dv.int))=true) (h2:2<=ns.length) (nd:ns.Nodup):∃H',F_qp [aH n ps,.tup (ns.map Dv.int)] H=.ok (.int (eU (cN ps ns) (ns.length - cN ps ns))) H'/\Fr [] H H':=by
 obtain⟨H1,t,f1'⟩:=MT o h;rw[hB]at t;have hl:ns.length<=500:=by simpa using(h.2 _ rfl).1
 obtain⟨H2,e2,f2⟩:=z1b (H:=H1) o hl h2 nd;refine⟨H2, ?_,f1'.trans f2 (by simp)⟩;show aZ (oI [some (aH n ps),some (.tup (ns.map Dv.int))] H)=_;unfold oI;rw[bJ (m:=aW _ _ _) (by rw[jJ t];rfl)];generalize aH n ps=z at e2;generalize ns.map Dv.int=ys at e2;simp[aO,aE,aA,aB,aC,e2,aZ]
def yK:M (List Dv):=bW (aS cJ (aA (aE (f1 bI) (aA (aB 1) aC)) aC)) [none,some 0,some 1] (aG 0) (mB (m2 (cZ false) (aM (aA (m2 aQ (aB 2) (m2 eC (aB 0) (mC (.int 1)))) (aA (m2 aQ (aB 2) (aB 0)) aC))) (m2 aQ (aB 1) (mC (.int 1))))) (bS (aB 0))
theorem z1f:xF=aL (aJ (aE (f1 bI) (aA (bZ yK) aC)) (aG 2)) (aL (aJ (m2 eC (aE (f1 bI) (aA (aB 1) aC)) (aB 2)) (aG 3)) (aL (aJ (mC (.int 0)) (aG 4)) (aL (iB wC wB 40) (aO (aB 4))))):=rfl
theorem cnt {α:Type}(p:α->Bool) (dflt:α):∀l:List α,((bf l.length).filter λk=>p (l.getD k dflt)).length=(l.filter p).length:=by
 intro l;have:(bf l.length).map (λk=>l.getD k dflt)=l:=by
  apply xf
  ·simp
  ·intro i h1 h2;simp[h2]
 have h:=congrArg (λz=>(z.filter p).length) this;simp only[List.filter_map,bo]at h;exact h
theorem z1g {ns:List Int}(hl:ns.length<=500) {x2 x3 x4:Option Dv}:yK [some (aH n ps),some (.tup (ns.map Dv.int)),x2,x3,x4] H=.ok (((bf ns.length).filter λk=>decide ((bX ns).getD k (0,0)∈ps)).map λk=>Dv.int (k:Nat)) H:=by
 have hz:(ns.map Dv.int).length=ns.length:=by simp
 have w:yK [some (aH n ps),some (.tup (ns.map Dv.int)),x2,x3,x4] H=.ok ((bf ns.length).filterMap λk=>if decide ((bX ns).getD k (0,0)∈ps)then some (Dv.int (k:Nat))else none) H:=
  hY (bf ns.length) _ (λρ=>∃a,ρ=[a,some (aH n ps),some (.tup (ns.map Dv.int))]) (src:=cH 0 ns.length) (by
   have:=yI (tH (H:=H) (ds:=ns.map Dv.int) (i:=1) (ρ:=[some (aH n ps),some (.tup (ns.map Dv.int)),x2,x3,x4]) rfl) (by omega) (by rw[hz];omega);rw[hz]at this;exact this) (by simp[cH]) ⟨_,rfl⟩ rfl (λk hk ρ ⟨a,e⟩=>by
    subst e;have hk':k<ns.length:=by simpa using hk
    have hk2:k<(bX ns).length:=by rw[mX];exact hk'
    refine⟨.int (0+k),[some (.int (0+k)),some (aH n ps),some (.tup (ns.map Dv.int))],rfl,rfl,⟨_,rfl⟩, ?_⟩;have i1:=MJ (H:=H) hk2;have i2:=sX (H:=H) hk';rw[<-MH hk2]at i2;have t:=iS false H (bX ns)[k] ps;simp only[bj,if_false,aI]at t;have h1:=mV (n:=n) (ps:=ps) H;have eg:(bX ns).getD k (0,0)=(bX ns)[k]:=by simp[hk2]
    have h00:(0+(k:Int))=(k:Int):=by omega
    rw[nq,eg,h00];generalize (bX ns)[k]=q at i1 i2 t;generalize aH n ps=z at h1;generalize ns.map Dv.int=ys at i1 i2;have hs:eC (.int (k:Int)) (.int 1) H=.ok (.int ((k:Int) - 1)) H:=rfl
    cases c:decide (q∈ps)with
    |true=>rw[c]at t;simp[mB,m2,aM,aA,aB,aC,lim,mC,hs,i1,i2,h1,t,cO]
    |false=>rw[c]at t;simp[mB,m2,aM,aA,aB,aC,lim,mC,hs,i1,i2,h1,t,cO]) (by simp;omega)
 exact w.trans (congrArg (λl=>Rs.ok l _) (yJ _ _ _))
theorem z1h (o:OrdP n ps) {ns:List Int}(hl:ns.length<=30) (h2:2<=ns.length) (nd:ns.Nodup):∃H',F_qa [aH n ps,.tup (ns.map Dv.int)] H=.ok (.int (eU (cN ps ns) (ns.length - cN ps ns))) H'/\Fr [] H H':=by
 have lt:=ML o h2 nd;have e1:=MR (z1g (n:=n) (ps:=ps) (ns:=ns) (H:=H) (x2:=none) (x3:=none) (x4:=none) (by omega));have hu:(((bf ns.length).filter λk=>decide ((bX ns).getD k (0,0)∈ps)).map λk=>Dv.int (k:Nat)).length=cN ps ns:=by rw[bo,<-mX ns,cnt (λq=>decide (q∈ps)) (0,0) (bX ns)];exact z14 (λz=>by rw[z]at h2;simp at h2)
 rw[hu]at e1;generalize hH:H++[Ob.lst (((bf ns.length).filter λk=>decide ((bX ns).getD k (0,0)∈ps)).map λk=>Dv.int (k:Nat))]=H2 at e1;have fr:Fr [] H H2:=by rw[<-hH];exact Fr.app
 refine⟨H2, ?_,fr⟩;have w1:aJ (aE (f1 bI) (aA (bZ yK) aC)) (aG 2) [some (aH n ps),some (.tup (ns.map Dv.int)),none,none,none] H=.nx [some (aH n ps),some (.tup (ns.map Dv.int)),some (.int (cN ps ns)),none,none] H2:=by unfold aJ;rw[e1];rfl
 have hz:(ns.map Dv.int).length=ns.length:=by simp
 have e2:=tH (H:=H2) (ds:=ns.map Dv.int) (i:=1) (ρ:=[some (aH n ps),some (.tup (ns.map Dv.int)),some (.int (cN ps ns)),none,none]) rfl;rw[hz]at e2;have w2:aJ (m2 eC (aE (f1 bI) (aA (aB 1) aC)) (aB 2)) (aG 3) [some (aH n ps),some (.tup (ns.map Dv.int)),some (.int (cN ps ns)),none,none] H2=.nx [some (aH n ps),some (.tup (ns.map Dv.int)),some (.int (cN ps ns)),some (.int ((ns.length:Int) - cN ps ns)),none] H2:=by unfold aJ m2;rw[e2];rfl
 have ha:(0:Int)<(ns.length:Int) - cN ps ns:=by omega
 have c0:=z16 (u:=(cN ps ns:Int)) ha (by omega);have c1:=z17 (u:=(cN ps ns:Int)) ha (by omega);have w4:=MQ (H:=H2) (u:=(cN ps ns:Int)) (x0:=some (aH n ps)) (x1:=some (.tup (ns.map Dv.int))) ha (by omega) 40 0 (by omega) c0 (by omega);show aZ (xF [some (aH n ps),some (.tup (ns.map Dv.int)),none,none,none] H)=_;rw[z1f,bJ w1,bJ w2,bJ (m:=aJ (mC (.int 0)) (aG 4)) (ρ1:=[some (aH n ps),some (.tup (ns.map Dv.int)),some (.int (cN ps ns)),some (.int ((ns.length:Int) - cN ps ns)),some (.int 0)]) (h1:=H2) rfl,bJ w4];rfl
end
section
variable{n st f:Nat}{ps:List (Int×Int)}{H:Hs}{xs ys:List Int}
theorem z1i (neg:Bool) (x:Int) {i:Nat}(e:getL H i=some (xs.map Dv.int)):cZ neg (.int x) (.ref i) H=.ok (.bl (if neg then !decide (x∈xs)else decide (x∈xs))) H:=by
 have e':(xs.map Dt.int).any (λt=>bM t (.int x))=decide (x∈xs):=by
  rw[fj];simp only[wj,mn,xr,decide_eq_true_eq];constructor
  ·rintro ⟨q,hq,h⟩
   have:q=x:=by simpa[bM]using h
   rw[<-this];exact hq
  ·intro h;exact⟨x,h,by simp[bM]⟩
 have h1:bU (bV cB H) (xs.map Dv.int)=some (xs.map Dt.int):=vL 29 H xs;have h2:bV cB H (.int x)=some (.int x):=rfl;show kN [] neg (.int x) (.ref i) H=_;simp only[kN,eB,e,h1,h2,e']
def yL:M (List Dv):=bW (aS cJ (aA (m2 aQ (aB 1) (mC (.int 0))) aC)) [none,some 2] (aG 0) (mB (m2 (cZ true) (aB 0) (aB 1))) (bS (aB 0))
def yM:M (List Dv):=bW (cI fK (aB 4)) [none,some 1,some 2] (aG 0) (bG (aE F_qs (aA (aB 1) (aA (m2 aQ (aB 2) (m1 gZ (mC (.int 1)))) (aA (aB 0) aC))))) (bS (aB 0))
def tI:MS:=aW (eI (mB (m2 cC (aB 4) (aR aC))) (mB (m2 nY (aE F_qv (aA (aB 0) (aA (mC (.int 4)) aC))) (mC (.int 0))))) (eN (fT (aB 2) (m2 aQ (aB 4) (aE F_qv (aA (aB 0) (aA (aE (f1 bI) (aA (aB 4) aC)) aC)))))) bH
def rB:MS:=aL (aJ (bZ yL) (aG 4)) (aL (aJ (bZ yM) (aG 4)) tI)
theorem z1j:xD=aL (aJ (aR (aA (aE F_qv (aA (aB 0) (aA (m2 aQ (aB 1) (mC (.int 0))) aC))) aC)) (aG 2)) (aL (dS (aS cJ (aA (m2 aQ (aB 1) (mC (.int 0))) aC)) (aG 3) rB) (aO (aE (f1 hZ) (aA (aB 2) aC)))):=rfl
theorem EF {ρ:Ev}(e:aB 1 ρ=λH=>.ok (aH n ps) H):m2 aQ (aB 1) (mC (.int 0)) ρ H=.ok (.int n) H:=by have h0:=sP (n:=n) (ps:=ps) H;generalize aH n ps=z at h0 e;simp[m2,e,mC,h0]
theorem z1k (hn:n<=6) (e:getL H f=some (xs.map Dv.int)) {x0 x3 x4:Option Dv}:∃ys:List Int,yL [x0,some (aH n ps),some (.ref f),x3,x4] H=.ok (ys.map Dv.int) H/\(∀y∈ys,0<=y/\y<n)/\ys.length<=6:=by
 have w:yL [x0,some (aH n ps),some (.ref f),x3,x4] H=.ok ((bf n).filterMap λk:Nat=>if !decide ((k:Int)∈xs)then some (Dv.int (k:Int))else none) H:=
  hY (bf n) _ (λρ=>∃a,ρ=[a,some (.ref f)]) (src:=cH 0 n) (yI (EF rfl) (by omega) (by omega)) (by simp[cH]) ⟨_,rfl⟩ rfl (λk hk ρ ⟨a,e1⟩=>by
   subst e1;refine⟨.int (0+k),[some (.int (0+k)),some (.ref f)],rfl,rfl,⟨_,rfl⟩, ?_⟩;have h00:(0+(k:Int))=(k:Int):=by omega
   rw[nq,h00];have t:=z1i true (k:Int) e;simp only[if_true]at t
   cases c:!decide ((k:Int)∈xs)with
   |true=>rw[c]at t;simp[mB,m2,aB,t,cO]
   |false=>rw[c]at t;simp[mB,m2,aB,t,cO]) (by simp;omega)
 refine⟨((bf n).filter λk:Nat=>!decide ((k:Int)∈xs)).map λk:Nat=>(k:Int), ?_,λy hy=>?_, ?_⟩
 ·rw[qd];exact w.trans (congrArg (λl=>Rs.ok l _) (yJ _ _ _))
 ·obtain⟨k,hk,rfl⟩:=df.mp hy;have:=bp.mp (nh.mp hk).1;omega
 ·rw[bo];have:=uh (λk:Nat=>!decide ((k:Int)∈xs)) (bf n);simp at this;omega
theorem z1l (e:getL H f=some (xs.map Dv.int)) (h:xs≠[]):aQ (.ref f) (.int (-1)) H=.ok (.int (xs.getD (xs.length - 1) 0)) H:=by have:=MI (H:=H) h;simp only[aQ,dQ,fH,if_true]at this ⊢;rw[e];exact this
theorem z1m {i:Nat}(e:getL H f=some (xs.map Dv.int)) (hx:xs≠[]) (ei:getL H i=some (ys.map Dv.int)) (hl:ys.length<=6) {x0 x3:Option Dv}:∃zs:List Int,yM [x0,some (aH n ps),some (.ref f),x3,some (.ref i)] H=.ok (zs.map Dv.int) H/\(∀z∈zs,z∈ys)/\zs.length<=6:=by
 have w:yM [x0,some (aH n ps),some (.ref f),x3,some (.ref i)] H=.ok (ys.filterMap λy=>if(!(xs.getD (xs.length - 1) 0==y)&&!decide ((y,xs.getD (xs.length - 1) 0)∈ps))then some (Dv.int y)else none) H:=
  hY ys _ (λρ=>∃a,ρ=[a,some (aH n ps),some (.ref f)]) (src:=eQ i (ys.map Dv.int).length) (by simp[cI,aB,fK,ei]) (by simp[eQ]) ⟨_,rfl⟩ (by simp[eQ,ei]) (λk hk ρ ⟨a,e1⟩=>by
   subst e1;refine⟨.int ys[k],[some (.int ys[k]),some (aH n ps),some (.ref f)],by simp[eQ,ei,hk],rfl,⟨_,rfl⟩, ?_⟩;have g:=ME (n:=n) (ps:=ps) (a:=xs.getD (xs.length - 1) 0) (b:=ys[k]) (H:=H);have il:=z1l e hx;generalize xs.getD (xs.length - 1) 0=l at g il;generalize aH n ps=z at g;have hn:gZ (.int 1) H=.ok (.int (-1)) H:=rfl
   cases c:(!(l==ys[k])&&!decide ((ys[k],l)∈ps))with
   |true=>rw[c]at g;simp[bG,aE,aA,aB,aC,m2,m1,mC,hn,il,g,eJ]
   |false=>rw[c]at g;simp[bG,aE,aA,aB,aC,m2,m1,mC,hn,il,g,eJ]) (by omega)
 refine⟨ys.filter λy=>(!(xs.getD (xs.length - 1) 0==y)&&!decide ((y,xs.getD (xs.length - 1) 0)∈ps)), ?_,λz hz=>(nh.mp hz).1, ?_⟩
 ·exact w.trans (congrArg (λl=>Rs.ok l _) (yJ _ _ _))
 ·exact dq (uh _ _) hl
theorem z1n {i:Nat}{ρ:Ev}(s:Com.St st H) (ht:aB 0 ρ=λH=>.ok (.ref st) H) (hf:aB 2 ρ=λH=>.ok (.ref f) H) (hi:aB 4 ρ=λH=>.ok (.ref i) H) (fs:f≠st) (is:i≠st)
  (e:getL H f=some (xs.map Dv.int)) (hl:xs.length<=100) (ei:getL H i=some (ys.map Dv.int)) (hy:ys.length<=6):
  ∃H' zs,tI ρ H=.nx ρ H'/\getL H' f=some ((xs++zs).map Dv.int)/\zs.length<=1/\(∀z∈zs,z∈ys)/\Com.St st H'/\Fr [st,f] H H':=by
 have f0:Fr [] H (H++[Ob.lst []]):=Fr.app;have n1:=LL (H:=H) ei;have c1:mB (m2 cC (aB 4) (aR aC)) ρ H=.ok (!ys.isEmpty) (H++[.lst []]):=by simp[mB,m2,hi,aR,aC,lim,n1,cO]
 generalize H++[Ob.lst []]=H1 at f0 n1 c1;have e1:=f0.getL e (by simp);have ei1:=f0.getL ei (by simp);have s1:=s.fr f0 (by simp)
 cases hy0:ys.isEmpty with
 |true=>rw[hy0]at c1;refine⟨H1,[], ?_,by simpa using e1,by simp,by simp,s1,f0.mono (by simp)⟩;unfold tI;rw[jJ (by unfold eI;rw[c1];rfl)];rfl
 |false=>
  rw[hy0]at c1;obtain⟨r,H2,r0,r1,t2,f2,s2⟩:=iV 4 s1;have e2:=f2.getL e1 (by simpa using fs);have ei2:=f2.getL ei1 (by simpa using is);have c2:mB (m2 nY (aE F_qv (aA (aB 0) (aA (mC (.int 4)) aC))) (mC (.int 0))) ρ H1=.ok (decide (r>0)) H2:=by simp[mB,m2,aE,aA,ht,mC,aC,t2,nY,gM,cO]
  have cc:eI (mB (m2 cC (aB 4) (aR aC))) (mB (m2 nY (aE F_qv (aA (aB 0) (aA (mC (.int 4)) aC))) (mC (.int 0)))) ρ H=.ok (decide (r>0)) H2:=by unfold eI;rw[c1];exact c2
  have f02:Fr [st] H H2:=(f0.mono (T:=[st]) (by simp)).trans f2 (by simp);have ct:∀b,decide (r>0)=b->eI (mB (m2 cC (aB 4) (aR aC))) (mB (m2 nY (aE F_qv (aA (aB 0) (aA (mC (.int 4)) aC))) (mC (.int 0)))) ρ H=.ok b H2:=λb hb=>by rw[cc,hb]
  by_cases c:r>0
  ·have hp:0<ys.length:=by
    cases ys with
    |nil=>cases hy0
    |cons _ _=>simp
   obtain⟨q,H3,q0,q1',t3,f3,s3⟩:=iV (ys.length:Int) s2 (by omega) (by omega);have e3:=f3.getL e2 (by simpa using fs);have ei3:=f3.getL ei2 (by simpa using is);obtain⟨k,rfl⟩:∃k:Nat,q=k:=⟨q.toNat,by omega⟩
   have hk:k<(ys.map Dv.int).length:=by simp;omega
   have hk':k<ys.length:=by simpa using hk
   have ix:=oP ei3 hk;rw[List.getElem_map]at ix;have lenS:aE (f1 bI) (aA (aB 4) aC) ρ H2=.ok (.int ys.length) H2:=by simp[aE,aA,hi,aC,f1,bI,dQ,fI,eB,ei2]
   have ml:(xs.map Dv.int).length<1000000:=by simp;omega
   refine⟨H3.set f (.lst (xs.map Dv.int++[.int ys[k]])),[ys[k]], ?_, ?_,by simp,by simp, ?_, ?_⟩
   ·unfold tI;rw[oD (ct true (by simpa using c))];generalize hM:aE (f1 bI) (aA (aB 4) aC)=M at lenS;generalize (ys.length:Int)=L at lenS t3;have ml':xs.length<1000000:=by omega
    simp[eN,fT,hf,iM,e2,m2,hi,aE,aA,ht,lenS,aC,t3,ix,kM,e3,ml']
   ·rw[jb];exact kQ e3
   ·obtain⟨a,b,es⟩:=s3;exact⟨a,b,by rw[pS (cm (cm fs))];exact es⟩
   ·exact((f02.mono (T:=[st,f]) (by simp)).trans f3 (by simp)).trans (T:=[f]) Fr.set (by simp)
  ·refine⟨H2,[], ?_,by simpa using e2,by simp,by simp,s2,f02.mono (by simp)⟩;unfold tI;rw[jJ (ct false (by simpa using c))];rfl
theorem z1o (o:OrdP n ps) (s:Com.St st H):∃(ns:List Int) (H':Hs),F_qt [.ref st,aH n ps] H=.ok (.tup (ns.map Dv.int)) H'/\(∀x∈ns,0<=x/\x<n)/\ns.length<=7/\Com.St st H'/\Fr [st] H H':=by
 have n1:=o.n1;have n6:=o.n6;obtain⟨r,H1,r0,r1,t1,f1',s1⟩:=iV (n:Int) s (by omega) (by omega);have lt1:=s1.lt;have w1:aJ (aR (aA (aE F_qv (aA (aB 0) (aA (m2 aQ (aB 1) (mC (.int 0))) aC))) aC)) (aG 2) [some (.ref st),some (aH n ps),none,none,none] H=.nx [some (.ref st),some (aH n ps),some (.ref H1.length),none,none] (H1++[.lst [.int r]]):=by have h0:=EF (n:=n) (ps:=ps) (H:=H) (ρ:=[some (.ref st),some (aH n ps),none,none,none]) rfl;generalize hM:m2 aQ (aB 1) (mC (.int 0))=M at h0;simp[aJ,aR,aA,aE,aB,h0,aC,t1,lim,aG]
 have g1:getL (H1++[Ob.lst [.int r]]) H1.length=some ([r].map Dv.int):=dG;have fs:H1.length≠st:=by omega
 have f2:Fr [] H1 (H1++[Ob.lst [.int r]]):=Fr.app;have s2:=s1.fr f2 (by simp);have f12:Fr [st] H (H1++[Ob.lst [.int r]]):=f1'.trans f2 (by simp);have hle:H.length<=H1.length:=f1'.le;generalize H1++[Ob.lst [.int r]]=H2 at w1 g1 s2 f12;generalize H1.length=f at w1 g1 fs hle;obtain⟨ρ',H3,w2,xs,y3,y4,e3,g3,x3,r3,l3,s3,f3⟩:=mO (mi:=aS cJ (aA (m2 aQ (aB 1) (mC (.int 0))) aC)) (sg:=aG 3) (b:=rB) (ρ:=[some (.ref st),some (aH n ps),some (.ref f),none,none]) (H:=H2) (yI (EF rfl) (by omega) (by omega))
  (λk ρ Hx=>∃(xs:List Int) (y3 y4:Option Dv),ρ=[some (.ref st),some (aH n ps),some (.ref f),y3,y4]/\getL Hx f=some (xs.map Dv.int)/\xs≠[]/\(∀x∈xs,0<=x/\x<n)/\xs.length<=k+1/\Com.St st Hx/\Fr [st] H Hx)
  (λk ρ Hx hk ⟨xs,y3,y4,e,g,ne,rg,l,s,fr⟩=>by
   subst e;have hk':k<6:=by have:k<(cH 0 (n:Int)).n:=hk;simp[cH]at this;omega
   obtain⟨ys,a1,ry,ly⟩:=z1k (ps:=ps) (x0:=some (.ref st)) (x3:=some (.int (0+(k:Int)))) (x4:=y4) n6 g;have fa:Fr [] Hx (Hx++[Ob.lst (ys.map Dv.int)]):=Fr.app;have ga:getL (Hx++[Ob.lst (ys.map Dv.int)]) Hx.length=some (ys.map Dv.int):=dG;have wa:aJ (bZ yL) (aG 4) [some (.ref st),some (aH n ps),some (.ref f),some (.int (0+(k:Int))),y4] Hx=.nx [some (.ref st),some (aH n ps),some (.ref f),some (.int (0+(k:Int))),some (.ref Hx.length)] (Hx++[.lst (ys.map Dv.int)]):=by unfold aJ bZ;rw[a1];rfl
   have ga2:=fa.getL g (by simp);have sa:=s.fr fa (by simp);have lst:=s.lt;generalize hA:Hx++[Ob.lst (ys.map Dv.int)]=Ha at fa ga wa ga2 sa;generalize hia:Hx.length=ia at ga wa lst;obtain⟨zs,a2,rz,lz⟩:=z1m (n:=n) (ps:=ps) (x0:=some (.ref st)) (x3:=some (.int (0+(k:Int)))) ga2 ne ga ly;have fb:Fr [] Ha (Ha++[Ob.lst (zs.map Dv.int)]):=Fr.app;have gb:getL (Ha++[Ob.lst (zs.map Dv.int)]) Ha.length=some (zs.map Dv.int):=dG;have wb:aJ (bZ yM) (aG 4) [some (.ref st),some (aH n ps),some (.ref f),some (.int (0+(k:Int))),some (.ref ia)] Ha=.nx [some (.ref st),some (aH n ps),some (.ref f),some (.int (0+(k:Int))),some (.ref Ha.length)] (Ha++[.lst (zs.map Dv.int)]):=by unfold aJ bZ;rw[a2];rfl
   have gb2:=fb.getL ga2 (by simp);have sb:=sa.fr fb (by simp);have lstb:=sa.lt;have nb:Ha.length≠st:=by omega
   generalize Ha++[Ob.lst (zs.map Dv.int)]=Hb at fb gb wb gb2 sb;generalize Ha.length=ib at gb wb nb;obtain⟨Hc,vs,wc,gc,lv,rv,sc,fc⟩:=z1n (ρ:=[some (.ref st),some (aH n ps),some (.ref f),some (.int (0+(k:Int))),some (.ref ib)]) sb rfl rfl rfl fs nb gb2 (by omega) gb lz;refine⟨.int (0+k),[some (.ref st),some (aH n ps),some (.ref f),some (.int (0+(k:Int))),y4],[some (.ref st),some (aH n ps),some (.ref f),some (.int (0+(k:Int))),some (.ref ib)],Hc,rfl,rfl, ?_,xs++vs,_,_,rfl,gc,by simp[ne],λx hx=>?_, ?_,sc, ?_⟩
   ·unfold rB;rw[bJ wa,bJ wb,wc]
   ·rcases br.mp hx with hx|hx
    ·exact rg x hx
    ·exact ry x (rz x (rv x hx))
   ·rw[bw];omega
   ·have fab:Fr [st] H Hb:=(fr.trans fa (by simp)).trans fb (by simp);exact fab.trans (T:=[st,f]) fc (by
     intro j hj;simp at hj
     rcases hj with rfl|rfl
     ·exact .inl (by simp)
     ·exact .inr hle))
  (λρ Hx _=>rfl) ⟨[r],none,none,rfl,g1,by simp,by simpa using⟨r0,r1⟩,by simp,s2,f12⟩
 subst e3;refine⟨xs,H3, ?_,r3, ?_,s3,f3⟩
 ·show aZ (xD [some (.ref st),some (aH n ps),none,none,none] H)=_;rw[z1j,bJ w1,bJ w2];simp[aO,aE,aA,aB,aC,f1,hZ,g3,aZ]
 ·have:(cH 0 (n:Int)).n=n:=by simp[cH]
  rw[this]at l3;omega
end
section
variable{st:Nat}{H:Hs}{ρ:Ev}{N:Int}
def jN (N:Int) (k:Nat):List Dv:=[.int 0,.int N,.int (-1),.bl true,.non,.str "0",.tup [.int 0],.int (10 ^ 29),.int (N - 1),.ref k]
def tJ:M (List Dv):=(aA (mC (.int 0)) (aA (aB 2) (aA (m1 gZ (mC (.int 1))) (aA (mC (.bl true)) (aA (mC .non) (aA (mC (.str "0")) (aA (aM (aA (mC (.int 0)) aC)) (aA (m2 mK (mC (.int 10)) (mC (.int 29))) (aA (m2 eC (aB 2) (mC (.int 1))) (aA (aR (aA (mC (.int 0)) aC)) aC))))))))))
theorem z1p {k:Nat}(h:∃xs,getL H k=some xs):∀y∈jN N k,T0 H y:=by
 intro y hy;simp only[jN,ba,sj,or_false]at hy
 rcases hy with rfl|rfl|rfl|rfl|rfl|rfl|rfl|rfl|rfl|rfl <;> first|trivial|exact h
theorem z1q (s:Com.St st H) (h0:aB 0 ρ=λH=>.ok (.ref st) H) (h2:aB 2 ρ=λH=>.ok (.int N) H):∃y H',m2 aQ (aR tJ) (aE F_qv (aA (aB 0) (aA (mC (.int 10)) aC))) ρ H=.ok y H'/\T0 H' y/\Com.St st H'/\Fr [st] H H':=by
 have e1:aR tJ ρ H=.ok (.ref (H++[Ob.lst [.int 0]]).length) ((H++[.lst [.int 0]])++[.lst (jN N H.length)]):=by have hp:∀H,mK (.int 10) (.int 29) H=.ok (.int (10 ^ 29)) H:=λH=>rfl;have hg:gZ (.int 1) H=.ok (.int (-1)) H:=rfl;have hs:eC (.int N) (.int 1) H=.ok (.int (N - 1)) H:=rfl;simp[aR,tJ,aA,m2,m1,mC,h2,aM,aC,hp,hg,hs,lim,jN]
 have lt:=s.lt;have f0:Fr [] H (H++[Ob.lst [.int 0]]):=Fr.app;have g0:getL (H++[Ob.lst [.int 0]]) H.length=some [.int 0]:=dG;have l0:H.length<=(H++[Ob.lst [.int 0]]).length:=f0.le;generalize hk:H.length=kk at e1 g0 l0 lt;generalize H++[Ob.lst [.int 0]]=H0 at e1 f0 g0 l0;have f1:Fr [] H0 (H0++[Ob.lst (jN N kk)]):=Fr.app;have g1:getL (H0++[Ob.lst (jN N kk)]) H0.length=some (jN N kk):=dG;have g0':getL (H0++[Ob.lst (jN N kk)]) kk=some [.int 0]:=kB g0;generalize H0++[Ob.lst (jN N kk)]=H1 at e1 f1 g1 g0';have f01:=f0.trans f1 (by simp);have s1:=s.fr f01 (by simp);obtain⟨r,H2,r0,r1,t2,f2,s2⟩:=iV 10 s1;have g2:=f2.getL g1 (by simp;omega);have g3:=f2.getL g0' (by simp;omega);obtain⟨j,rfl⟩:∃j:Nat,r=j:=⟨r.toNat,by omega⟩
 have hj:j<(jN N kk).length:=by simp[jN];omega
 have z:=z1p (H:=H2) ⟨_,g3⟩ _ (dj hj);refine⟨(jN N kk)[j],H2, ?_,z,s2,(f01.mono (T:=[st]) (by simp)).trans f2 (by simp)⟩;have e3:aE F_qv (aA (aB 0) (aA (mC (.int 10)) aC)) ρ H1=.ok (.int j) H2:=by simp[aE,aA,h0,mC,aC,t2]
 have e4:=oP g2 hj;unfold m2;rw[e1,Rs.bind_ok,e3,Rs.bind_ok,e4]
variable{ds:List Dv}{k:Nat}{y:Dv}
def qI:M Dv:=dO (aB 1) dM (cY (aB 3))
def tK:M Dv:=dO (aB 1) (cY (m2 bD (aB 3) (mC (.int 1)))) dM
def yN:M Dv:=dO (aB 1) (cY (aB 3)) dM
def yO:M Dv:=m2 bD (dO (aB 1) (cY (mC (.int 1))) dM) (dO (aB 1) dM (cY (mC (.int 1))))
theorem z1r (h1:aB 1 ρ=λH=>.ok (.tup ds) H) (h3:aB 3 ρ=λH=>.ok (.int (k:Int)) H):qI ρ H=.ok (.tup (ds.take k)) H:=by simp[qI,dO,h1,dM,cY,h3,lK,kS,yH]
theorem z1s (h1:aB 1 ρ=λH=>.ok (.tup ds) H) (h3:aB 3 ρ=λH=>.ok (.int (k:Int)) H):yN ρ H=.ok (.tup (ds.drop k)) H:=by simp[yN,dO,h1,dM,cY,h3,lK,kS,ED]
theorem z1t (h1:aB 1 ρ=λH=>.ok (.tup ds) H) (h3:aB 3 ρ=λH=>.ok (.int (k:Int)) H):tK ρ H=.ok (.tup (ds.drop (k+1))) H:=by have ha:bD (.int (k:Int)) (.int 1) H=.ok (.int ((k+1:Nat):Int)) H:=rfl;have hc:=ED ds (k+1);generalize ((k+1:Nat):Int)=L at ha hc;simp[tK,dO,h1,dM,cY,m2,h3,mC,ha,lK,kS,hc]
theorem z1u (hl:ds.length<=100) (h1:aB 1 ρ=λH=>.ok (.tup ds) H):yO ρ H=.ok (.tup (ds.drop 1++ds.take 1)) H:=by have c1:gH ds (some 1) none=ds.drop 1:=ED ds 1;have c2:gH ds none (some 1)=ds.take 1:=yH ds 1;have a:=qF (ds.drop 1) (ds.take 1) (by simp;omega) (H:=H);generalize ds.drop 1=as at c1 a;generalize ds.take 1=bs at c2 a;simp[yO,m2,dO,h1,dM,cY,mC,lK,kS,c1,c2,a]
def yP:M (List Dv):=aA (m2 bD (m2 bD qI (aM (aA (aB 4) aC))) tK) (aA (m2 bD (m2 bD qI (aM (aA (aB 4) aC))) yN) (aA (m2 bD qI tK) aC))
def fX (ds:List Dv) (k:Nat) (y:Dv):List Dv:=[.tup (ds.take k++[y]++ds.drop (k+1)),.tup (ds.take k++[y]++ds.drop k),.tup (ds.take k++ds.drop (k+1))]
theorem z1v (hl:ds.length<=100) (h1:aB 1 ρ=λH=>.ok (.tup ds) H) (h3:aB 3 ρ=λH=>.ok (.int (k:Int)) H) (h4:aB 4 ρ=λH=>.ok y H):aR yP ρ H=.ok (.ref H.length) (H++[.lst (fX ds k y)]):=by have a:=z1r (H:=H) h1 h3;have b:=z1t (H:=H) h1 h3;have c:=z1s (H:=H) h1 h3;have p1:=qF (ds.take k) [y] (by simp;omega) (H:=H);have p2:=qF (ds.take k++[y]) (ds.drop (k+1)) (by simp;omega) (H:=H);have p3:=qF (ds.take k++[y]) (ds.drop k) (by simp;omega) (H:=H);have p4:=qF (ds.take k) (ds.drop (k+1)) (by simp;omega) (H:=H);unfold fX yP;generalize ds.take k++[y]++ds.drop (k+1)=z1 at p2;generalize ds.take k++[y]++ds.drop k=z2 at p3;generalize ds.take k++ds.drop (k+1)=z3 at p4;generalize ds.take k++[y]=z4 at p1 p2 p3;generalize ds.take k=z5 at a p1 p4;generalize ds.drop k=z6 at c p3;generalize ds.drop (k+1)=z7 at b p2 p4;generalize qI=A at a;generalize tK=B at b;generalize yN=C at c;simp[aR,aA,aC,m2,a,b,c,aM,h4,lim,p1,p2,p3,p4]
theorem z1w (h:∀x∈ds,T0 H x) (hy:T0 H y) (hl:ds.length<=100):∀d∈fX ds k y,TK 1 H d:=by
 have tk:∀zs:List Dv,zs.length<=500->(∀x∈zs,x∈ds∨x=y)->TK 1 H (.tup zs):=λzs hz hm=>TK.tup hz λx hx=>by
  rcases hm x hx with z|rfl
  ·exact h x z
  ·exact hy
 intro d hd;simp only[fX,ba,sj,or_false]at hd
 rcases hd with rfl|rfl|rfl
 ·refine tk _ (by simp;omega) λx hx=>?_;simp only[br,cw]at hx
  rcases hx with(z|z)|z
  ·exact .inl (mm z)
  ·exact .inr z
  ·exact .inl (mf z)
 ·refine tk _ (by simp;omega) λx hx=>?_;simp only[br,cw]at hx
  rcases hx with(z|z)|z
  ·exact .inl (mm z)
  ·exact .inr z
  ·exact .inl (mf z)
 ·refine tk _ (by simp;omega) λx hx=>?_
  rcases br.mp hx with z|z
  ·exact .inl (mm z)
  ·exact .inl (mf z)
def yQ:M (List Dv):=(aA (aE (f1 jI) (aA (aB 1) aC)) (aA (wD (aB 1) (cY (m1 gZ (mC (.int 1))))) (aA (mC .non) (aA (mC .edc) (aA (mC (.int 0)) (aA yO aC))))))
theorem z1x (hl:ds.length<=100) (h1:aB 1 ρ=λH=>.ok (.tup ds) H):aR yQ ρ H=.ok (.ref (H++[Ob.lst ds]).length) ((H++[.lst ds])++[.lst [.ref H.length,.tup ds.reverse,.non,.edc,.int 0,.tup (ds.drop 1++ds.take 1)]]):=by
 have r:=z1u (H:=H++[Ob.lst ds]) hl h1;have hg:∀H,gZ (.int 1) H=.ok (.int (-1)) H:=λH=>rfl;have hz:ds.length<=1000000:=by omega
 have hl0:f1 jI [.tup ds] H=.ok (.ref H.length) (H++[.lst ds]):=by simp[f1,jI,dQ,pH,eB,lim,hz]
 unfold yQ;generalize ds.drop 1++ds.take 1=zs at r;generalize yO=R at r;generalize hf:f1 jI=F at hl0;simp[aR,hf,aA,aE,h1,aC,hl0,wD,cY,m1,mC,hg,lK,BJ,r,lim]
end
def rq (a b c:Nat):List Dv:=[.bl (a==c),.bl (a+1==c),.bl (a+2==c)].take b
def rs1:M (List Dv):=(aA (m1 (bF (dD none tbl0)) (aB 1)) (aA (m1 (bF (dD none tbl1)) (aB 1)) (aA (m1 (bF (dD none tbl2)) (aB 1)) aC)))
def rs2:M (List Dv):=(aA (m1 (bF (dD none tbl3)) (aB 1)) (aA (m1 (bF (dD none tbl4)) (aB 1)) (aA (m1 (bF (dD none tbl5)) (aB 1)) aC)))
def rs3:M (List Dv):=(aA (m1 (bF (dD none tbl6)) (aB 1)) (aA (m1 (bF (dD none tbl7)) (aB 1)) (aA (m1 (bF (dD none tbl8)) (aB 1)) aC)))
def mY:M (List Dv):=(aA (m1 (bF (dD none tbl9)) (aB 1)) (aA (m1 (bF (dD none tbl10)) (aB 1)) (aA (m1 (bF (dD none tbl11)) (aB 1)) aC)))
def EG:M (List Dv):=(aA (m1 (bF (dD none tbl12)) (aB 1)) (aA (m1 (bF (dD none tbl13)) (aB 1)) aC))
def yR:M (List Dv):=bW (aS cJ (aA (mC (.int 14)) aC)) [none,some 3] (aG 0) (bG (m2 aQ (aB 1) (aB 0))) (bS (aB 0))
def MU:MS:=aW (cA (bG (m1 (bF (dD none tblV)) (aB 1)))) (aO (mC .non)) bH
theorem z1y:hW=aL (aJ (aR rs1) (aG 3)) (aL (aJ (m2 bD (aB 3) (aR rs2)) (aG 3)) (aL (aJ (m2 bD (aB 3) (aR rs3)) (aG 3)) (aL (aJ (m2 bD (aB 3) (aR mY)) (aG 3)) (aL (aJ (m2 bD (aB 3) (aR EG)) (aG 3)) (aL MU (aO (bZ yR))))))):=rfl
section
variable{c:Nat}(hc:c=0∨c=12) {H:Hs}{x0 x2 x3:Option Dv}
include hc
theorem z1z:aR rs1 [x0,some (.exc c),x2,x3] H=.ok (.ref H.length) (H++[.lst (rq 0 3 c)]):=by rcases hc with rfl|rfl <;> rfl
theorem z20:aR rs2 [x0,some (.exc c),x2,x3] H=.ok (.ref H.length) (H++[.lst (rq 3 3 c)]):=by rcases hc with rfl|rfl <;> rfl
theorem z21:aR rs3 [x0,some (.exc c),x2,x3] H=.ok (.ref H.length) (H++[.lst (rq 6 3 c)]):=by rcases hc with rfl|rfl <;> rfl
theorem z22:aR mY [x0,some (.exc c),x2,x3] H=.ok (.ref H.length) (H++[.lst (rq 9 3 c)]):=by rcases hc with rfl|rfl <;> rfl
theorem z23:aR EG [x0,some (.exc c),x2,x3] H=.ok (.ref H.length) (H++[.lst (rq 12 2 c)]):=by rcases hc with rfl|rfl <;> rfl
theorem z24:MU [x0,some (.exc c),x2,x3] H=.nx [x0,some (.exc c),x2,x3] H:=by rcases hc with rfl|rfl <;> rfl
theorem z25 {i:Nat}(e:getL H i=some ((bf 14).map λk=>Dv.bl (k==c))):yR [x0,some (.exc c),x2,some (.ref i)] H=.ok [.int c] H:=by
 have h:yR [x0,some (.exc c),x2,some (.ref i)] H=.ok ((bf 14).filterMap λk=>if k==c then some (.int k)else none) H:=
  hY (bf 14) (λk=>if k==c then some (.int (k:Nat))else none) (λρ=>∃a,ρ=[a,some (.ref i)]) (src:=cH 0 14) rfl rfl ⟨_,rfl⟩ rfl (λk hk ρ ⟨a,e'⟩=>by
   subst e';have hk':k<14:=by simpa using hk
   refine⟨.int (0+k),[some (.int (0+k)),some (.ref i)],rfl,rfl,⟨_,rfl⟩, ?_⟩;have ht:=oP (H:=H) (j:=k) e (by simpa using hk');rw[List.getElem_map,nq]at ht;have h0:(0+(k:Int))=(k:Int):=by omega
   rw[h0,nq]
   cases q:k==c with
   |true=>simp[bG,m2,aB,ht,q,eJ]
   |false=>simp[bG,m2,aB,ht,q,eJ]) (by simp)
 rw[h]
 rcases hc with rfl|rfl <;> rfl
theorem z26:∃i H',rK 4 14 hW (.ex c H)=.ok (.ref i) H'/\getL H' i=some [.int c]/\Fr [] H H':=by
 obtain⟨H1,hH1⟩:∃H1,H1=H++[Ob.lst (rq 0 3 c)]:=⟨_,rfl⟩
 have g1:getL H1 H.length=some (rq 0 3 c):=by rw[hH1];exact dG
 have f1:Fr [] H H1:=by rw[hH1];exact Fr.app
 have w1:∀x0 x2 x3,aJ (aR rs1) (aG 3) [x0,some (.exc c),x2,x3] H=.nx [x0,some (.exc c),x2,some (.ref H.length)] H1:=λx0 x2 x3=>by unfold aJ;rw[z1z hc,hH1];rfl
 have step:∀(G0:Hs) (i:Nat) (xs ys:List Dv) (m:M (List Dv)),getL G0 i=some xs->(∀x0 x2 x3 (G:Hs),aR m [x0,some (.exc c),x2,x3] G=.ok (.ref G.length) (G++[.lst ys]))->xs.length+ys.length<=500->
   ∃G' j,(∀x0 x2,aJ (m2 bD (aB 3) (aR m)) (aG 3) [x0,some (.exc c),x2,some (.ref i)] G0=.nx [x0,some (.exc c),x2,some (.ref j)] G')/\getL G' j=some (xs++ys)/\Fr [] G0 G':=by
  intro G0 i xs ys m e hm hl;refine⟨_,_,λx0 x2=>?_,dG (H:=G0++[.lst ys]) (x:=xs++ys),Fr.trans (T:=[]) Fr.app Fr.app (by simp)⟩;have a:=qE (H:=G0++[.lst ys]) (kB e) (dG (H:=G0) (x:=ys)) hl;unfold aJ;rw[sZ rfl (hm _ _ _ _) a];rfl
 obtain⟨H2,i2,w2,g2,f2⟩:=step H1 H.length (rq 0 3 c) (rq 3 3 c) rs2 g1 (λ_ _ _ _=>z20 hc) (by simp[rq]);obtain⟨H3,i3,w3,g3,f3⟩:=step H2 i2 _ (rq 6 3 c) rs3 g2 (λ_ _ _ _=>z21 hc) (by simp[rq]);obtain⟨H4,i4,w4,g4,f4⟩:=step H3 i3 _ (rq 9 3 c) mY g3 (λ_ _ _ _=>z22 hc) (by simp[rq]);obtain⟨H5,i5,w5,g5,f5⟩:=step H4 i4 _ (rq 12 2 c) EG g4 (λ_ _ _ _=>z23 hc) (by simp[rq]);have g5':getL H5 i5=some ((bf 14).map λk=>Dv.bl (k==c)):=by rw[g5];rfl
 refine⟨H5.length,H5++[.lst [.int c]], ?_,dG,(((f1.trans f2 (by simp)).trans f3 (by simp)).trans f4 (by simp)).trans (T:=[]) (f5.trans (T:=[]) Fr.app (by simp)) (by simp)⟩;have hlt:c<14:=by omega
 show(if c<14 then rJ (hW (mJ 4 (.exc c)) H)else .bad)=_;rw[if_pos hlt,z1y];show rJ (aL _ _ [none,some (.exc c),none,none] H)=_;rw[bJ (w1 _ _ _),bJ (w2 _ _),bJ (w3 _ _),bJ (w4 _ _),bJ (w5 _ _),bJ (z24 hc)];have hr:bZ yR [none,some (.exc c),none,some (.ref i5)] H5=.ok (.ref H5.length) (H5++[.lst [.int c]]):=by unfold bZ;rw[z25 hc g5'];rfl
 unfold aO;rw[hr];rfl
theorem EH {caps:List Nat}{vs:List Dv}{me:M Dv}{ρ:Ev}{H0:Hs}(hρ:nX caps ρ=some vs) (hm:me (vs.map some) H0=.ex c H) (f0:Fr [] H0 H):
  ∃H',mB (m2 cC (iO caps 4 14 hW me) (aR (aA (mC (.int c)) aC))) ρ H0=.ok false H'/\Fr [] H0 H':=by
 obtain⟨i,H1,e1,g1,f1⟩:=z26 hc (H:=H);refine⟨H1++[.lst [.int c]], ?_,f0.trans (f1.trans (T:=[]) Fr.app (by simp)) (by simp)⟩;have a:iO caps 4 14 hW me ρ H0=.ok (.ref i) H1:=by unfold iO;rw[hρ];show rK 4 14 hW (me (vs.map some) H0)=_;rw[hm,e1]
 have b:aR (aA (mC (.int c)) aC) ρ H1=.ok (.ref H1.length) (H1++[.lst [.int c]]):=rfl;have d:cC (.ref i) (.ref H1.length) (H1++[.lst [.int c]])=.ok (.bl false) (H1++[.lst [.int c]]):=by have q1:=kB (l:=[.lst [.int c]]) g1;have q2:=dG (H:=H1) (x:=[.int c]);simp[cC,cB,bV,q1,q2,bU,bM,gG]
 unfold mB m2;rw[a,Rs.bind_ok,b,Rs.bind_ok,d];rfl
end
def EI:M (List Dv):=(aA (mC (.int 0)) (aA (mC (.int 0)) (aA (mC (.int 0)) (aA (mC (.int 0)) (aA (mC (.int 1)) (aA (mC (.int 2)) (aA (mC (.int 3)) (aA (mC (.int 4)) (aA (mC (.int 5)) (aA (mC (.int 6)) (aA (mC (.int 7)) (aA (mC (.int 8)) aC))))))))))))
def l12:List Dv:=[.int 0,.int 0,.int 0,.int 0,.int 1,.int 2,.int 3,.int 4,.int 5,.int 6,.int 7,.int 8]
theorem z27:xE=aL (aJ (aE F_qv (aA (aB 0) (aA (m2 bD (aE (f1 bI) (aA (aB 1) aC)) (mC (.int 1))) aC))) (aG 3)) (aL (aJ (m2 aQ (aR tJ) (aE F_qv (aA (aB 0) (aA (mC (.int 10)) aC)))) (aG 4)) (aL (aJ (aR yP) (aG 5)) (aL (aJ (m2 bD (aB 5) (aR yQ)) (aG 5)) (aO (m2 aQ (aB 5) (m2 aQ (aR EI) (aE F_qv (aA (aB 0) (aA (mC (.int 12)) aC))))))))):=rfl
def n12:List Nat:=[0,0,0,0,1,2,3,4,5,6,7,8]
theorem z28 (j:Nat) (hj:j<12):∃v:Nat,v<9/\l12[j]?=some (.int v):=by
 have h:∀v∈n12,v<9:=by decide
 have hj':j<n12.length:=hj;have e:l12=n12.map λv=>Dv.int (v:Nat):=rfl;refine⟨n12[j],h _ (dj hj'), ?_⟩;rw[e,di,ar hj'];rfl
theorem z29 {st:Nat}{H:Hs}{ns:List Int}{N:Int}(s:Com.St st H) (hl:ns.length<=50):∃d H',F_qr [.ref st,.tup (ns.map Dv.int),.int N] H=.ok d H'/\TK 1 H' d/\Com.St st H'/\Fr [st] H H':=by
 have hz:(ns.map Dv.int).length=ns.length:=by simp
 have hd:(ns.map Dv.int).length<=100:=by omega
 have ht:∀H:Hs,∀x∈ns.map Dv.int,T0 H x:=λH x hx=>by
  obtain⟨y,_,rfl⟩:=df.mp hx
  trivial
 generalize ns.map Dv.int=ds at hz hd ht;obtain⟨r,H1,r0,r1,t1,f1',s1⟩:=iV ((ds.length:Int)+1) s (by omega) (by omega);have w1:aJ (aE F_qv (aA (aB 0) (aA (m2 bD (aE (f1 bI) (aA (aB 1) aC)) (mC (.int 1))) aC))) (aG 3) [some (.ref st),some (.tup ds),some (.int N),none,none,none] H=.nx [some (.ref st),some (.tup ds),some (.int N),some (.int r),none,none] H1:=by have e:=tH (H:=H) (ds:=ds) (i:=1) (ρ:=[some (.ref st),some (.tup ds),some (.int N),none,none,none]) rfl;have ha:bD (.int (ds.length:Int)) (.int 1) H=.ok (.int ((ds.length:Int)+1)) H:=rfl;generalize hM:aE (f1 bI) (aA (aB 1) aC)=M at e;generalize (ds.length:Int)+1=L1 at ha t1;generalize (ds.length:Int)=L at e ha;simp[aJ,aE,aA,aB,m2,e,mC,ha,aC,t1,aG]
 obtain⟨k,rfl⟩:∃k:Nat,r=k:=⟨r.toNat,by omega⟩
 obtain⟨y,H2,w2,ty,s2,f2⟩:=z1q (N:=N) (ρ:=[some (.ref st),some (.tup ds),some (.int N),some (.int (k:Int)),none,none]) s1 rfl rfl;have w2':aJ (m2 aQ (aR tJ) (aE F_qv (aA (aB 0) (aA (mC (.int 10)) aC)))) (aG 4) [some (.ref st),some (.tup ds),some (.int N),some (.int (k:Int)),none,none] H1=.nx [some (.ref st),some (.tup ds),some (.int N),some (.int (k:Int)),some y,none] H2:=by unfold aJ;rw[w2];rfl
 have e3:=z1v (H:=H2) (ds:=ds) (k:=k) (y:=y) (ρ:=[some (.ref st),some (.tup ds),some (.int N),some (.int (k:Int)),some y,none]) hd rfl rfl rfl;have tk3:=z1w (H:=H2) (k:=k) (ht H2) ty hd;have w3:aJ (aR yP) (aG 5) [some (.ref st),some (.tup ds),some (.int N),some (.int (k:Int)),some y,none] H2=.nx [some (.ref st),some (.tup ds),some (.int N),some (.int (k:Int)),some y,some (.ref H2.length)] (H2++[.lst (fX ds k y)]):=by unfold aJ;rw[e3];rfl
 have f3:Fr [] H2 (H2++[Ob.lst (fX ds k y)]):=Fr.app;have g3:getL (H2++[Ob.lst (fX ds k y)]) H2.length=some (fX ds k y):=dG;have s3:=s2.fr f3 (by simp);generalize H2++[Ob.lst (fX ds k y)]=H3 at w3 f3 g3 s3;generalize H2.length=i3 at w3 g3;have tk3':∀d∈fX ds k y,TK 1 H3 d:=λd hd=>(tk3 d hd).fr (f3.mono (T:=[st]) (by simp)) s3;have e4:=z1x (H:=H3) (ds:=ds) (ρ:=[some (.ref st),some (.tup ds),some (.int N),some (.int (k:Int)),some y,some (.ref i3)]) hd rfl;generalize hml:[Dv.ref H3.length,.tup ds.reverse,.non,.edc,.int 0,.tup (ds.drop 1++ds.take 1)]=ml at e4;have f4:Fr [] H3 ((H3++[Ob.lst ds])++[Ob.lst ml]):=Fr.trans (T:=[]) Fr.app Fr.app (by simp);have g4:getL ((H3++[Ob.lst ds])++[Ob.lst ml]) (H3++[Ob.lst ds]).length=some ml:=dG;have g4a:getL ((H3++[Ob.lst ds])++[Ob.lst ml]) H3.length=some ds:=kB (dG (H:=H3) (x:=ds));have tk4:∀d∈ml,TK 1 ((H3++[Ob.lst ds])++[Ob.lst ml]) d:=λd hd'=>by
  rw[<-hml]at hd';simp only[ba,sj,or_false]at hd'
  rcases hd' with rfl|rfl|rfl|rfl|rfl|rfl
  ·exact TK.of ⟨_,g4a⟩ (λ_ z=>by cases z)
  ·exact TK.tup (by simp;omega) λx hx=>ht _ x (by simpa using hx)
  ·exact TK.of trivial (λ_ z=>by cases z)
  ·exact TK.of trivial (λ_ z=>by cases z)
  ·exact TK.of trivial (λ_ z=>by cases z)
  ·exact TK.tup (by simp;omega) λx hx=>by
    rcases br.mp hx with z|z
    ·exact ht _ x (mf z)
    ·exact ht _ x (mm z)
 have lm:ml.length=6:=by rw[<-hml];rfl
 generalize (H3++[Ob.lst ds])++[Ob.lst ml]=H4 at e4 f4 g4 g4a tk4;generalize (H3++[Ob.lst ds]).length=i4 at e4 g4;have s4:=s3.fr f4 (by simp);have g3':=f4.getL g3 (by simp);have lb:(fX ds k y).length=3:=rfl;have a5:=qE (H:=H4) g3' g4 (by omega);have w4:aJ (m2 bD (aB 5) (aR yQ)) (aG 5) [some (.ref st),some (.tup ds),some (.int N),some (.int (k:Int)),some y,some (.ref i3)] H3=.nx [some (.ref st),some (.tup ds),some (.int N),some (.int (k:Int)),some y,some (.ref H4.length)] (H4++[.lst (fX ds k y++ml)]):=by unfold aJ;rw[sZ rfl e4 a5];rfl
 have f5:Fr [] H4 (H4++[Ob.lst (fX ds k y++ml)]):=Fr.app;have g5:getL (H4++[Ob.lst (fX ds k y++ml)]) H4.length=some (fX ds k y++ml):=dG;have s5:=s4.fr f5 (by simp);have l5:=s4.lt;have tk5:∀d∈fX ds k y++ml,TK 1 (H4++[Ob.lst (fX ds k y++ml)]) d:=λd hd'=>by
  rcases br.mp hd' with z|z
  ·exact((tk3' d z).fr (f4.mono (T:=[st]) (by simp)) s4).fr (f5.mono (T:=[st]) (by simp)) s5
  ·exact(tk4 d z).fr (f5.mono (T:=[st]) (by simp)) s5
 have l9:(fX ds k y++ml).length=9:=by rw[bw,lb,lm]
 generalize hL:fX ds k y++ml=L at w4 f5 g5 s5 tk5 l9;generalize H4++[Ob.lst L]=H5 at w4 f5 g5 s5 tk5;have i5:H4.length≠st:=by omega
 generalize H4.length=i5n at w4 g5 i5;have e6:aR EI [some (.ref st),some (.tup ds),some (.int N),some (.int (k:Int)),some y,some (.ref i5n)] H5=.ok (.ref H5.length) (H5++[.lst l12]):=rfl;have f6:Fr [] H5 (H5++[Ob.lst l12]):=Fr.app;have g6:getL (H5++[Ob.lst l12]) H5.length=some l12:=dG;have s6:=s5.fr f6 (by simp);have l6:=s5.lt;have i6:H5.length≠st:=by omega
 generalize H5++[Ob.lst l12]=H6 at e6 f6 g6 s6;generalize H5.length=i6n at e6 g6 i6;obtain⟨q,H7,q0,q1',t7,f7,s7⟩:=iV 12 s6;have g6':=f7.getL g6 (by simpa using i6);have g5':=f7.getL (f6.getL g5 (by simp)) (by simpa using i5);obtain⟨j,rfl⟩:∃j:Nat,q=j:=⟨q.toNat,by omega⟩
 obtain⟨v,v9,ev⟩:=z28 j (by omega);have hj:j<l12.length:=(az.mp ev).1;have x1:=oP g6' hj;rw[(az.mp ev).2]at x1;have hv:v<L.length:=by omega
 have x2:=oP g5' hv;have f57:Fr [st] H5 H7:=(f6.mono (T:=[st]) (by simp)).trans f7 (by simp);refine⟨L[v],H7, ?_,(tk5 _ (dj hv)).fr f57 s7,s7, ?_⟩
 ·show aZ (xE [some (.ref st),some (.tup ds),some (.int N),none,none,none] H)=_;rw[z27,bJ w1,bJ w2',bJ w3,bJ w4];generalize aR EI=MM at e6;simp[aO,m2,aB,e6,aE,aA,mC,aC,t7,x1,x2,aZ]
 ·exact((((f1'.trans f2 (by simp)).trans f3 (by simp)).trans f4 (by simp)).trans f5 (by simp)).trans f57 (by simp)
def GT (n:Nat) (d:Dv):Prop:=∃ns:List Int,d=.tup (ns.map Dv.int)/\(∀x∈ns,0<=x/\x<n)/\ns.length<=7
theorem GT.tk {n:Nat}{d:Dv}(h:GT n d) (H:Hs):TK 1 H d:=by
 obtain⟨ns,rfl,_,l⟩:=h;exact TK.tup (by simp;omega) λx hx=>by
  obtain⟨y,_,rfl⟩:=df.mp hx
  trivial
section
variable{n st:Nat}{ps:List (Int×Int)}{H:Hs}
theorem z2a {mi:M Src}{cap:List (Option Nat)}{sg:dC}{t:M Bool}{m:MC}{ρ ρ':Ev}{H H1 H':Hs}{src:Src}{acc:List Dv}(e:mi ρ H=.ok src H1) (h:fW src sg t m src.n 0 (jW cap ρ) H1 []=.ok (ρ',acc) H'):bW mi cap sg t m ρ H=.ok acc H':=by unfold bW;rw[e,Rs.bind_ok,h]
def c4:M (List Dv):=bW (aS cJ (aA (mC (.int 4)) aC)) [none,some 2,some 3] (aG 0) dJ (bS (aE F_qt (aA (aB 1) (aA (aB 2) aC))))
theorem z2b (o:OrdP n ps) (s:Com.St st H) {x0 x1 x4 x5 x6 x7 x8 x9 x10 x11:Option Dv}:∃ds H',c4 [x0,x1,some (.ref st),some (aH n ps),x4,x5,x6,x7,x8,x9,x10,x11] H=.ok ds H'/\ds.length=4/\(∀d∈ds,GT n d)/\Com.St st H'/\Fr [st] H H':=by
 obtain⟨ρ',H',acc,h,⟨a,e⟩,hl,hd,s',f'⟩:=vK (src:=cH 0 4) (sg:=aG 0) (t:=dJ) (m:=bS (aE F_qt (aA (aB 1) (aA (aB 2) aC)))) (λk ρ Hx acc=>(∃a,ρ=[a,some (.ref st),some (aH n ps)])/\acc.length=k/\(∀d∈acc,GT n d)/\Com.St st Hx/\Fr [st] H Hx)
  (λk ρ Hx acc hk ⟨⟨a,e⟩,hl,hd,s,f⟩=>by
   subst e;obtain⟨ns,Hy,e1,hr,l7,s1,f1'⟩:=z1o o s;have hk':k<4:=hk;refine⟨.int (0+k),[some (.int (0+k)),some (.ref st),some (aH n ps)],rfl,rfl,.inr ⟨Hx,[some (.int (0+k)),some (.ref st),some (aH n ps)],acc++[.tup (ns.map Dv.int)],Hy,rfl, ?_,⟨_,rfl⟩,by simp[hl],λd hd'=>?_,s1,f.trans f1' (by simp)⟩⟩
   ·refine CZ ?_ (by simp;omega);generalize aH n ps=z at e1;simp[aE,aA,aB,aC,e1]
   ·rcases br.mp hd' with z|z
    ·exact hd d z
    ·have:d=.tup (ns.map Dv.int):=by simpa using z
     exact⟨ns,this,hr,l7⟩) (λ_ _ _ _=>rfl) 4 0 [none,some (.ref st),some (aH n ps)] H [] rfl ⟨⟨_,rfl⟩,rfl,by simp,s,Fr.refl⟩
 exact⟨acc,H',z2a (src:=cH 0 4) (H1:=H) rfl h,hl,hd,s',f'⟩
def c5:M (List Dv):=bW (cI fK (dO (aE F_qh (aA (aB 3) aC)) dM (cY (mC (.int 2))))) [none] (aG 0) dJ (bS (aE (f1 hZ) (aA (aB 0) aC)))
theorem z2c {F:List Dv->Hs->Rs Dv}{z:Dv}{ρ:Ev}{H H1:Hs}{i1:Nat}{as qs:List Dv}(h3:aB 3 ρ=λH=>.ok z H) (e1:F [z] H=.ok (.ref i1) H1) (g1:getL H1 i1=some as) (c2:gH as none (some 2)=qs) (g2:getL (H1++[Ob.lst qs]) H1.length=some qs):
  cI fK (dO (aE F (aA (aB 3) aC)) dM (cY (mC (.int 2)))) ρ H=.ok (eQ H1.length qs.length) (H1++[.lst qs]):=by
 simp[cI,dO,aE,aA,h3,aC,e1,dM,cY,mC,lK,kS,g1,c2,fK,g2]
theorem z2d (o:OrdP n ps) {x0 x1 x2 x4 x5 x6 x7 x8 x9 x10 x11:Option Dv}:∃ds H',c5 [x0,x1,x2,some (aH n ps),x4,x5,x6,x7,x8,x9,x10,x11] H=.ok ds H'/\ds.length<=2/\(∀d∈ds,GT n d)/\Fr [] H H':=by
 have e1:=z0r (n:=n) (ps:=ps) (H:=H) (by have:=o.n6;omega);have g1:getL (H++[Ob.lst ((eM n ps).map aI)]) H.length=some ((eM n ps).map aI):=dG;have f1':Fr [] H (H++[Ob.lst ((eM n ps).map aI)]):=Fr.app;have hm:∀q∈eM n ps,GT n (aI q):=λq hq=>by
  have:=mem_loose.mp hq;exact⟨[q.1,q.2],rfl,λx hx=>by
   simp at hx
   rcases hx with rfl|rfl <;> omega,by simp⟩
 generalize H++[Ob.lst ((eM n ps).map aI)]=H1 at e1 g1 f1';generalize H.length=i1 at e1 g1;have c2:gH ((eM n ps).map aI) none (some 2)=((eM n ps).take 2).map aI:=by have:=yH ((eM n ps).map aI) 2;rw[<-rf]at this;exact this
 have g2:getL (H1++[Ob.lst (((eM n ps).take 2).map aI)]) H1.length=some (((eM n ps).take 2).map aI):=dG;have f2:Fr [] H1 (H1++[Ob.lst (((eM n ps).take 2).map aI)]):=Fr.app;have hsrc:cI fK (dO (aE F_qh (aA (aB 3) aC)) dM (cY (mC (.int 2)))) [x0,x1,x2,some (aH n ps),x4,x5,x6,x7,x8,x9,x10,x11] H=.ok (eQ H1.length (((eM n ps).take 2).map aI).length) (H1++[.lst (((eM n ps).take 2).map aI)]):=by exact z2c rfl e1 g1 c2 g2
 generalize hqs:(eM n ps).take 2=qs at g2 f2 hsrc;have hq2:qs.length<=2:=by rw[<-hqs,jo];exact Nat.min_le_left _ _
 have w:c5 [x0,x1,x2,some (aH n ps),x4,x5,x6,x7,x8,x9,x10,x11] H=.ok (qs.filterMap λq=>some (aI q)) (H1++[.lst (qs.map aI)]):=hY qs (λq=>some (aI q)) (λρ=>∃a,ρ=[a]) hsrc (by simp[eQ]) ⟨_,rfl⟩ (by simp[eQ,g2]) (λk hk ρ ⟨a,e⟩=>by subst e;exact⟨aI qs[k],[some (aI qs[k])],by simp[eQ,g2,hk],rfl,⟨_,rfl⟩,rfl,rfl⟩) (by omega);refine⟨qs.filterMap λq=>some (aI q),_,w, ?_,λd hd=>?_,f1'.trans f2 (by simp)⟩
 ·exact dq (mz _ _) hq2
 ·obtain⟨q,hq,e⟩:=jt.mp hd;cases e;rw[<-hqs]at hq;exact hm q (mm hq)
theorem z2e {k:Nat}{b:Bool}:F_qu (k+1) [.bl b,.bl b] H=.ok (.bl true) H:=by simp[F_qu,wL,aU,bN,aL,aW,bG,m1,bF,aB,gQ,rP,eJ,bH,aO,cM,m2,dB,cB,bV,bM,kA,aZ]
def t1:MS:=aW (cA (bG (aE (F_qu 6) (aA (aE F_q7 (aA (aB 3) (aA (aB 8) aC))) (aA (aB 9) aC))))) (aO (mC (.bl false))) bH
def t2:MS:=aW (bG (aB 9)) (aL (aJ (aE F_qa (aA (aB 3) (aA (aB 8) aC))) (aG 10)) (aW (cA (bG (aE (F_qu 6) (aA (aE F_qp (aA (aB 3) (aA (aB 8) aC))) (aA (aB 10) aC))))) (aO (mC (.bl false))) bH)) bH
def t3:MS:=aW (eI (cA (bG (aB 9))) (mB (m2 cC (iO [3,8] 4 14 hW qA) (aR (aA (mC (.int 12)) aC))))) (aO (mC (.bl false))) bH
def tS:MS:=aL (aJ (aE F_qd (aA (aB 3) (aA (aB 8) aC))) (aG 9)) (aL t1 (aL t2 t3))
theorem yS {F:List Dv->Hs->Rs Dv}{d e v:Dv}{H H':Hs}{x0 x1 x2 x4 x5 x6 x7 x9 x10 x11:Option Dv}(h:F [d,e] H=.ok v H'):aE F (aA (aB 3) (aA (aB 8) aC)) [x0,x1,x2,some d,x4,x5,x6,x7,some e,x9,x10,x11] H=.ok v H':=by simp[aE,aA,aB,aC,h]
theorem MV {S:List Dv->Hs->Rs Dv}{ma mb:M Dv}{v:Dv}{ρ:Ev}{H H1 H2:Hs}(ha:ma ρ H=.ok v H1) (hb:mb ρ H1=.ok v H2) (hs:S [v,v] H2=.ok (.bl true) H2):
  aW (cA (bG (aE S (aA ma (aA mb aC))))) (aO (mC (.bl false))) bH ρ H=.nx ρ H2:=by
 simp[aW,cA,bG,aE,aA,ha,hb,aC,hs,eJ,bH]
theorem z2f (o:OrdP n ps) {d:Dv}(h:TK 1 H d) {x0 x1 x2 x4 x5 x6 x7 x9 x10 x11:Option Dv}:
  ∃H' y9 y10,tS [x0,x1,x2,some (aH n ps),x4,x5,x6,x7,some d,x9,x10,x11] H=.nx [x0,x1,x2,some (aH n ps),x4,x5,x6,x7,some d,y9,y10,x11] H'/\Fr [] H H':=by
 obtain⟨H1,e1,f1'⟩:=z13 o h;have k1:=h.fr0 f1';obtain⟨H2,e2,f2⟩:=MG o k1;have k2:=k1.fr0 f2;have w1:aJ (aE F_qd (aA (aB 3) (aA (aB 8) aC))) (aG 9) [x0,x1,x2,some (aH n ps),x4,x5,x6,x7,some d,x9,x10,x11] H=.nx [x0,x1,x2,some (aH n ps),x4,x5,x6,x7,some d,some (.bl (eF n ps d)),x10,x11] H1:=by unfold aJ;rw[yS e1];rfl
 have w2:t1 [x0,x1,x2,some (aH n ps),x4,x5,x6,x7,some d,some (.bl (eF n ps d)),x10,x11] H1=.nx [x0,x1,x2,some (aH n ps),x4,x5,x6,x7,some d,some (.bl (eF n ps d)),x10,x11] H2:=MV (yS e2) rfl z2e;have f12:=f1'.trans f2 (T:=[]) (by simp)
 cases hB:eF n ps d with
 |true=>
  obtain⟨ns,rfl,hr,h2,nd⟩:=z1c hB;have hl6:ns.length<=30:=by
   have:ns.length<=n:=by
    have hsub:∀x∈ns,x∈(bf n).map λk:Nat=>(k:Int):=λx hx=>by have:=hr x hx;exact df.mpr ⟨x.toNat,bp.mpr (by omega),by omega⟩
    have:=nd.length_le_of_subset hsub;simpa using this
   have:=o.n6;omega
  obtain⟨H3,e3,f3⟩:=z1h (H:=H2) o hl6 h2 nd;have k3:=k2.fr0 f3;obtain⟨H4,e4,f4⟩:=z1e (H:=H3) o k3 hB h2 nd;refine⟨H4,some (.bl true),some (.int (eU (cN ps ns) (ns.length - cN ps ns))), ?_,(f12.trans f3 (by simp)).trans f4 (by simp)⟩;rw[hB]at w1 w2;have w3:aJ (aE F_qa (aA (aB 3) (aA (aB 8) aC))) (aG 10) [x0,x1,x2,some (aH n ps),x4,x5,x6,x7,some (.tup (ns.map Dv.int)),some (.bl true),x10,x11] H2=.nx [x0,x1,x2,some (aH n ps),x4,x5,x6,x7,some (.tup (ns.map Dv.int)),some (.bl true),some (.int (eU (cN ps ns) (ns.length - cN ps ns))),x11] H3:=by unfold aJ;rw[yS e3];rfl
  have w4:t2 [x0,x1,x2,some (aH n ps),x4,x5,x6,x7,some (.tup (ns.map Dv.int)),some (.bl true),x10,x11] H2=.nx [x0,x1,x2,some (aH n ps),x4,x5,x6,x7,some (.tup (ns.map Dv.int)),some (.bl true),some (.int (eU (cN ps ns) (ns.length - cN ps ns))),x11] H4:=by unfold t2;rw[oD (h1:=H2) rfl,bJ w3];exact MV (yS e4) rfl z0j
  unfold tS;rw[bJ w1,bJ w2,bJ w4];unfold t3;rw[jJ (h1:=H4) rfl];rfl
 |false=>
  rw[hB]at w1 w2;obtain⟨H3,e3,f3⟩:=z1d (H:=H2) o k2 hB;obtain⟨H4,e4,f4⟩:=EH (c:=12) (.inr rfl) (caps:=[3,8]) (vs:=[aH n ps,d]) (me:=qA) (ρ:=[x0,x1,x2,some (aH n ps),x4,x5,x6,x7,some d,some (.bl false),x10,x11]) (H0:=H2) rfl (by generalize aH n ps=z at e3;simp[qA,aE,aA,aB,aC,e3]) f3;refine⟨H4,some (.bl false),x10, ?_,f12.trans f4 (by simp)⟩;have w4:t2 [x0,x1,x2,some (aH n ps),x4,x5,x6,x7,some d,some (.bl false),x10,x11] H2=.nx [x0,x1,x2,some (aH n ps),x4,x5,x6,x7,some d,some (.bl false),x10,x11] H2:=by unfold t2;rw[jJ (h1:=H2) rfl];rfl
  unfold tS;rw[bJ w1,bJ w2,bJ w4];unfold t3;have tt:eI (cA (bG (aB 9))) (mB (m2 cC (iO [3,8] 4 14 hW qA) (aR (aA (mC (.int 12)) aC)))) [x0,x1,x2,some (aH n ps),x4,x5,x6,x7,some d,some (.bl false),x10,x11] H2=.ok false H4:=by unfold eI;rw[kZ (b:=false) (h1:=H2) rfl];exact e4
  rw[jJ tt];rfl
end
def bR:MS:=aJ (m2 aQ (aB 4) (aE F_qv (aA (aB 2) (aA (aE (f1 bI) (aA (aB 4) aC)) aC)))) (aG 7)
def bA:MS:=eN (fT (aB 5) (aE F_qr (aA (aB 2) (aA (aB 7) (aA (m2 aQ (aB 3) (mC (.int 0))) aC)))))
def lS:MS:=aJ (m2 bD (m2 bD (aB 4) (aB 5)) (aR (aA (aE (f1 mT) (aA (m2 aQ (aB 3) (mC (.int 0))) aC)) (aA (aM aC) aC)))) (aG 4)
def MW:MS:=aW (mB (m2 cC (iO [11] 4 14 hW sJ) (aR (aA (mC (.int 0)) aC)))) (aO (mC (.bl false))) bH
def MX:MS:=aW (mB (m2 cC (iO [11] 4 14 hW sL) (aR (aA (mC (.int 0)) aC)))) (aO (mC (.bl false))) bH
theorem z2g (scr:List Int):xG scr=aL (aJ (aE (F_qk scr) (aA (aB 0) (aA (aB 1) aC))) (aG 2)) (aL (aJ (aE F_qj (aA (aB 2) (aA (mC (.int 6)) aC))) (aG 3)) (aL (aJ (bZ c4) (aG 4)) (aL (aJ (m2 bD (aB 4) (bZ c5)) (aG 4)) (aL (aJ (aR aC) (aG 5)) (aL (dS (aS cJ (aA (mC (.int 6)) aC)) (aG 6) (aL bR bA)) (aL lS (aL (dS (cI fK (aB 4)) (aG 8) tS) (aL (aJ (aE F_qb (aA (aB 2) aC)) (aG 11)) (aL MW MX))))))))):=rfl
section
variable{n st:Nat}{ps:List (Int×Int)}{H:Hs}
theorem MY {m:M Dv}{ρ ρ1:Ev}{i:Nat}{H H':Hs}{v:Dv}(e:m ρ H=.ok v H') (hs:aG i v ρ=some ρ1):aJ m (aG i) ρ H=.nx ρ1 H':=by simp[aJ,e,hs]
theorem z2h {m:M (List Dv)}{ρ:Ev}{i:Nat}{H H':Hs}{ds:List Dv}{ρ1:Ev}(e:m ρ H=.ok ds H') (hs:aG i (.ref H'.length) ρ=some ρ1):aJ (bZ m) (aG i) ρ H=.nx ρ1 (H'++[.lst ds]):=by
 have ea:bZ m ρ H=.ok (.ref H'.length) (H'++[.lst ds]):=by unfold bZ;rw[e];rfl
 exact MY ea hs
theorem z2i {f:Dv->Dv->Hs->Rs Dv}{ma mb:M Dv}{ρ:Ev}{H H1 H2 H3:Hs}{x y z:Dv}(ha:ma ρ H=.ok x H1) (hb:mb ρ H1=.ok y H2) (hf:f x y H2=.ok z H3):m2 f ma mb ρ H=.ok z H3:=by unfold m2;rw[ha,Rs.bind_ok,hb,Rs.bind_ok,hf]
theorem TK.upd {j:Nat}{xs ys:List Dv}{H:Hs}(e:getL H j=some xs):∀{k:Nat}{d:Dv},TK k H d->TK k (H.set j (.lst ys)) d:=by
 have t0:∀d,T0 H d->T0 (H.set j (.lst ys)) d:=λd h=>by
  cases d with
  |ref i=>
   obtain⟨zs,ez⟩:=h
   by_cases c:j=i
   ·subst c;exact⟨_,kQ e⟩
   ·exact⟨zs,by rw[pS c];exact ez⟩
  |_=>exact h
 intro k
 induction k with
 |zero=>exact λ{d} h=>t0 d h
 |succ k ih=>exact λ{d} h=>⟨t0 d h.1,λds e=>⟨(h.2 ds e).1,λx hx=>ih ((h.2 ds e).2 x hx)⟩⟩
theorem z2j {F:List Dv->Hs->Rs Dv}{a v:Dv}{ρ:Ev}{k:Nat}{H H':Hs}(hv:aB k ρ=λH=>.ok a H) (h:F [a] H=.ok v H') {i:Nat}{ρ1:Ev}(hs:aG i v ρ=some ρ1):aJ (aE F (aA (aB k) aC)) (aG i) ρ H=.nx ρ1 H':=by simp[aJ,aE,aA,hv,aC,h,hs]
theorem z2k {j:Nat}{ds:List Dv}{x0 x1 x3 x5 x6 x7 x8 x9 x10 x11:Option Dv}(s:Com.St st H) (g:getL H j=some ds) (js:j≠st) (l1:1<=ds.length) (l2:ds.length<=50):
  ∃d H',d∈ds/\bR [x0,x1,some (.ref st),x3,some (.ref j),x5,x6,x7,x8,x9,x10,x11] H=.nx [x0,x1,some (.ref st),x3,some (.ref j),x5,x6,some d,x8,x9,x10,x11] H'/\Com.St st H'/\Fr [st] H H':=by
 obtain⟨r,H1,r0,r1,t1,f1',s1⟩:=iV (ds.length:Int) s (by omega) (by omega);have g1:=f1'.getL g (by simpa using js);obtain⟨k,rfl⟩:∃k:Nat,r=k:=⟨r.toNat,by omega⟩
 have hk:k<ds.length:=by omega
 have x:=oP g1 hk;refine⟨ds[k],H1,dj hk, ?_,s1,f1'⟩;have e:=(show aE (f1 bI) (aA (aB 4) aC) [x0,x1,some (.ref st),x3,some (.ref j),x5,x6,x7,x8,x9,x10,x11] H=.ok (.int ds.length) H by simp[aE,aA,aB,aC,f1,bI,dQ,fI,eB,g])
 unfold bR;generalize aE (f1 bI) (aA (aB 4) aC)=M at e;generalize (ds.length:Int)=L at e t1;simp[aJ,m2,aB,aE,aA,e,aC,t1,x,aG]
theorem z2l {F:List Dv->Hs->Rs Dv}{ρ:Ev}{j:Nat}{a b c d:Dv}{es fs:List Dv}{H H':Hs}{mc:M Dv}(h5:aB 5 ρ=λH=>.ok (.ref j) H) (h2:aB 2 ρ=λH=>.ok a H) (h7:aB 7 ρ=λH=>.ok b H) (hc:mc ρ H=.ok c H) (g:getL H j=some fs) (e:F [a,b,c] H=.ok d H') (g':getL H' j=some es) (hl:es.length<1000):
  eN (fT (aB 5) (aE F (aA (aB 2) (aA (aB 7) (aA mc aC))))) ρ H=.nx ρ (H'.set j (.lst (es++[d]))):=by
 have:es.length<1000000:=by omega
 simp[eN,fT,h5,iM,g,aE,aA,h2,h7,hc,aC,e,kM,g',this]
theorem z2m {i j:Nat}{ds es:List Dv}{ρ ρ1:Ev}(o:OrdP n ps) (h3:aB 3 ρ=λH=>.ok (aH n ps) H) (h4:aB 4 ρ=λH=>.ok (.ref i) H) (h5:aB 5 ρ=λH=>.ok (.ref j) H) (g4:getL H i=some ds) (g5:getL H j=some es) (hl:ds.length+es.length<=50)
  (hs:∀q,aG 4 (.ref q) ρ=some (ρ.set 4 (some (.ref q)))):∃H' q,lS ρ H=.nx (ρ.set 4 (some (.ref q))) H'/\getL H' q=some (ds++es++[.tup ((bK n).map Dv.int),.tup []])/\Fr [] H H'/\H.length<=q:=by
 have n6:=o.n6;have a1:=qE (H:=H) g4 g5 (by omega);have f1':Fr [] H (H++[Ob.lst (ds++es)]):=Fr.app;have g1:getL (H++[Ob.lst (ds++es)]) H.length=some (ds++es):=dG;generalize hH1:H++[Ob.lst (ds++es)]=H1 at a1 f1' g1;have hn:m2 aQ (aB 3) (mC (.int 0)) ρ H1=.ok (.int n) H1:=by have h0:=sP (n:=n) (ps:=ps) H1;generalize aH n ps=z at h0 h3;simp[m2,h3,mC,h0]
 have ht:f1 mT [.int (n:Int)] H1=.ok (.tup ((bK n).map Dv.int)) H1:=by
  have h0:(0:Int)<=(n:Int):=by omega
  have h1:(n:Int)<=1000:=by omega
  generalize (n:Int)=N at h0 h1;simp[f1,mT,h0,h1]
 have e2:aR (aA (aE (f1 mT) (aA (m2 aQ (aB 3) (mC (.int 0))) aC)) (aA (aM aC) aC)) ρ H1=.ok (.ref H1.length) (H1++[.lst [.tup ((bK n).map Dv.int),.tup []]]):=by generalize m2 aQ (aB 3) (mC (.int 0))=M at hn;generalize f1 mT=F at ht;generalize (n:Int)=N at hn ht;simp[aR,aA,aE,hn,aC,ht,aM,lim]
 have g2:getL (H1++[Ob.lst [.tup ((bK n).map Dv.int),.tup []]]) H1.length=some [.tup ((bK n).map Dv.int),.tup []]:=dG;have f2:Fr [] H1 (H1++[Ob.lst [.tup ((bK n).map Dv.int),.tup []]]):=Fr.app;have g1':=f2.getL g1 (by simp);generalize hts:[Dv.tup ((bK n).map Dv.int),.tup []]=ts at e2 g2 f2 g1';have lt:ts.length=2:=by rw[<-hts];rfl
 generalize H1++[Ob.lst ts]=H2 at e2 g2 f2 g1';have a2:=qE (H:=H2) g1' g2 (by rw[bw];omega);refine⟨H2++[.lst (ds++es++ts)],H2.length, ?_,dG,(f1'.trans f2 (by simp)).trans (T:=[]) Fr.app (by simp), ?_⟩
 ·have e1:m2 bD (aB 4) (aB 5) ρ H=.ok (.ref H.length) H1:=by simp[m2,h4,h5,a1]
  exact MY (z2i e1 e2 a2) (hs _)
 ·exact dq f1'.le f2.le
theorem z2n (scr:List Int) (k:Nat) (H:Hs) (x2 x3 x4 x5 x6 x7 x8 x9 x10 x11:Option Dv):∃H' y2 y3 y4 y5 y6 y7 y8 y9 y10 y11,xG scr [some .scr,some (.int k),x2,x3,x4,x5,x6,x7,x8,x9,x10,x11] H=.nx [some .scr,some (.int k),y2,y3,y4,y5,y6,y7,y8,y9,y10,y11] H':=by
 obtain⟨H1,h1,f1',s1⟩:=q5 scr k H;have w1:aJ (aE (F_qk scr) (aA (aB 0) (aA (aB 1) aC))) (aG 2) [some .scr,some (.int k),x2,x3,x4,x5,x6,x7,x8,x9,x10,x11] H=.nx [some .scr,some (.int k),some (.ref H.length),x3,x4,x5,x6,x7,x8,x9,x10,x11] H1:=by simp[aJ,aE,aA,aB,aC,h1,aG]
 obtain⟨n,cs,H2,h2,o,s2,f2⟩:=z0b s1;have w2:aJ (aE F_qj (aA (aB 2) (aA (mC (.int 6)) aC))) (aG 3) [some .scr,some (.int k),some (.ref H.length),x3,x4,x5,x6,x7,x8,x9,x10,x11] H1=.nx [some .scr,some (.int k),some (.ref H.length),some (aH n cs),x4,x5,x6,x7,x8,x9,x10,x11] H2:=by simp[aJ,aE,aA,aB,mC,aC,h2,aG]
 generalize H.length=st at s1 s2 f2 h2 w1 w2;obtain⟨ds,H3,e3,l3,gt3,s3,f3⟩:=z2b (x0:=some .scr) (x1:=some (.int k)) (x4:=x4) (x5:=x5) (x6:=x6) (x7:=x7) (x8:=x8) (x9:=x9) (x10:=x10) (x11:=x11) o s2;have w3:aJ (bZ c4) (aG 4) [some .scr,some (.int k),some (.ref st),some (aH n cs),x4,x5,x6,x7,x8,x9,x10,x11] H2=.nx [some .scr,some (.int k),some (.ref st),some (aH n cs),some (.ref H3.length),x5,x6,x7,x8,x9,x10,x11] (H3++[.lst ds]):=z2h e3 rfl;have g3:getL (H3++[Ob.lst ds]) H3.length=some ds:=dG;have s3':=s3.fr (Fr.app (S:=[]) (l:=[Ob.lst ds])) (by simp);have l3s:=s3.lt;have i3:H3.length≠st:=by omega
 generalize H3++[Ob.lst ds]=H3' at w3 g3 s3';generalize H3.length=j3 at w3 g3 i3;obtain⟨es,H4,e4,l4,gt4,f4⟩:=z2d (H:=H3') (x0:=some .scr) (x1:=some (.int k)) (x2:=some (.ref st)) (x4:=some (.ref j3)) (x5:=x5) (x6:=x6) (x7:=x7) (x8:=x8) (x9:=x9) (x10:=x10) (x11:=x11) o;have g3b:=kB (l:=[Ob.lst es]) (f4.getL g3 (by simp));have g4:getL (H4++[Ob.lst es]) H4.length=some es:=dG;have a4:=qE (H:=H4++[Ob.lst es]) g3b g4 (by omega);have ea:bZ c5 [some .scr,some (.int k),some (.ref st),some (aH n cs),some (.ref j3),x5,x6,x7,x8,x9,x10,x11] H3'=.ok (.ref H4.length) (H4++[.lst es]):=by unfold bZ;rw[e4];rfl
 have fa:Fr [] H3' (H4++[Ob.lst es]):=f4.trans (T:=[]) Fr.app (by simp);have sa:=s3'.fr fa (by simp);generalize H4++[Ob.lst es]=H5 at g3b g4 a4 ea fa sa;have w4:aJ (m2 bD (aB 4) (bZ c5)) (aG 4) [some .scr,some (.int k),some (.ref st),some (aH n cs),some (.ref j3),x5,x6,x7,x8,x9,x10,x11] H3'=.nx [some .scr,some (.int k),some (.ref st),some (aH n cs),some (.ref H5.length),x5,x6,x7,x8,x9,x10,x11] (H5++[.lst (ds++es)]):=by unfold aJ;rw[sZ rfl ea a4];rfl
 have g5:getL (H5++[Ob.lst (ds++es)]) H5.length=some (ds++es):=dG;have s5:=sa.fr (Fr.app (S:=[]) (l:=[Ob.lst (ds++es)])) (by simp);have l5s:=sa.lt;have i5:H5.length≠st:=by omega
 have gtR:∀d∈ds++es,GT n d:=λd hd=>(br.mp hd).elim (gt3 d) (gt4 d);have lR1:1<=(ds++es).length:=by rw[bw];omega
 have lR2:(ds++es).length<=6:=by rw[bw];omega
 generalize ds++es=rs at w4 g5 s5 gtR lR1 lR2;generalize H5++[Ob.lst rs]=H6 at w4 g5 s5;generalize H5.length=j5 at w4 g5 i5;have w5:aJ (aR aC) (aG 5) [some .scr,some (.int k),some (.ref st),some (aH n cs),some (.ref j5),x5,x6,x7,x8,x9,x10,x11] H6=.nx [some .scr,some (.int k),some (.ref st),some (aH n cs),some (.ref j5),some (.ref H6.length),x6,x7,x8,x9,x10,x11] (H6++[.lst []]):=rfl;have g5':=kB (l:=[Ob.lst []]) g5;have g6:getL (H6++[Ob.lst []]) H6.length=some []:=dG;have s6:=s5.fr (Fr.app (S:=[]) (l:=[Ob.lst []])) (by simp);have l6s:=s5.lt;have i6:H6.length≠st:=by omega
 have i56:j5≠H6.length:=by have:=pT g5;omega
 generalize H6++[Ob.lst []]=H7 at w5 g5' g6 s6;generalize H6.length=j6 at w5 g6 i6 i56;have w6:aS cJ (aA (mC (.int 6)) aC) [some .scr,some (.int k),some (.ref st),some (aH n cs),some (.ref j5),some (.ref j6),x6,x7,x8,x9,x10,x11] H7=.ok (cH 0 6) H7:=rfl;obtain⟨ρ',H8,w7,y6,y7,bs,e8,g8,b8,l8,tk8,s8⟩:=mO (sg:=aG 6) (b:=aL bR bA) w6 (λm ρ Hx=>∃y6 y7 bs,ρ=[some .scr,some (.int k),some (.ref st),some (aH n cs),some (.ref j5),some (.ref j6),y6,y7,x8,x9,x10,x11]/\getL Hx j5=some rs/\getL Hx j6=some bs/\bs.length=m/\(∀d∈bs,TK 1 Hx d)/\Com.St st Hx)
  (λm ρ Hx hm ⟨y6,y7,bs,e,g,b,l,tk,s⟩=>by
   subst e;have hm':m<6:=hm;obtain⟨d,Hy,hd,wr,sy,fy⟩:=z2k (x0:=some .scr) (x1:=some (.int k)) (x3:=some (aH n cs)) (x5:=some (.ref j6)) (x6:=some (.int (0+(m:Int)))) (x7:=y7) (x8:=x8) (x9:=x9) (x10:=x10) (x11:=x11) s g i5 lR1 (by omega);obtain⟨ns,rfl,_,hn7⟩:=gtR d hd;have gy:=fy.getL g (by simpa using i5);have by':=fy.getL b (by simpa using i6)
   obtain⟨d',Hz,e1,tz,sz,fz⟩:=z29 (N:=(n:Int)) sy (show ns.length<=50 by omega);have gz:=fz.getL gy (by simpa using i5);have bz:=fz.getL by' (by simpa using i6)
   have hn:m2 aQ (aB 3) (mC (.int 0)) [some .scr,some (.int k),some (.ref st),some (aH n cs),some (.ref j5),some (.ref j6),some (.int (0+(m:Int))),some (.tup (ns.map Dv.int)),x8,x9,x10,x11] Hy=.ok (.int n) Hy:=sP (n:=n) (ps:=cs) Hy;have wa:bA [some .scr,some (.int k),some (.ref st),some (aH n cs),some (.ref j5),some (.ref j6),some (.int (0+(m:Int))),some (.tup (ns.map Dv.int)),x8,x9,x10,x11] Hy=.nx [some .scr,some (.int k),some (.ref st),some (aH n cs),some (.ref j5),some (.ref j6),some (.int (0+(m:Int))),some (.tup (ns.map Dv.int)),x8,x9,x10,x11] (Hz.set j6 (.lst (bs++[d']))):=z2l rfl rfl rfl hn by' e1 bz (by omega)
   have sw:Com.St st (Hz.set j6 (.lst (bs++[d']))):=by obtain⟨a,b',es'⟩:=sz;exact⟨a,b',by rw[pS i6];exact es'⟩
   have t0w:∀{kk:Nat}{d:Dv},TK kk Hz d->TK kk (Hz.set j6 (.lst (bs++[d']))) d:=λ{kk d} h=>TK.upd bz h;refine⟨.int (0+m),[some .scr,some (.int k),some (.ref st),some (aH n cs),some (.ref j5),some (.ref j6),some (.int (0+(m:Int))),y7,x8,x9,x10,x11],_,_,rfl,rfl,(by rw[bJ wr];exact wa),_,_,bs++[d'],rfl,by rw[pS (cm i56)];exact gz,kQ bz,by simp[l],λd hd=>?_,sw⟩
   rcases br.mp hd with z|z
   ·exact t0w (((tk d z).fr fy sy).fr fz sz)
   ·have:d=d':=by simpa using z
    rw[this];exact t0w tz) (λρ Hx _=>rfl) ⟨x6,x7,[],rfl,g5',g6,rfl,by simp,s6⟩
 subst e8;have l8':bs.length=6:=l8;obtain⟨H9,j9,w8,g9,f9,l9⟩:=z2m (ρ:=[some .scr,some (.int k),some (.ref st),some (aH n cs),some (.ref j5),some (.ref j6),y6,y7,x8,x9,x10,x11]) (ρ1:=[]) o rfl rfl rfl g8 b8 (by omega) (λ_=>rfl);have w8':lS [some .scr,some (.int k),some (.ref st),some (aH n cs),some (.ref j5),some (.ref j6),y6,y7,x8,x9,x10,x11] H8=.nx [some .scr,some (.int k),some (.ref st),some (aH n cs),some (.ref j9),some (.ref j6),y6,y7,x8,x9,x10,x11] H9:=w8;have s9:=s8.fr f9 (by simp);have tk9:∀d∈rs++bs++[.tup ((bK n).map Dv.int),.tup []],TK 1 H9 d:=λd hd=>by
  rcases br.mp hd with z|z
  ·rcases br.mp z with z|z
   ·exact(gtR d z).tk H9
   ·exact(tk8 d z).fr0 f9
  ·simp only[ba,sj,or_false]at z
   rcases z with rfl|rfl
   ·refine TK.tup ?_ λx hx=>?_
    ·have:=o.n6;simp[bK];omega
    ·obtain⟨y,_,rfl⟩:=df.mp hx
     trivial
   ·exact TK.tup (by simp) (by simp)
 generalize rs++bs++[Dv.tup ((bK n).map Dv.int),.tup []]=all at g9 tk9;have w9:cI fK (aB 4) [some .scr,some (.int k),some (.ref st),some (aH n cs),some (.ref j9),some (.ref j6),y6,y7,x8,x9,x10,x11] H9=.ok (eQ j9 all.length) H9:=by simp[cI,aB,fK,g9]
 obtain⟨ρ',H10,w10,y8,y9,y10,e10,f10⟩:=mO (sg:=aG 8) (b:=tS) w9 (λ_ ρ Hx=>∃y8 y9 y10,ρ=[some .scr,some (.int k),some (.ref st),some (aH n cs),some (.ref j9),some (.ref j6),y6,y7,y8,y9,y10,x11]/\Fr [] H9 Hx)
  (λm ρ Hx hm ⟨y8,y9,y10,e,fr⟩=>by subst e;have hm':m<all.length:=hm;have gx:=fr.getL g9 (by simp);obtain⟨Hy,z9,z10,wt,fy⟩:=z2f (H:=Hx) (x0:=some .scr) (x1:=some (.int k)) (x2:=some (.ref st)) (x4:=some (.ref j9)) (x5:=some (.ref j6)) (x6:=y6) (x7:=y7) (x9:=y9) (x10:=y10) (x11:=x11) o ((tk9 _ (dj hm')).fr0 fr);exact⟨all[m],_,_,Hy,by simp[eQ,gx,hm'],rfl,wt,_,_,_,rfl,fr.trans fy (by simp)⟩)
  (λρ Hx ⟨_,_,_,_,fr⟩=>by have gx:=fr.getL g9 (by simp);simp[eQ,gx]) ⟨x8,x9,x10,rfl,Fr.refl⟩
 subst e10;have s10:=s9.fr f10 (by simp);obtain⟨d,H11,h11,td,bd,s11,f11⟩:=z0o s10;have w11:aJ (aE F_qb (aA (aB 2) aC)) (aG 11) [some .scr,some (.int k),some (.ref st),some (aH n cs),some (.ref j9),some (.ref j6),y6,y7,y8,y9,y10,x11] H10=.nx [some .scr,some (.int k),some (.ref st),some (aH n cs),some (.ref j9),some (.ref j6),y6,y7,y8,y9,y10,some d] H11:=z2j (F:=F_qb) rfl h11 rfl;have q1:∀H,TK 3 H d->F_q7 [d,.tup []] H=.ex 0 H:=λH h=>by simp[F_q7,sH,aU,bN,aL,eN,aE,aA,aB,aC,z0u h bd,aZ]
 obtain⟨H12,t12,f12⟩:=EH (c:=0) (.inl rfl) (caps:=[11]) (vs:=[d]) (me:=sJ) (ρ:=[some .scr,some (.int k),some (.ref st),some (aH n cs),some (.ref j9),some (.ref j6),y6,y7,y8,y9,y10,some d]) (H0:=H11) (H:=H11) rfl (by simp[sJ,aE,aA,aB,aM,aC,lim,q1 _ td]) Fr.refl;have q2:∀H,TK 3 H d->F_qp [d,.tup []] H=.ex 0 H:=λH h=>by simp[F_qp,oI,aU,bN,aL,aW,cA,bG,aE,aA,aB,aC,q1 H h,aZ]
 obtain⟨H13,t13,f13⟩:=EH (c:=0) (.inl rfl) (caps:=[11]) (vs:=[d]) (me:=sL) (ρ:=[some .scr,some (.int k),some (.ref st),some (aH n cs),some (.ref j9),some (.ref j6),y6,y7,y8,y9,y10,some d]) (H0:=H12) (H:=H12) rfl (by simp[sL,aE,aA,aB,aM,aC,lim,q2 _ (td.fr0 f12)]) Fr.refl;refine⟨H13,some (.ref st),some (aH n cs),some (.ref j9),some (.ref j6),y6,y7,y8,y9,y10,some d, ?_⟩;have v1:MW [some .scr,some (.int k),some (.ref st),some (aH n cs),some (.ref j9),some (.ref j6),y6,y7,y8,y9,y10,some d] H11=.nx [some .scr,some (.int k),some (.ref st),some (aH n cs),some (.ref j9),some (.ref j6),y6,y7,y8,y9,y10,some d] H12:=by exact(jJ t12:aW _ (aO (mC (.bl false))) bH _ _=_).trans rfl
 have v2:MX [some .scr,some (.int k),some (.ref st),some (aH n cs),some (.ref j9),some (.ref j6),y6,y7,y8,y9,y10,some d] H12=.nx [some .scr,some (.int k),some (.ref st),some (aH n cs),some (.ref j9),some (.ref j6),y6,y7,y8,y9,y10,some d] H13:=by exact(jJ t13:aW _ (aO (mC (.bl false))) bH _ _=_).trans rfl
 rw[z2g,bJ w1,bJ w2,bJ w3,bJ w4,bJ w5,bJ w7,bJ w8',bJ w10,bJ w11,bJ v1,v2]
end
theorem loop (scr:List Int) (m:Int):∀(f k:Nat) (H:Hs) (x1 x2 x3 x4 x5 x6 x7 x8 x9 x10 x11:Option Dv),∃ρ' H',gO (cH 0 m) (aG 1) (xG scr) f k [some .scr,x1,x2,x3,x4,x5,x6,x7,x8,x9,x10,x11] H=.nx ρ' H'
 |0,k,H,x1,x2,x3,x4,x5,x6,x7,x8,x9,x10,x11=>⟨_,H,rfl⟩
 |f+1,k,H,x1,x2,x3,x4,x5,x6,x7,x8,x9,x10,x11=>by obtain⟨H1,y2,y3,y4,y5,y6,y7,y8,y9,y10,y11,h⟩:=z2n scr k H x2 x3 x4 x5 x6 x7 x8 x9 x10 x11;obtain⟨ρ',H2,h2⟩:=loop scr m f (k+1) H1 (some (.int k)) y2 y3 y4 y5 y6 y7 y8 y9 y10 y11;refine⟨ρ',H2, ?_⟩;rw[<-h2];exact IK (d:=.int k) (ρ1:=[some .scr,some (.int k),x2,x3,x4,x5,x6,x7,x8,x9,x10,x11]) (by simp[cH]) rfl h
theorem z2o (scr:List Int):∃hh,F_q8 scr [.scr] []=.ok (.bl true) hh:=by
 have hi:∃m:Int,aS cJ (aA (aE lF (aA (mC (.int 1)) (aA (aE pG (aA (aE (f1 (fI scr)) (aA (aB 0) aC)) (aA (mC (.int 8)) aC))) aC))) aC) [some .scr,none,none,none,none,none,none,none,none,none,none,none] []=.ok (cH 0 m) []:=by
  generalize hz:(if(8:Int)<scr.length then(8:Int)else scr.length)=z;have z0:0<=z:=by split at hz <;> omega
  have z1:z<=8:=by split at hz <;> omega
  generalize hm:(if z>(1:Int)then z else 1)=m;have m0:1<=m:=by split at hm <;> omega
  have m1':m<=8:=by split at hm <;> omega
  have hr:jU m=true:=by simp[jU];omega
  refine⟨m, ?_⟩;have e1:pG [.int scr.length,.int 8] []=.ok (.int z) []:=by rw[<-hz];rfl
  have e2:lF [.int 1,.int z] []=.ok (.int m) []:=by rw[<-hm];rfl
  simp[aS,aA,aE,mC,aB,aC,f1,fI,eB,e1,e2,cJ,hr]
 obtain⟨m,hi⟩:=hi;obtain⟨ρ',H',h⟩:=loop scr m (cH 0 m).n 0 [] none none none none none none none none none none none;refine⟨H', ?_⟩;show aZ (xH scr [some .scr,none,none,none,none,none,none,none,none,none,none,none] [])=_;unfold xH K1;rw[bJ ((IJ hi).trans h)];rfl
open PySem PySem.Spec PySem.Calls PySem.W PyProof.Rows L2 L2.Mr
theorem mk_of {l:OpenLaw}{w:cn}{K:Frag}{h:cp}{mg:Str->Option af}{fa:ai}(hob:ob K=obE) (hnt:noTabs K=true) (X:K.In h) (G:h.Ns ff mg) (hfa:mg "law" = some (.ref fa)):
  ∃(fd:bq) (c P:ai),(∀(s:ag) (u:af),BindsTo s fd ⟨[u],[]⟩ [("_law_script",u)])/\tabIn K "law" = some (c,P)/\noTabs K=true /\
   ∀(base:cp) (a:ai) (ns:List Int),ns.length<=63->K.In base->base.Ns ff mg->CodeHd base c P->lJ mg base->Lawful l.prog w K mg base 14 fa fd "_law_script" P a ns:=by
 have hc:obF.all (λf=>f K)=true:=congrArg fh hob;have hf:yV K=yW:=congrArg qi hob;have e:=hfa.symm.trans (mg_of X G (v:=.ref 412) (dA hc 34 rfl));cases e;refine(λ(z:∀R:Prop,(_->R)->R)=>z _ id) λR hR=>?_;obtain⟨g0,U0,B0,C0,D0⟩:=cS (st:=BU) (n := "is_whole") (c:=201) (ps:=["thing"]) (cR hf 0 (a:=bE K 202) rfl rfl) (aY hc 65 rfl) (aY hc 100 rfl) λ_ _ _ _ _ _=>jH λ_=>rfl;obtain⟨g1,U1,B1,C1,D1⟩:=cS (st:=BV) (n := "is_between") (c:=208) (ps:=["thing","low","high"]) (cR hf 1 (a:=bE K 209) rfl rfl) (aY hc 66 rfl) (aY hc 101 rfl) λ_ _ _ _ _ _=>rO λ_ _ _=>rfl;obtain⟨g2,U2,B2,C2,D2⟩:=cS (st:=xI) (n := "is_rising") (c:=213) (ps:=["parts"]) (cR hf 2 (a:=bE K 214) rfl rfl) (aY hc 67 rfl) (aY hc 102 rfl) λ_ _ _ _ _ _=>jH λ_=>rfl;obtain⟨g3,U3,B3,C3,D3⟩:=cS (st:=BW) (n := "rounded_up") (c:=220) (ps:=["number","by"]) (cR hf 3 (a:=bE K 221) rfl rfl) (aY hc 68 rfl) (aY hc 103 rfl) λ_ _ _ _ _ _=>gB λ_ _=>rfl;obtain⟨g4,U4,B4,C4,D4⟩:=cS (st:=BX) (n := "is_thing") (c:=227) (ps:=["many","thing"]) (cR hf 4 (a:=bE K 228) rfl rfl) (aY hc 69 rfl) (aY hc 104 rfl) λ_ _ _ _ _ _=>gB λ_ _=>rfl;obtain⟨g5,U5,B5,C5,D5⟩:=cS (st:=xJ) (n := "are_things") (c:=232) (ps:=["many","thing"]) (cR hf 5 (a:=bE K 233) rfl rfl) (aY hc 70 rfl) (aY hc 105 rfl) λ_ _ _ _ _ _=>gB λ_ _=>rfl;obtain⟨g6,U6,B6,C6,D6⟩:=cS (st:=BY) (n := "is_pair") (c:=239) (ps:=["many","thing"]) (cR hf 6 (a:=bE K 240) rfl rfl) (aY hc 71 rfl) (aY hc 106 rfl) λ_ _ _ _ _ _=>gB λ_ _=>rfl;obtain⟨g7,U7,B7,C7,D7⟩:=cS (st:=xK) (n := "are_pairs") (c:=244) (ps:=["many","things"]) (cR hf 7 (a:=bE K 245) rfl rfl) (aY hc 72 rfl) (aY hc 107 rfl) λ_ _ _ _ _ _=>gB λ_ _=>rfl;obtain⟨g8,U8,B8,C8,D8⟩:=cS (st:=xM) (n := "has_alike") (c:=249) (ps:=["pairs"]) (cR hf 8 (a:=bE K 250) rfl rfl) (aY hc 73 rfl) (aY hc 108 rfl) λ_ _ _ _ _ _=>jH λ_=>rfl;obtain⟨g9,U9,B9,C9,D9⟩:=cS (st:=xN) (n := "is_complete") (c:=254) (ps:=["pairs"]) (cR hf 9 (a:=bE K 255) rfl rfl) (aY hc 74 rfl) (aY hc 109 rfl) λ_ _ _ _ _ _=>jH λ_=>rfl;obtain⟨g10,U10,B10,C10,D10⟩:=cS (st:=BZ) (n := "is_order") (c:=261) (ps:=["thing"]) (cR hf 10 (a:=bE K 262) rfl rfl) (aY hc 75 rfl) (aY hc 110 rfl) λ_ _ _ _ _ _=>jH λ_=>rfl;obtain⟨g11,U11,B11,C11,D11⟩:=cS (st:=CA) (n := "need_order") (c:=268) (ps:=["order"]) (cR hf 11 (a:=bE K 269) rfl rfl) (aY hc 76 rfl) (aY hc 111 rfl) λ_ _ _ _ _ _=>jH λ_=>rfl;obtain⟨g12,U12,B12,C12,D12⟩:=cS (st:=CB) (n := "are_loose") (c:=275) (ps:=["order","one","other"]) (cR hf 12 (a:=bE K 276) rfl rfl) (aY hc 77 rfl) (aY hc 112 rfl) λ_ _ _ _ _ _=>rO λ_ _ _=>rfl;obtain⟨g13,U13,B13,C13,D13⟩:=cS (st:=CC) (n := "may_step") (c:=282) (ps:=["order","one","other"]) (cR hf 13 (a:=bE K 283) rfl rfl) (aY hc 78 rfl) (aY hc 113 rfl) λ_ _ _ _ _ _=>rO λ_ _ _=>rfl;obtain⟨g14,U14,B14,C14,D14⟩:=cS (st:=CD) (n := "steps_of") (c:=289) (ps:=["ring"]) (cR hf 14 (a:=bE K 290) rfl rfl) (aY hc 79 rfl) (aY hc 114 rfl) λ_ _ _ _ _ _=>jH λ_=>rfl;obtain⟨g15,U15,B15,C15,D15⟩:=cS (st:=xO) (n := "is_ring") (c:=294) (ps:=["order","thing"]) (cR hf 15 (a:=bE K 295) rfl rfl) (aY hc 80 rfl) (aY hc 115 rfl) λ_ _ _ _ _ _=>gB λ_ _=>rfl;obtain⟨g16,U16,B16,C16,D16⟩:=cS (st:=xP) (n := "shown_by") (c:=299) (ps:=["order","ring"]) (cR hf 16 (a:=bE K 300) rfl rfl) (aY hc 81 rfl) (aY hc 116 rfl) λ_ _ _ _ _ _=>gB λ_ _=>rfl;obtain⟨g17,U17,B17,C17,D17⟩:=cS (st:=CF) (n := "ring_shows") (c:=306) (ps:=["order","ring"]) (cR hf 17 (a:=bE K 307) rfl rfl) (aY hc 82 rfl) (aY hc 117 rfl) λ_ _ _ _ _ _=>gB λ_ _=>rfl;obtain⟨g18,U18,B18,C18,D18⟩:=cS (st:=CG) (n := "_law_cell_at") (c:=313) (ps:=["_law_script","_law_k"]) (cR hf 18 (a:=bE K 314) rfl rfl) (aY hc 83 rfl) (aY hc 118 rfl) λ_ _ _ _ _ _=>gB λ_ _=>rfl;obtain⟨g19,U19,B19,C19,D19⟩:=cS (st:=CH) (n := "_law_state") (c:=320) (ps:=["_law_script","_law_k"]) (cR hf 19 (a:=bE K 321) rfl rfl) (aY hc 84 rfl) (aY hc 119 rfl) λ_ _ _ _ _ _=>gB λ_ _=>rfl;obtain⟨g20,U20,B20,C20,D20⟩:=cS (st:=CI) (n := "_law_take") (c:=327) (ps:=["_law_state_here","_law_many"]) (cR hf 20 (a:=bE K 328) rfl rfl) (aY hc 85 rfl) (aY hc 120 rfl) λ_ _ _ _ _ _=>gB λ_ _=>rfl;obtain⟨g21,U21,B21,C21,D21⟩:=cS (st:=CJ) (n := "_law_mixed") (c:=334) (ps:=["_law_state_here","_law_many"]) (cR hf 21 (a:=bE K 335) rfl rfl) (aY hc 86 rfl) (aY hc 121 rfl) λ_ _ _ _ _ _=>gB λ_ _=>rfl;obtain⟨g22,U22,B22,C22,D22⟩:=cS (st:=CK) (n := "_law_closed") (c:=341) (ps:=["_law_many","_law_pairs"]) (cR hf 22 (a:=bE K 342) rfl rfl) (aY hc 87 rfl) (aY hc 122 rfl) λ_ _ _ _ _ _=>gB λ_ _=>rfl;obtain⟨g23,U23,B23,C23,D23⟩:=cS (st:=xQ) (n := "_law_order") (c:=346) (ps:=["_law_state_here","_law_most"]) (cR hf 23 (a:=bE K 347) rfl rfl) (aY hc 88 rfl) (aY hc 123 rfl) λ_ _ _ _ _ _=>gB λ_ _=>rfl;obtain⟨g24,U24,B24,C24,D24⟩:=cS (st:=CL) (n := "_law_goes") (c:=353) (ps:=["_law_order_here","_law_a","_law_b"]) (cR hf 24 (a:=bE K 354) rfl rfl) (aY hc 89 rfl) (aY hc 124 rfl) λ_ _ _ _ _ _=>rO λ_ _ _=>rfl;obtain⟨g25,U25,B25,C25,D25⟩:=cS (st:=sM) (n := "_law_ring") (c:=358) (ps:=["_law_state_here","_law_order_here"]) (cR hf 25 (a:=bE K 359) rfl rfl) (aY hc 90 rfl) (aY hc 125 rfl) λ_ _ _ _ _ _=>gB λ_ _=>rfl;obtain⟨g26,U26,B26,C26,D26⟩:=cS (st:=CM) (n := "_law_loose") (c:=365) (ps:=["_law_order_here"]) (cR hf 26 (a:=bE K 366) rfl rfl) (aY hc 91 rfl) (aY hc 126 rfl) λ_ _ _ _ _ _=>jH λ_=>rfl;obtain⟨g27,U27,B27,C27,D27⟩:=cS (st:=CN) (n := "_law_bent") (c:=372) (ps:=["_law_state_here","_law_thing","_law_many"]) (cR hf 27 (a:=bE K 373) rfl rfl) (aY hc 92 rfl) (aY hc 127 rfl) λ_ _ _ _ _ _=>rO λ_ _ _=>rfl;obtain⟨g28,U28,B28,C28,D28⟩:=cS (st:=CO) (n := "_law_whole") (c:=379) (ps:=["_law_thing"]) (cR hf 28 (a:=bE K 380) rfl rfl) (aY hc 93 rfl) (aY hc 128 rfl) λ_ _ _ _ _ _=>jH λ_=>rfl;obtain⟨g29,U29,B29,C29,D29⟩:=cS (st:=sN) (n := "_law_is_ring") (c:=384) (ps:=["_law_order_here","_law_thing"]) (cR hf 29 (a:=bE K 385) rfl rfl) (aY hc 94 rfl) (aY hc 129 rfl) λ_ _ _ _ _ _=>gB λ_ _=>rfl;obtain⟨g30,U30,B30,C30,D30⟩:=cS (st:=xR) (n := "_law_same") (c:=389) (ps:=["_law_found","_law_due"]) (cR hf 30 (a:=bE K 390) rfl rfl) (aY hc 95 rfl) (aY hc 130 rfl) λ_ _ _ _ _ _=>gB λ_ _=>rfl;obtain⟨g31,U31,B31,C31,D31⟩:=cS (st:=xS) (n := "_law_ring_shows") (c:=394) (ps:=["_law_order_here","_law_ring_here"]) (cR hf 31 (a:=bE K 395) rfl rfl) (aY hc 96 rfl) (aY hc 131 rfl) λ_ _ _ _ _ _=>gB λ_ _=>rfl;obtain⟨g32,U32,B32,C32,D32⟩:=cS (st:=oJ) (n := "_law_refused") (c:=399) (ps:=["_law_call"]) (cR hf 32 (a:=bE K 400) rfl rfl) (aY hc 97 rfl) (aY hc 132 rfl) λ_ _ _ _ _ _=>jH λ_=>rfl;obtain⟨g33,U33,B33,C33,D33⟩:=cS (st:=CP) (n := "_law_bad_order") (c:=406) (ps:=["_law_state_here"]) (cR hf 33 (a:=bE K 407) rfl rfl) (aY hc 98 rfl) (aY hc 133 rfl) λ_ _ _ _ _ _=>jH λ_=>rfl;obtain⟨g34,U34,B34,C34,D34⟩:=cS (st:=mU) (n := "law") (c:=411) (ps:=["_law_script"]) (cR hf 34 (a:=bE K 412) rfl rfl) (aY hc 99 rfl) (aY hc 134 rfl) λ_ _ _ _ _ _=>jH λ_=>rfl;obtain⟨t_MOST_THINGS,c_MOST_THINGS⟩:=M3 (n := "MOST_THINGS") (v:=6) (aY hc 135 rfl);have ex_NoOrder:ExK K 37:=⟨dA hc 179 rfl,dA hc 180 rfl,dA hc 181 rfl,dA hc 182 rfl,dA hc 183 rfl,dA hc 184 rfl,EJ (aY hc 185 rfl)⟩
 have ex_NoRing:ExK K 121:=⟨dA hc 186 rfl,dA hc 187 rfl,dA hc 188 rfl,dA hc 189 rfl,dA hc 190 rfl,dA hc 191 rfl,EJ (aY hc 192 rfl)⟩
 refine hR ⟨g34,411,409,λs v=>.of_eq (D34 [v] rfl),dA hc 136 rfl,hnt,λbase a ns hlen _ _ hC hB=>⟨?_⟩⟩;obtain⟨hh,hl⟩:=z2o ns;refine⟨{ K:=K,cl:=λc=>match c with|0=>37|1=>49|2=>61|3=>73|4=>85|5=>97|6=>145|7=>157|8=>169|9=>181|10=>193|11=>109|12=>121|13=>133|_=>24,scr:=ns,sa:=a,tab:=some 409,lq:=(("law" : Str) ++ ".<locals>.") ++ "<lambda>" },F_q8 ns,hh,rfl,rfl,rfl,rfl,hl, ?_⟩;refine k7 (A:={ f_q2:=202,fd_q2:=g0,f_qn:=209,fd_qn:=g1,f_qz:=214,fd_qz:=g2,f_qq:=221,fd_qq:=g3,f_q1:=228,fd_q1:=g4,f_qm:=233,fd_qm:=g5,f_q6:=240,fd_q6:=g6,f_qx:=245,fd_qx:=g7,f_qy:=250,fd_qy:=g8,f_qg:=255,fd_qg:=g9,f_q0:=262,fd_q0:=g10,f_qo:=269,fd_qo:=g11,f_qw:=276,fd_qw:=g12,f_q3:=283,fd_q3:=g13,f_q5:=290,fd_q5:=g14,f_q7:=295,fd_q7:=g15,f_q4:=300,fd_q4:=g16,f_qp:=307,fd_qp:=g17,f_qc:=314,fd_qc:=g18,f_qk:=321,fd_qk:=g19,f_qv:=328,fd_qv:=g20,f_qi:=335,fd_qi:=g21,f_qf:=342,fd_qf:=g22,f_qj:=347,fd_qj:=g23,f_qs:=354,fd_qs:=g24,f_qt:=359,fd_qt:=g25,f_qh:=366,fd_qh:=g26,f_qr:=373,fd_qr:=g27,f_ql:=380,fd_ql:=g28,f_qd:=385,fd_qd:=g29,f_qu:=390,fd_qu:=g30,f_qa:=395,fd_qa:=g31,f_qe:=400,fd_qe:=g32,f_qb:=407,fd_qb:=g33,f_q8:=412,fd_q8:=g34,c_NoOrder:=37,c_NoNumber:=49,c_NoPairs:=61,c_Round:=73,c_NoThing:=85,c_NoRow:=97,c_TooMany:=145,c_TooFew:=157,c_NoText:=169,c_NoLine:=181,c_NoDeed:=193,c_NoSeating:=109,c_NoRing:=121,c_NoSizes:=133,t_MOST_THINGS:=t_MOST_THINGS,NE:=24,cc:=411,P:=409 }) ?_ hC hB;exact{ hK:=rfl,F_q2:=U0,B_q2:=B0,m_q2:=mg_of X G (dA hc 0 rfl),F_qn:=U1,B_qn:=B1,m_qn:=mg_of X G (dA hc 1 rfl),F_qz:=U2,B_qz:=B2,m_qz:=mg_of X G (dA hc 2 rfl),F_qq:=U3,B_qq:=B3,m_qq:=mg_of X G (dA hc 3 rfl),F_q1:=U4,B_q1:=B4,m_q1:=mg_of X G (dA hc 4 rfl),F_qm:=U5,B_qm:=B5,m_qm:=mg_of X G (dA hc 5 rfl),F_q6:=U6,B_q6:=B6,m_q6:=mg_of X G (dA hc 6 rfl),F_qx:=U7,B_qx:=B7,m_qx:=mg_of X G (dA hc 7 rfl),F_qy:=U8,B_qy:=B8,m_qy:=mg_of X G (dA hc 8 rfl),F_qg:=U9,B_qg:=B9,m_qg:=mg_of X G (dA hc 9 rfl),F_q0:=U10,B_q0:=B10,m_q0:=mg_of X G (dA hc 10 rfl),F_qo:=U11,B_qo:=B11,m_qo:=mg_of X G (dA hc 11 rfl),F_qw:=U12,B_qw:=B12,m_qw:=mg_of X G (dA hc 12 rfl),F_q3:=U13,B_q3:=B13,m_q3:=mg_of X G (dA hc 13 rfl),F_q5:=U14,B_q5:=B14,m_q5:=mg_of X G (dA hc 14 rfl),F_q7:=U15,B_q7:=B15,m_q7:=mg_of X G (dA hc 15 rfl),F_q4:=U16,B_q4:=B16,m_q4:=mg_of X G (dA hc 16 rfl),F_qp:=U17,B_qp:=B17,m_qp:=mg_of X G (dA hc 17 rfl),F_qc:=U18,B_qc:=B18,m_qc:=mg_of X G (dA hc 18 rfl),F_qk:=U19,B_qk:=B19,m_qk:=mg_of X G (dA hc 19 rfl),F_qv:=U20,B_qv:=B20,m_qv:=mg_of X G (dA hc 20 rfl),F_qi:=U21,B_qi:=B21,m_qi:=mg_of X G (dA hc 21 rfl),F_qf:=U22,B_qf:=B22,m_qf:=mg_of X G (dA hc 22 rfl),F_qj:=U23,B_qj:=B23,m_qj:=mg_of X G (dA hc 23 rfl),F_qs:=U24,B_qs:=B24,m_qs:=mg_of X G (dA hc 24 rfl),F_qt:=U25,B_qt:=B25,m_qt:=mg_of X G (dA hc 25 rfl),F_qh:=U26,B_qh:=B26,m_qh:=mg_of X G (dA hc 26 rfl),F_qr:=U27,B_qr:=B27,m_qr:=mg_of X G (dA hc 27 rfl),F_ql:=U28,B_ql:=B28,m_ql:=mg_of X G (dA hc 28 rfl),F_qd:=U29,B_qd:=B29,m_qd:=mg_of X G (dA hc 29 rfl),F_qu:=U30,B_qu:=B30,m_qu:=mg_of X G (dA hc 30 rfl),F_qa:=U31,B_qa:=B31,m_qa:=mg_of X G (dA hc 31 rfl),F_qe:=U32,B_qe:=B32,m_qe:=mg_of X G (dA hc 32 rfl),F_qb:=U33,B_qb:=B33,m_qb:=mg_of X G (dA hc 33 rfl),F_q8:=U34,B_q8:=B34,m_q8:=mg_of X G (dA hc 34 rfl),z_ValueError:=mg_none_of X G (dA hc 50 rfl),z_all:=mg_none_of X G (dA hc 51 rfl),z_any:=mg_none_of X G (dA hc 52 rfl),z_bool:=mg_none_of X G (dA hc 53 rfl),z_int:=mg_none_of X G (dA hc 54 rfl),z_isinstance:=mg_none_of X G (dA hc 55 rfl),z_len:=mg_none_of X G (dA hc 56 rfl),z_list:=mg_none_of X G (dA hc 57 rfl),z_max:=mg_none_of X G (dA hc 58 rfl),z_min:=mg_none_of X G (dA hc 59 rfl),z_range:=mg_none_of X G (dA hc 60 rfl),z_set:=mg_none_of X G (dA hc 61 rfl),z_sorted:=mg_none_of X G (dA hc 62 rfl),z_tuple:=mg_none_of X G (dA hc 63 rfl),z_zip:=mg_none_of X G (dA hc 64 rfl),c_MOST_THINGS:=mg_of X G c_MOST_THINGS,n_NoOrder:=mg_of X G (dA hc 35 rfl),n_NoNumber:=mg_of X G (dA hc 36 rfl),n_NoPairs:=mg_of X G (dA hc 37 rfl),n_Round:=mg_of X G (dA hc 38 rfl),n_NoThing:=mg_of X G (dA hc 39 rfl),n_NoRow:=mg_of X G (dA hc 40 rfl),n_TooMany:=mg_of X G (dA hc 41 rfl),n_TooFew:=mg_of X G (dA hc 42 rfl),n_NoText:=mg_of X G (dA hc 43 rfl),n_NoLine:=mg_of X G (dA hc 44 rfl),n_NoDeed:=mg_of X G (dA hc 45 rfl),n_NoSeating:=mg_of X G (dA hc 46 rfl),n_NoRing:=mg_of X G (dA hc 47 rfl),n_NoSizes:=mg_of X G (dA hc 48 rfl),ns_NoOrder:=dA hc 35 rfl,x_NoOrder:=aY hc 193 rfl,ce_NoOrder:=rfl,ns_NoRing:=dA hc 47 rfl,x_NoRing:=aY hc 194 rfl,ce_NoRing:=rfl,ktV:=dN ⟨dA hc 195 rfl,ex_NoOrder⟩ (dN ⟨dA hc 196 rfl,ex_NoRing⟩ hG),kt0:=dN ⟨dA hc 151 rfl,ex_NoOrder⟩ (dN ⟨dA hc 165 rfl,ex_NoRing⟩ hG),kt1:=dN ⟨dA hc 152 rfl,ex_NoOrder⟩ (dN ⟨dA hc 166 rfl,ex_NoRing⟩ hG),kt2:=dN ⟨dA hc 153 rfl,ex_NoOrder⟩ (dN ⟨dA hc 167 rfl,ex_NoRing⟩ hG),kt3:=dN ⟨dA hc 154 rfl,ex_NoOrder⟩ (dN ⟨dA hc 168 rfl,ex_NoRing⟩ hG),kt4:=dN ⟨dA hc 155 rfl,ex_NoOrder⟩ (dN ⟨dA hc 169 rfl,ex_NoRing⟩ hG),kt5:=dN ⟨dA hc 156 rfl,ex_NoOrder⟩ (dN ⟨dA hc 170 rfl,ex_NoRing⟩ hG),kt6:=dN ⟨dA hc 157 rfl,ex_NoOrder⟩ (dN ⟨dA hc 171 rfl,ex_NoRing⟩ hG),kt7:=dN ⟨dA hc 158 rfl,ex_NoOrder⟩ (dN ⟨dA hc 172 rfl,ex_NoRing⟩ hG),kt8:=dN ⟨dA hc 159 rfl,ex_NoOrder⟩ (dN ⟨dA hc 173 rfl,ex_NoRing⟩ hG),kt9:=dN ⟨dA hc 160 rfl,ex_NoOrder⟩ (dN ⟨dA hc 174 rfl,ex_NoRing⟩ hG),kt10:=dN ⟨dA hc 161 rfl,ex_NoOrder⟩ (dN ⟨dA hc 175 rfl,ex_NoRing⟩ hG),kt11:=dN ⟨dA hc 162 rfl,ex_NoOrder⟩ (dN ⟨dA hc 176 rfl,ex_NoRing⟩ hG),kt12:=dN ⟨dA hc 163 rfl,ex_NoOrder⟩ (dN ⟨dA hc 177 rfl,ex_NoRing⟩ hG),kt13:=dN ⟨dA hc 164 rfl,ex_NoOrder⟩ (dN ⟨dA hc 178 rfl,ex_NoRing⟩ hG),n_NearError:=mg_of X G (dA hc 49 rfl),e1:=dA hc 197 rfl,e2:=dA hc 198 rfl,e3:=dA hc 199 rfl,e4:=iC (dA hc 137 rfl) (iC (dA hc 138 rfl) (iC (dA hc 139 rfl) (iC (dA hc 140 rfl) (iC (dA hc 141 rfl) (iC (dA hc 142 rfl) (iC (dA hc 143 rfl) (iC (dA hc 144 rfl) (iC (dA hc 145 rfl) (iC (dA hc 146 rfl) (iC (dA hc 147 rfl) (iC (dA hc 148 rfl) (iC (dA hc 149 rfl) (iC (dA hc 150 rfl) UO))))))))))))),lq:=rfl,tab:=rfl,code:=C34 }
end L2.Mr.K60
open PySem PySem.W PyProof.Rows
set_option maxRecDepth 100000 in
set_option maxHeartbeats 0 in
theorem PySem.Challenge.cw_nearorders_k60_rings_known_holds : PySem.Challenge.rw_nearorders_k60_rings_known.Holds := by
  w_on; o_law
  refine holds_open (XP := XL L2.Mr.K60.vw []) (YP := L2.Mr.Ys L2.Mr.K60.ob L2.Mr.K60.obE) L2.Mr.K60.left L2.Mr.ys_of L2.Mr.ys_keeps (fun s e => xl_of s (Bool.and_eq_true_iff.mp e).1) XL.keeps (by rfl) (by rfl) (by rfl) (fun s e => recFacts_of (Bool.and_eq_true_iff.mp e).2) (by rfl) (by first | assumption | decide +kernel) (by decide +kernel) ⟨rfl,rfl,rfl,rfl,rfl,by decide +kernel⟩ ?hw ?hc
  case hw => w_witness2
  case hc => exact L2.Mr.walkK (l := PySem.Challenge.rw_nearorders_k60_rings_known) (n := 63) (k := 14) (x := "_law_script") rfl (by decide) rfl ⟨rfl,by decide,by decide⟩ rfl (fun K w mg fa h hob hnt X G hmg => L2.Mr.K60.mk_of hob hnt X G hmg)